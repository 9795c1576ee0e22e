import PyProof.Rows.All
import Wide.All
import OpenK.AllK
import Wide.FinOn
import Lean
import PyProof.EqAt
import PyProof.EqKinds
import PyProof.TupleCall
import PyProof.NeKinds
import PyProof.ConsumeWalk
import PyProof.ListRange
import PyProof.TupleOfSeq
import PyProof.Rows.SortWalk
import PyProof.CompFree
import PySem.Challenge.RW_kinhearth_k21_people_and_names
set_option Elab.async false
set_option linter.all false
set_option maxRecDepth 100000
set_option maxHeartbeats 4000000
namespace L2
open PySem PySem.Spec PyProof.Rows
abbrev Key := Sum Int Str
def keyIs : Key → Value → Bool
  | .inl k, v => Value.isInt k v
  | .inr x, v => Value.isStrOf x v
def keyH (w : World) : Key → Int
  | .inl k => hashInt k
  | .inr x => hashStr w x
theorem keyIs_shape : ∀ {k : Key} {v : Value}, keyIs k v = true → (∃ i t, k = Sum.inl i ∧ v = Value.int i t) ∨ (∃ x t, k = Sum.inr x ∧ v = Value.str x t)
  | .inl i, v, h => by
    obtain ⟨t, e⟩ := Value.isInt_shape (k := i) (v := v) h
    exact .inl ⟨i, t, rfl, e⟩
  | .inr x, v, h => by
    obtain ⟨t, e⟩ := Value.isStrOf_shape (x := x) (v := v) h
    exact .inr ⟨x, t, rfl, e⟩
theorem keyIs_int (i : Int) (t : Tok) : keyIs (.inl i) (.int i t) = true := by simp [keyIs, Value.isInt]
theorem keyIs_str (x : Str) (t : Tok) : keyIs (.inr x) (.str x t) = true := by simp [keyIs, Value.isStrOf]
theorem key_ll (a b : Int) : decide ((Sum.inl a : Key) = Sum.inl b) = (a == b) := by
  by_cases e : a = b
  · subst e; simp
  · have h : ¬ (Sum.inl a : Key) = Sum.inl b := fun q => e (Sum.inl.inj q)
    rw [decide_eq_false h]
    exact (beq_eq_false_iff_ne.mpr e).symm
theorem key_rr (a b : Str) : decide ((Sum.inr a : Key) = Sum.inr b) = decide (a = b) := by
  by_cases e : a = b
  · subst e; simp
  · have h : ¬ (Sum.inr a : Key) = Sum.inr b := fun q => e (Sum.inr.inj q)
    rw [decide_eq_false h, decide_eq_false e]
theorem key_lr (a : Int) (b : Str) : decide ((Sum.inl a : Key) = Sum.inr b) = false := decide_eq_false (fun q => nomatch q)
theorem key_rl (a : Str) (b : Int) : decide ((Sum.inr a : Key) = Sum.inl b) = false := decide_eq_false (fun q => nomatch q)
def mixKind (prog : Program) (w : World) : PySem.KeyKind prog w Key where
  is := keyIs
  hash := keyH w
  inj := fun v a b ha hb => by
    rcases keyIs_shape ha with ⟨i, t, rfl, rfl⟩ | ⟨x, t, rfl, rfl⟩
    · rcases keyIs_shape hb with ⟨j, u, rfl, e⟩ | ⟨y, u, rfl, e⟩
      · injection e with e1 _; rw [e1]
      · exact nomatch e
    · rcases keyIs_shape hb with ⟨j, u, rfl, e⟩ | ⟨y, u, rfl, e⟩
      · exact nomatch e
      · injection e with e1 _; rw [e1]
  byValue := fun k v h => by
    rcases keyIs_shape h with ⟨i, t, rfl, rfl⟩ | ⟨x, t, rfl, rfl⟩ <;> rfl
  pyHash := fun hv h => by
    rcases keyIs_shape hv with ⟨i, t, rfl, rfl⟩ | ⟨x, t, rfl, rfl⟩
    · exact wpAny_pyHash_int h
    · exact wpAny_pyHash_str h
  eqBool := fun hu hv h => by
    rcases keyIs_shape hu with ⟨i, t, rfl, rfl⟩ | ⟨x, t, rfl, rfl⟩
    · rcases keyIs_shape hv with ⟨j, u, rfl, rfl⟩ | ⟨y, u, rfl, rfl⟩
      · rw [key_ll] at h; exact wpAny_eqBool_int h
      · rw [key_lr] at h; exact SeqAt.EqAt.int_str i t y u _ _ _ _ h
    · rcases keyIs_shape hv with ⟨j, u, rfl, rfl⟩ | ⟨y, u, rfl, rfl⟩
      · rw [key_rl] at h; exact SeqAt.EqAt.str_int x t j u _ _ _ _ h
      · rw [key_rr] at h; exact wpAny_eqBool_str h
  «strs» := fun k x t v h => by
    rcases keyIs_shape h with ⟨i, u, rfl, e⟩ | ⟨y, u, rfl, e⟩
    · exact nomatch e
    · injection e with e1 _
      subst e1
      cases v <;> rfl
theorem mixKind_int (prog : Program) (w : World) (i : Int) (t : Tok) : (mixKind prog w).is (.inl i) (.int i t) = true := keyIs_int i t
theorem mixKind_str (prog : Program) (w : World) (x : Str) (t : Tok) : (mixKind prog w).is (.inr x) (.str x t) = true := keyIs_str x t
end L2
namespace L2
open PySem PySem.Spec PyProof.Rows
inductive V where
  | non | bl (b : Bool) | int (i : Int) | str (x : Str) | byt (b : Array UInt8) | flt (b : UInt64) | ref (a : Addr) | ty (n : String)
  deriving DecidableEq
def RelV : V → Value → Prop
  | .non, u => u = Value.none
  | .bl b, u => u = Value.bool b
  | .int i, u => ∃ t, u = Value.int i t
  | .str x, u => ∃ t, u = Value.str x t
  | .byt b, u => ∃ t, u = Value.bytes b t
  | .flt b, u => ∃ t, u = Value.float b t
  | .ref a, u => u = Value.ref a
  | .ty n, u => u = Value.type n
abbrev Vals : List V → List Value → Prop := Paired RelV
theorem Vals.length {xs : List V} {us : List Value} (r : Vals xs us) : xs.length = us.length := Paired.length r
theorem Vals.get : ∀ {xs : List V} {us : List Value} {i : Nat} {x : V}, Vals xs us → xs[i]? = some x → ∃ u, us[i]? = some u ∧ RelV x u
  | _, _, _, _, .nil, e => by simp at e
  | _, _, 0, _, .cons r _, e => by simp at e; subst e; exact ⟨_, rfl, r⟩
  | _, _, i + 1, x, .cons _ t, e => by
    obtain ⟨u, h1, h2⟩ := Vals.get (i := i) (x := x) t (by simpa using e)
    exact ⟨u, by simpa using h1, h2⟩
theorem Vals.append : ∀ {xs ys : List V} {us ws : List Value}, Vals xs us → Vals ys ws → Vals (xs ++ ys) (us ++ ws)
  | _, _, _, _, .nil, s => s
  | _, _, _, _, .cons r t, s => .cons r (Vals.append t s)
theorem Vals.take : ∀ {xs : List V} {us : List Value} (n : Nat), Vals xs us → Vals (xs.take n) (us.take n)
  | _, _, 0, _ => .nil
  | _, _, _ + 1, .nil => .nil
  | _, _, n + 1, .cons r t => .cons r (Vals.take n t)
theorem Vals.drop : ∀ {xs : List V} {us : List Value} (n : Nat), Vals xs us → Vals (xs.drop n) (us.drop n)
  | _, _, 0, r => r
  | _, _, _ + 1, .nil => .nil
  | _, _, n + 1, .cons _ t => Vals.drop n t
def RelO : Option V → Option Value → Prop
  | some v, some u => RelV v u
  | none, none => True
  | _, _ => False
def KV {κ : Type} : List (κ × V) → List (κ × Value) → Prop := Paired fun (p : κ × V) (q : κ × Value) => p.1 = q.1 ∧ RelV p.2 q.2
def kV : Key → V
  | .inl i => .int i
  | .inr x => .str x
inductive HO where
  /-- a list -/
  | lst (xs : List V)
  /-- a tuple (never changes) -/
  | tup (xs : List V)
  /-- a dict whose keys are ints and texts; one whose keys are tuples of ints and texts (the empty one is both) -/
  | dK (kvs : List (Key × V)) | dT (kvs : List (List Key × V))
  /-- a set of ints: its members, its size -/
  | set (S : Int → Bool) (n : Nat)
  /-- an instance of the class at C, its dict at dx, its attributes -/
  | ins (C dx : Addr) (fs : List (Str × V))
  /-- the dict of the instance at x -/
  | own (x : Addr)
  /-- the dict of an exception -/
  | xd (fs : List (Str × V))
  /-- a bound method, f of x -/
  | met (f x : Addr)
  /-- a range object lo, lo + 1, .. below hi -/
  | rng (lo hi : Int)
  /-- a thing that is known to the object (the script; a dict while a loop walks it): read, never written while it is so -/
  | frz (o : Obj) (u : HO)
  /-- a code object's table -/
  | tbl (ps : Array Value)
  /-- any other thing, by what is true of its one object (a def of one's own: SetO a S n := HO.ext fun h => ..) -/
  | ext (φ : Heap → Prop)
abbrev Hp := Addr → Option HO
def upd (H : Hp) (a : Addr) (o : HO) : Hp := fun b => if b = a then some o else H b
theorem upd_same {H : Hp} {a : Addr} {o : HO} : upd H a o a = some o := by unfold upd; rw [if_pos rfl]
theorem upd_ne {H : Hp} {a b : Addr} {o : HO} (h : b ≠ a) : upd H a o b = H b := by unfold upd; rw [if_neg h]
theorem upd_upd {H : Hp} {a : Addr} {o u : HO} : upd (upd H a o) a u = upd H a u := by
  funext b; unfold upd; split <;> rfl
theorem ne_of {H : Hp} {a b : Addr} {o u : HO} (h : H a = some o) (h' : H b = some u) (d : o ≠ u) : a ≠ b := by
  intro e; subst e; rw [h] at h'; exact d (Option.some.inj h')
theorem ne_of_none {H : Hp} {a b : Addr} {o : HO} (h : H a = some o) (h' : H b = none) : a ≠ b := by
  intro e; subst e; rw [h] at h'; cases h'
section
variable (P : Program) (w : World)
def IsTupN (h : Heap) (a : Addr) (items : Array Value) : Prop := ∃ o, h.get? a = some o ∧ o.cls = .type "tuple" ∧ ∃ n, o.data = .seq items n ∧ o.dict = none
theorem IsTupN.tup {h : Heap} {a : Addr} {items : Array Value} (x : IsTupN h a items) : IsTup h a items := let ⟨o, e, c, n, d, _⟩ := x; ⟨o, e, c, n, d⟩
theorem IsTupN.lt {h : Heap} {a : Addr} {items : Array Value} (x : IsTupN h a items) : a < h.objs.size := x.tup.lt
theorem IsTupN.new (h : Heap) (items : Array Value) : IsTupN (h.push { cls := .type "tuple", data := .seq items }) h.objs.size items := ⟨_, Heap.get?_push_size _ rfl, rfl, _, rfl, rfl⟩
def ObjOk (H : Hp) (h : Heap) (a : Addr) : HO → Prop
  | .lst xs => xs.length ≤ sizeLine ∧ ∃ (its : List Value) (n : Nat), Vals xs its ∧ h.get? a = some { cls := .type "list", data := .seq its.toArray n }
  | .tup xs => xs.length ≤ sizeLine ∧ ∃ its : List Value, Vals xs its ∧ IsTupN h a its.toArray
  | .dK kvs => kvs.length ≤ sizeLine ∧ (a == sysModules) = false ∧ ∃ vs, KV kvs vs ∧ h.DictOf (mixKind P w) a vs
  | .dT kvs => kvs.length ≤ sizeLine ∧ (a == sysModules) = false ∧ ∃ xs : List (List Key × Addr × Value),
      Paired (fun (p : List Key × V) (q : List Key × Addr × Value) => p.1 = q.1 ∧ H q.2.1 = some (.tup (p.1.map kV)) ∧ RelV p.2 q.2.2) kvs xs ∧
      ∃ o es ep, h.get? a = some o ∧ o.ExactDict ∧ o.data = .dict es ep ∧ es.toList = xs.map (entryOfKey (tupleKind (mixKind P w))) ∧ (xs.map (·.1)).Nodup
  | .set S n => h.SetOf (intKind P w) a S n
  | .ins C dx fs => H dx = some (.own a) ∧ fs.length ≤ 1000 ∧ dx ≠ a ∧ h.get? a = some (PySem.W.instObj C dx) ∧
      ∃ mA, h.Ns1 dx mA ∧ (∀ f, RelO (fs.lookup f) (mA f)) ∧ PySem.Within mA (fs.map (·.1))
  | .own _ => ∃ o, h.get? a = some o
  | .xd fs => ∃ mA, h.Ns1 a mA ∧ ∀ f, RelO (fs.lookup f) (mA f)
  | .rng lo hi => ∃ t u v, h.get? a = some { cls := .type "range", data := .fields #[.int lo t, .int hi u, .int 1 v] }
  | .frz o u => h.get? a = some o ∧ ObjOk H h a u
  | .tbl ps => h.get? a = some { cls := .none, data := .fields ps }
  | .met f x => h.get? a = some (PySem.W.methodObj (.ref f) (.ref x))
  | .ext φ => φ h ∧ (∃ o, h.get? a = some o) ∧ ∀ h1 h2 : Heap, φ h1 → (∀ o, h1.get? a = some o → h2.get? a = some o) → φ h2
def HOk (H : Hp) (h : Heap) : Prop := ∀ a o, H a = some o → ObjOk P w H h a o
end
section
variable {P : Program} {w : World} {H H' : Hp} {h h' : Heap} {a : Addr} {o : HO}
theorem ObjOk.lt (x : ObjOk P w H h a o) : a < h.objs.size := by
  cases o with
  | lst xs => obtain ⟨_, _, _, _, e⟩ := x; exact Heap.lt_size e
  | tup xs => obtain ⟨_, _, _, p⟩ := x; exact p.lt
  | dK kvs => obtain ⟨_, _, _, _, o, _, _, e, _⟩ := x; exact Heap.lt_size e
  | dT kvs => obtain ⟨_, _, _, _, o, _, _, e, _⟩ := x; exact Heap.lt_size e
  | set S n => obtain ⟨o, _, _, _, e, _⟩ := x; exact Heap.lt_size e
  | ins C dx fs => obtain ⟨_, _, _, e, _⟩ := x; exact Heap.lt_size e
  | own y => obtain ⟨_, e⟩ := x; exact Heap.lt_size e
  | xd fs => obtain ⟨_, ⟨_, _, _, e, _⟩, _⟩ := x; exact Heap.lt_size e
  | rng lo hi => obtain ⟨_, _, _, e⟩ := x; exact Heap.lt_size e
  | frz ob u => obtain ⟨e, _⟩ := x; exact Heap.lt_size e
  | tbl ps => exact Heap.lt_size (show h.get? a = some _ from x)
  | met f y => exact Heap.lt_size (show h.get? a = some _ from x)
  | ext φ => obtain ⟨_, ⟨_, e⟩, _⟩ := x; exact Heap.lt_size e
theorem Paired.mapP {α β : Type} {F G : α → β → Prop} : ∀ {l₁ : List α} {l₂ : List β}, Paired F l₁ l₂ → (∀ a b, F a b → G a b) → Paired G l₁ l₂
  | _, _, .nil, _ => .nil
  | _, _, .cons r t, f => .cons (f _ _ r) (Paired.mapP t f)
theorem ObjOk.stay (x : ObjOk P w H h a o) (k : ∀ b u, (b = a ∨ H b = some (.own a)) → h.get? b = some u → h'.get? b = some u)
    (ho : ∀ b, H b = some (.own a) → H' b = some (.own a)) (ht : ∀ b xs, H b = some (.tup xs) → H' b = some (.tup xs)) : ObjOk P w H' h' a o := by
  induction o with
  | lst xs => obtain ⟨z, its, n, r, e⟩ := x; exact ⟨z, its, n, r, k _ _ (.inl rfl) e⟩
  | tup xs => obtain ⟨z, its, r, ob, e, c⟩ := x; exact ⟨z, its, r, ob, k _ _ (.inl rfl) e, c⟩
  | dK kvs => obtain ⟨z, y, vs, r, ob, es, ep, e, c⟩ := x; exact ⟨z, y, vs, r, ob, es, ep, k _ _ (.inl rfl) e, c⟩
  | dT kvs =>
    obtain ⟨z, y, xs, r, ob, es, ep, e, c⟩ := x
    exact ⟨z, y, xs, Paired.mapP r fun p q z => ⟨z.1, ht _ _ z.2.1, z.2.2⟩, ob, es, ep, k _ _ (.inl rfl) e, c⟩
  | set S n => obtain ⟨ob, es, ep, t, e, c⟩ := x; exact ⟨ob, es, ep, t, k _ _ (.inl rfl) e, c⟩
  | ins C dx fs =>
    obtain ⟨d, z, ne, e, mA, ⟨od, es, ep, e2, c⟩, r⟩ := x
    exact ⟨ho _ d, z, ne, k _ _ (.inl rfl) e, mA, ⟨od, es, ep, k _ _ (.inr d) e2, c⟩, r⟩
  | own y => obtain ⟨ob, e⟩ := x; exact ⟨ob, k _ _ (.inl rfl) e⟩
  | xd fs => obtain ⟨mA, ⟨od, es, ep, e, c⟩, r⟩ := x; exact ⟨mA, ⟨od, es, ep, k _ _ (.inl rfl) e, c⟩, r⟩
  | rng lo hi => obtain ⟨t, u, v, e⟩ := x; exact ⟨t, u, v, k _ _ (.inl rfl) e⟩
  | frz ob u ih => obtain ⟨e, q⟩ := x; exact ⟨k _ _ (.inl rfl) e, ih q⟩
  | tbl ps =>
    have e : h.get? a = some { cls := .none, data := .fields ps } := x
    show h'.get? a = some { cls := .none, data := .fields ps }
    exact k a _ (.inl rfl) e
  | met f y =>
    have e : h.get? a = some (PySem.W.methodObj (.ref f) (.ref y)) := x
    show h'.get? a = some (PySem.W.methodObj (.ref f) (.ref y))
    exact k a _ (.inl rfl) e
  | ext φ => obtain ⟨p, ⟨o, e⟩, st⟩ := x; exact ⟨st _ _ p fun o q => k _ _ (.inl rfl) q, ⟨o, k _ _ (.inl rfl) e⟩, st⟩
theorem HOk.lt (x : HOk P w H h) (e : H a = some o) : a < h.objs.size := (x a o e).lt
theorem HOk.fresh (x : HOk P w H h) (e : h.objs.size ≤ a) : H a = none := by
  cases q : H a with
  | none => rfl
  | some u => exact absurd (Nat.lt_of_lt_of_le (x.lt q) e) (Nat.lt_irrefl _)
theorem HOk.kept (x : HOk P w H h) (k : ∀ b u, h.get? b = some u → h'.get? b = some u) : HOk P w H h' := fun a o e =>
  (x a o e).stay (fun b u _ q => k b u q) (fun _ q => q) fun _ _ q => q
theorem HOk.laid (x : HOk P w H h) (k : ∀ b u, h.get? b = some u → h'.get? b = some u) (hp : h.objs.size ≤ a) (new : ObjOk P w (upd H a o) h' a o) : HOk P w (upd H a o) h' := fun b u e => by
  have hn := x.fresh hp
  by_cases hb : b = a
  · subst hb; rw [upd_same] at e; cases e; exact new
  · rw [upd_ne hb] at e
    exact (x b u e).stay (fun c v _ q => k c v q) (fun c q => by rw [upd_ne (ne_of_none q hn)]; exact q) fun c xs q => by rw [upd_ne (ne_of_none q hn)]; exact q
end
def Rd (H : Hp) (a : Addr) (u : HO) : Prop := H a = some u ∨ ∃ o, H a = some (.frz o u)
theorem Rd.ok {P : Program} {w : World} {H : Hp} {h : Heap} {a : Addr} {u : HO} (r : Rd H a u) (x : HOk P w H h) : ObjOk P w H h a u := by
  rcases r with r | ⟨o, r⟩
  · exact x a u r
  · obtain ⟨_, q⟩ := x a _ r
    exact q
def Mut : Option HO → Prop
  | some (.lst _) => True
  | some (.dK _) => True
  | some (.dT _) => True
  | some (.set _ _) => True
  | some (.ins _ _ _) => True
  | some (.ext _) => True
  | _ => False
section
variable {P : Program} {w : World} {H : Hp} {h h' : Heap} {x e : Addr} {o' : HO}
theorem HOk.write (ok : HOk P w H h) (mu : Mut (H x)) (he : e = x ∨ H e = some (.own x)) (k : ∀ b u, b ≠ e → h.get? b = some u → h'.get? b = some u) (heo : ∃ u, h'.get? e = some u)
    (new : ObjOk P w (upd H x o') h' x o') : HOk P w (upd H x o') h' := fun b u q => by
  have nown : ∀ c y, H c = some (.own y) → c ≠ x := fun c y r z => by subst z; rw [r] at mu; exact mu
  have ntup : ∀ c xs, H c = some (.tup xs) → c ≠ x := fun c xs r z => by subst z; rw [r] at mu; exact mu
  by_cases hb : b = x
  · subst hb; rw [upd_same] at q; cases q; exact new
  · rw [upd_ne hb] at q
    by_cases hbe : b = e
    · have q' : H b = some (.own x) := by
        rcases he with z | z
        · exact absurd (hbe.trans z) hb
        · rw [hbe]; exact z
      rw [q] at q'; cases q'
      obtain ⟨v, hv⟩ := heo
      exact ⟨v, by rw [hbe]; exact hv⟩
    · refine (ok b u q).stay (fun c v hc r => k c v ?_ r) (fun c r => by rw [upd_ne (nown c b r)]; exact r) fun c xs r => by rw [upd_ne (ntup c xs r)]; exact r
      rcases hc with rfl | hc
      · exact hbe
      · rintro rfl
        rcases he with z | z
        · exact nown c b hc z
        · rw [hc] at z; cases z; exact hb rfl
end
structure Un (fs ex : List Addr) (H H' : Hp) (h h' : Heap) : Prop where
  keep : ∀ b o, h.get? b = some o → H b = none → b ∉ fs → b ∉ ex → h'.get? b = some o
  slot : ∀ b o, h.get? b = some o → H b = none → b ∈ fs → b ∉ ex → ∃ sl, h'.get? b = some { o with slots := sl }
  free : ∀ b o, h.get? b = some o → H b = none → b ∉ ex → H' b = none
  there : ∀ b o, h.get? b = some o → b ∉ ex → ∃ o', h'.get? b = some o'
  tups : ∀ b xs, H b = some (.tup xs) → H' b = some (.tup xs)
  frzs : ∀ b o u, H b = some (.frz o u) → H' b = some (.frz o u)
  tbls : ∀ b ps, H b = some (.tbl ps) → ∃ more, H' b = some (.tbl (ps ++ more))
section
variable {fs fs' ex ex' : List Addr} {H H1 H2 : Hp} {h h1 h2 h' : Heap} {a x e : Addr} {o : HO}
theorem Un.any (u : Un fs ex H H1 h h1) {b : Addr} {ob : Obj} (q : h.get? b = some ob) (n : H b = none) (hx : b ∉ ex) : ∃ sl, h1.get? b = some { ob with slots := sl } := by
  by_cases hb : b ∈ fs
  · exact u.slot b ob q n hb hx
  · exact ⟨ob.slots, u.keep b ob q n hb hx⟩
theorem Un.trans (a : Un fs ex H H1 h h1) (b : Un fs ex H1 H2 h1 h2) : Un fs ex H H2 h h2 where
  keep := fun c ob q n hc hx => b.keep c ob (a.keep c ob q n hc hx) (a.free c ob q n hx) hc hx
  slot := fun c ob q n hc hx => by
    obtain ⟨sl, e1⟩ := a.slot c ob q n hc hx
    obtain ⟨sl', e2⟩ := b.slot c _ e1 (a.free c ob q n hx) hc hx
    exact ⟨sl', e2⟩
  free := fun c ob q n hx => by
    obtain ⟨o', e1⟩ := a.there c ob q hx
    exact b.free c o' e1 (a.free c ob q n hx) hx
  there := fun c ob q hx => by
    obtain ⟨o', e1⟩ := a.there c ob q hx
    exact b.there c o' e1 hx
  tups := fun c xs q => b.tups c xs (a.tups c xs q)
  frzs := fun c ob xs q => b.frzs c ob xs (a.frzs c ob xs q)
  tbls := fun c ps q => by
    obtain ⟨m1, e1⟩ := a.tbls c ps q
    obtain ⟨m2, e2⟩ := b.tbls c _ e1
    exact ⟨m1 ++ m2, by rw [e2, Array.append_assoc]⟩
theorem Un.kept (k : ∀ b u, h.get? b = some u → h'.get? b = some u) : Un fs ex H H h h' :=
  ⟨fun b ob q _ _ _ => k b ob q, fun b ob q _ _ _ => ⟨ob.slots, k b ob q⟩, fun _ _ _ n _ => n, fun b ob q _ => ⟨ob, k b ob q⟩, fun _ _ q => q, fun _ _ _ q => q, fun _ ps q => ⟨#[], by rw [q]; simp⟩⟩
theorem Un.refl : Un fs ex H H h h := Un.kept fun _ _ q => q
theorem Un.laid (k : ∀ b u, h.get? b = some u → h'.get? b = some u) (hp : h.objs.size ≤ a) (hn : H a = none) : Un fs ex H (upd H a o) h h' where
  keep := fun b u q _ _ _ => k b u q
  slot := fun b u q _ _ _ => ⟨u.slots, k b u q⟩
  free := fun b u q n _ => by rw [upd_ne (Nat.ne_of_lt (Nat.lt_of_lt_of_le (Heap.lt_size q) hp))]; exact n
  there := fun b u q _ => ⟨u, k b u q⟩
  tups := fun b xs q => by rw [upd_ne (ne_of_none q hn)]; exact q
  frzs := fun b u xs q => by rw [upd_ne (ne_of_none q hn)]; exact q
  tbls := fun b ps q => ⟨#[], by rw [upd_ne (ne_of_none q hn), q]; simp⟩
theorem Un.write (mu : Mut (H x)) (he : e = x ∨ H e = some (.own x)) (k : ∀ b u, b ≠ e → h.get? b = some u → h'.get? b = some u) (heo : ∃ u, h'.get? e = some u) : Un fs ex H (upd H x o) h h' := by
  have hx : ∀ b, H b = none → b ≠ x := fun b n z => by subst z; rw [n] at mu; exact mu
  have hb : ∀ b, H b = none → b ≠ e := fun b n z => by
    subst z
    rcases he with r | r
    · exact hx b n r
    · rw [n] at r; cases r
  have hm : ∀ b u, H b = some u → ¬ Mut (some u) → b ≠ x := fun b u q nm z => by subst z; rw [q] at mu; exact nm mu
  refine ⟨fun b u q n _ _ => k b u (hb b n) q, fun b u q n _ _ => ⟨u.slots, k b u (hb b n) q⟩, fun b u q n _ => by rw [upd_ne (hx b n)]; exact n, fun b u q _ => ?_,
    fun b xs q => by rw [upd_ne (hm b _ q fun z => z)]; exact q, fun b u xs q => by rw [upd_ne (hm b _ q fun z => z)]; exact q, fun b ps q => ⟨#[], by rw [upd_ne (hm b _ q fun z => z), q]; simp⟩⟩
  by_cases hbe : b = e
  · subst hbe; exact heo
  · exact ⟨u, k b u hbe q⟩
end
def trk (h : Heap) (H : Hp) : List Addr := (List.range h.objs.size).filter fun a => (H a).isSome
def hidT (h : Heap) (H : Hp) : Heap := PySem.W.hideAll h (trk h H)
theorem hidT_size (h : Heap) (H : Hp) : (hidT h H).objs.size = h.objs.size := PySem.W.hideAll_size _ _
theorem hidT_get {h : Heap} {H : Hp} {b : Addr} {o : Obj} (e : h.get? b = some o) (n : H b = none) : (hidT h H).get? b = some o :=
  PySem.W.hideAll_get _ e fun hm => by
    have q : (H b).isSome = true := (List.mem_filter.mp hm).2
    rw [n] at q; simp at q
theorem of_hidT {h : Heap} {H : Hp} {b : Addr} {o : Obj} (e : (hidT h H).get? b = some o) : h.get? b = some o ∧ H b = none := by
  have e' : h.get? b = some o := PySem.W.of_hideAll (trk h H) e
  refine ⟨e', ?_⟩
  cases q : H b with
  | none => rfl
  | some x =>
    have hm : b ∈ trk h H := List.mem_filter.mpr ⟨List.mem_range.mpr (Heap.lt_size e'), by simp [q]⟩
    have z : (hidT h H).get? b = none := PySem.W.hideAll_none (trk h H) hm
    rw [z] at e; cases e
end L2
namespace L2
open PySem PySem.Spec PyProof.Rows
structure Mod (K : PySem.W.Frag) (mg : Str → Option Value) (base : Heap) : Prop where
  kin : K.In base
  glob : base.Ns mainGlobals mg
  blt : ∃ mb, base.Ns builtinsNs mb ∧ ∀ x : Str, x ≠ "__name__" → mb x = bootBuiltins x
  nolimit : base.NoLimit
structure Cx where
  prog : Program
  w : World
  K : PySem.W.Frag
  mg : Str → Option Value
  base : Heap
  A : Around
  N : List Str
  s₀ : Shared
  H₀ : Hp
  env : Env
  outer : List Env
  stack : List Env
  ex : List Addr
  fn : Str → Bool
  calm : Bool
  pn : List (Addr × Obj)
  xe : Value → Shared → Prop
def frs (l : List Env) : List Addr := l.filterMap (·.frame)
abbrev Cx.fs (X : Cx) : List Addr := frs X.outer
def Vis (sc : Scope) (x : Str) : Prop := sc.names.lookup x = some .local ∨ sc.names.lookup x = some .cell ∨ sc.names.lookup x = some .free
def Loc (sc : Scope) (x : Str) : Prop := sc.names.lookup x = some .local ∨ sc.names.lookup x = some .cell
def Look (env : Env) (h : Heap) (m : Str → Option Value) (x : Str) (u : Value) : Prop :=
  (env.kindOf x = some .local ∧ m x = some u) ∨ ((env.kindOf x = some .cell ∨ env.kindOf x = some .free) ∧ ∃ c, env.cells.lookup x = some c ∧ h.IsCell c (some u))
structure Cx.Ok (X : Cx) : Prop where
  mod : Mod X.K X.mg X.base
  kind : X.env.scope.kind = .function
  glob : X.env.globals = mainGlobals
  blt : X.env.builtins = builtinsNs
  above : X.s₀.heap.objs.size ≤ X.env.locals
  inj : ∀ x y c, X.env.cells.lookup x = some c → X.env.cells.lookup y = some c → x = y
  has : ∀ x, (X.env.kindOf x = some .cell ∨ X.env.kindOf x = some .free) → ∃ c, X.env.cells.lookup x = some c
  cab : ∀ x c, X.fn x = true → X.env.cells.lookup x = some c → X.s₀.heap.objs.size ≤ c
  hd : X.calm = true → X.A.handled = none
  frames : X.A.frames = some X.stack
  stk : X.stack = X.outer ∨ (X.stack = X.env :: X.outer ∧ X.env.frame = some X.env.locals)
  exf : ∀ b ∈ X.ex, b ≠ X.env.locals ∧ ∀ x c, X.env.cells.lookup x = some c → c ≠ b
  bs : ∀ b o, X.base.get? b = some o → X.s₀.heap.get? b = some o ∧ X.H₀ b = none
  bsz : X.base.objs.size ≤ X.s₀.heap.objs.size
  noex : ∀ b o, X.base.get? b = some o → b ∉ X.ex
  exfs : ∀ b ∈ X.ex, b ∉ X.fs
  funs : X.s₀.heap.FunFrames X.base X.outer
  frf : ∀ b ∈ X.fs, X.H₀ b = none
structure Inv (X : Cx) (pins : List (Addr × Obj)) (σ : List (Option V)) (H : Hp) (s : Shared) : Prop where
  ok : X.Ok
  os : s.os = X.s₀.os
  bare : AllBare s.gens
  base : Un X.fs X.ex X.H₀ H X.s₀.heap s.heap
  loc : ∃ m, s.heap.Ns X.env.locals m ∧ ∀ (i : Nat) (x : Str) (v : V), X.N[i]? = some x → σ[i]? = some (some v) → Vis X.env.scope x → ∃ u, RelV v u ∧ Look X.env s.heap m x u
  cell : ∀ x c, X.env.cells.lookup x = some c → ∃ v, s.heap.IsCell c v
  free : H X.env.locals = none
  freeC : ∀ x c, X.env.cells.lookup x = some c → H c = none
  pin : ∀ p ∈ X.pn ++ pins, s.heap.get? p.1 = some p.2 ∧ H p.1 = none ∧ p.1 ≠ X.env.locals ∧ p.1 ∉ X.fs ∧ ∀ v, p.2.data ≠ .cell v
  hok : HOk X.prog X.w H s.heap
  len : σ.length = X.N.length
section
variable {X : Cx} {pins : List (Addr × Obj)} {σ : List (Option V)} {H H' : Hp} {s : Shared} {h' : Heap}
theorem Cx.Ok.nofr (ok : X.Ok) {b : Addr} {o : Obj} (e : X.base.get? b = some o) : b ∉ X.fs := fun hb => by
  have := (ok.funs.mem hb).1
  rw [e] at this; cases this
theorem Inv.bs (I : Inv X pins σ H s) : ∀ b o, X.base.get? b = some o → s.heap.get? b = some o ∧ H b = none := fun b o e =>
  ⟨I.base.keep b o (I.ok.bs b o e).1 (I.ok.bs b o e).2 (I.ok.nofr e) (I.ok.noex b o e), I.base.free b o (I.ok.bs b o e).1 (I.ok.bs b o e).2 (I.ok.noex b o e)⟩
theorem Inv.bk (I : Inv X pins σ H s) : ∀ b o, X.base.get? b = some o → s.heap.get? b = some o := fun b o e => (I.bs b o e).1
theorem Inv.mod (I : Inv X pins σ H s) : Mod X.K X.mg X.base := I.ok.mod
theorem Inv.kIn (I : Inv X pins σ H s) : X.K.In s.heap := I.ok.mod.kin.keeps I.bk
theorem Inv.lt (I : Inv X pins σ H s) : X.env.locals < s.heap.objs.size := let ⟨_, hn, _⟩ := I.loc; hn.lt
theorem Inv.sz (I : Inv X pins σ H s) : X.s₀.heap.objs.size ≤ s.heap.objs.size := Nat.le_trans I.ok.above (Nat.le_of_lt I.lt)
theorem Inv.nofs (I : Inv X pins σ H s) {a : Addr} (h : s.heap.objs.size ≤ a) : a ∉ X.fs := fun hb => by
  obtain ⟨_, o, ho, _⟩ := I.ok.funs.mem hb
  exact absurd (Nat.lt_of_lt_of_le (Heap.lt_size ho) (Nat.le_trans I.sz h)) (Nat.lt_irrefl _)
theorem Inv.cne (I : Inv X pins σ H s) : ∀ x c, X.env.cells.lookup x = some c → c ≠ X.env.locals := fun x c e z => by
  obtain ⟨v, o, ho, hd⟩ := I.cell x c e
  obtain ⟨m, ⟨o', es, ep, ho', hd', _⟩, _⟩ := I.loc
  rw [z, ho'] at ho; cases ho; rw [hd'] at hd; cases hd
theorem Inv.funs (I : Inv X pins σ H s) : s.heap.FunFrames X.base X.outer := by
  have all : ∀ (l : List Env), (∀ b ∈ frs l, b ∈ X.fs) → X.s₀.heap.FunFrames X.base l → s.heap.FunFrames X.base l := by
    intro l
    induction l with
    | nil => intro _ _; trivial
    | cons env r ih =>
      intro hs hl
      obtain ⟨hk, ⟨L, o, hf, hn, ho, hd⟩, hr⟩ := hl
      have hL : L ∈ X.fs := hs L (by unfold frs; rw [List.filterMap_cons, hf]; exact List.mem_cons_self)
      obtain ⟨sl, e⟩ := I.base.slot L o ho (I.ok.frf L hL) hL fun z => I.ok.exfs L z hL
      exact ⟨hk, ⟨L, _, hf, hn, e, hd⟩, ih (fun b hb => hs b (by unfold frs; rw [List.filterMap_cons, hf]; exact List.mem_cons_of_mem _ hb)) hr⟩
  exact all X.outer (fun _ hb => hb) I.ok.funs
theorem Inv.stack (I : Inv X pins σ H s) : s.heap.FunFrames X.base X.stack := by
  rcases I.ok.stk with e | ⟨e, hf⟩
  · rw [e]; exact I.funs
  · rw [e]
    obtain ⟨m, hn, _⟩ := I.loc
    refine .cons (by rw [I.ok.kind]; decide) hf hn ?_ I.funs
    exact Heap.get?_none_of_le (Nat.le_trans I.ok.bsz I.ok.above)
theorem Inv.stkSub (I : Inv X pins σ H s) : ∀ b ∈ frs X.stack, b ∈ X.env.locals :: X.fs := fun b hb => by
  rcases I.ok.stk with e | ⟨e, hf⟩
  · rw [e] at hb; exact List.mem_cons_of_mem _ hb
  · rw [e] at hb
    unfold frs at hb
    rw [List.filterMap_cons, hf] at hb
    exact hb
theorem Inv.stkFree (I : Inv X pins σ H s) : ∀ b ∈ frs X.stack, H b = none := fun b hb => by
  rcases List.mem_cons.mp (I.stkSub b hb) with e | hb
  · rw [e]; exact I.free
  · obtain ⟨_, o, ho, _⟩ := I.ok.funs.mem hb
    exact I.base.free b o ho (I.ok.frf b hb) fun z => I.ok.exfs b z hb
theorem Inv.step {g' : Array GenState} {t' : Nat} {d' : Drawn} {ch : List Addr} (I : Inv X pins σ H s)
    (hch : ∀ b ∈ ch, (b ∈ X.ex ∨ X.s₀.heap.objs.size ≤ b) ∧ b ≠ X.env.locals ∧ (∀ x c, X.env.cells.lookup x = some c → c ≠ b) ∧ ∀ p ∈ X.pn ++ pins, p.1 ≠ b)
    (keep : ∀ b o, b ≠ X.env.locals → b ∉ X.fs → b ∉ ch → s.heap.get? b = some o → H b = none → h'.get? b = some o)
    (slot : ∀ b o, b ≠ X.env.locals → b ∈ X.fs → b ∉ ch → s.heap.get? b = some o → H b = none → ∃ sl, h'.get? b = some { o with slots := sl }) (free : ∀ b o, b ∉ ch → s.heap.get? b = some o → H b = none → H' b = none)
    (there : ∀ b o, b ∉ ch → s.heap.get? b = some o → ∃ o', h'.get? b = some o')
    (tups : ∀ b xs, H b = some (.tup xs) → H' b = some (.tup xs)) (frzs : ∀ b o u, H b = some (.frz o u) → H' b = some (.frz o u)) (tbls : ∀ b ps, H b = some (.tbl ps) → ∃ more, H' b = some (.tbl (ps ++ more)))
    (ns : ∀ m, s.heap.Ns X.env.locals m → h'.Ns X.env.locals m) (hok : HOk X.prog X.w H' h') (hg : AllBare g') :
    Inv X pins σ H' { s with heap := h', gens := g', drawn := d', toks := t' } := by
  have neL : ∀ b o, X.s₀.heap.get? b = some o → b ≠ X.env.locals := fun b o e => Nat.ne_of_lt (Nat.lt_of_lt_of_le (Heap.lt_size e) I.ok.above)
  have neC : ∀ b o, X.s₀.heap.get? b = some o → b ∉ X.ex → b ∉ ch := fun b o e hx hb => by
    rcases (hch b hb).1 with z | z
    · exact hx z
    · exact absurd (Nat.lt_of_lt_of_le (Heap.lt_size e) z) (Nat.lt_irrefl _)
  have cellK : ∀ x c, X.env.cells.lookup x = some c → ∀ v, s.heap.IsCell c v → h'.IsCell c v := fun x c e v ⟨o, ho, hd⟩ => by
    have nch : c ∉ ch := fun z => (hch c z).2.2.1 x c e rfl
    by_cases hc : c ∈ X.fs
    · obtain ⟨sl, q⟩ := slot c o (I.cne x c e) hc nch ho (I.freeC x c e)
      exact ⟨_, q, hd⟩
    · exact ⟨o, keep c o (I.cne x c e) hc nch ho (I.freeC x c e), hd⟩
  refine ⟨I.ok, I.os, hg, ⟨fun b o e n hb hx => ?_, fun b o e n hb hx => ?_, fun b o e n hx => ?_, fun b o e hx => ?_, fun b xs e => tups b xs (I.base.tups b xs e), fun b o xs e => frzs b o xs (I.base.frzs b o xs e), fun b ps e => ?_⟩, ?_, fun x c e => ?_, ?_, fun x c e => ?_, fun p hp => ?_, hok, I.len⟩
  · exact keep b o (neL b o e) hb (neC b o e hx) (I.base.keep b o e n hb hx) (I.base.free b o e n hx)
  · obtain ⟨sl, e1⟩ := I.base.slot b o e n hb hx
    obtain ⟨sl', e2⟩ := slot b _ (neL b o e) hb (neC b o e hx) e1 (I.base.free b o e n hx)
    exact ⟨sl', e2⟩
  · obtain ⟨o', e1⟩ := I.base.there b o e hx
    exact free b o' (neC b o e hx) e1 (I.base.free b o e n hx)
  · obtain ⟨o', e1⟩ := I.base.there b o e hx
    exact there b o' (neC b o e hx) e1
  · obtain ⟨m1, e1⟩ := I.base.tbls b ps e
    obtain ⟨m2, e2⟩ := tbls b _ e1
    exact ⟨m1 ++ m2, by rw [e2, Array.append_assoc]⟩
  · obtain ⟨m, hn, hl⟩ := I.loc
    refine ⟨m, ns m hn, fun i x v e1 e2 e3 => ?_⟩
    obtain ⟨u, r, l⟩ := hl i x v e1 e2 e3
    refine ⟨u, r, ?_⟩
    rcases l with l | ⟨k, c, e, z⟩
    · exact .inl l
    · exact .inr ⟨k, c, e, cellK x c e _ z⟩
  · obtain ⟨v, z⟩ := I.cell x c e
    exact ⟨v, cellK x c e v z⟩
  · obtain ⟨m, ⟨o, _, _, ho, _⟩, _⟩ := I.loc
    exact free _ o (fun z => (hch _ z).2.1 rfl) ho I.free
  · obtain ⟨v, o, ho, hd⟩ := I.cell x c e
    exact free c o (fun z => (hch c z).2.2.1 x c e rfl) ho (I.freeC x c e)
  · obtain ⟨e, n, ne, nf, d⟩ := I.pin p hp
    have nch : p.1 ∉ ch := fun z => (hch p.1 z).2.2.2 p hp rfl
    exact ⟨keep p.1 p.2 ne nf nch e n, free p.1 p.2 nch e n, ne, nf, d⟩
theorem Inv.un {t' : Nat} (I : Inv X pins σ H s) (u : Un X.fs [] H H' s.heap h') (hok : HOk X.prog X.w H' h') : Inv X pins σ H' { s with heap := h', toks := t' } := by
  obtain ⟨m, ⟨o, es, ep, ho, r⟩, _⟩ := id I.loc
  obtain ⟨sl, hL⟩ := u.any ho I.free (by simp)
  exact I.step (g' := s.gens) (d' := s.drawn) (ch := []) (fun _ z => nomatch z) (fun b o _ hb _ e n => u.keep b o e n hb (by simp)) (fun b o _ hb _ e n => u.slot b o e n hb (by simp)) (fun b o _ e n => u.free b o e n (by simp)) (fun b o _ e => u.there b o e (by simp)) u.tups u.frzs u.tbls (fun m' hm => by
    obtain ⟨o', es', ep', ho', r'⟩ := hm
    rw [ho] at ho'; cases ho'
    exact ⟨_, es', ep', hL, r'⟩) hok I.bare
theorem Inv.call {g' : Array GenState} {t' : Nat} {d' : Drawn} {ch : List Addr} (I : Inv X pins σ H s) (u : Un (frs X.stack) ch H H' s.heap h') (hok : HOk X.prog X.w H' h') (hg : AllBare g')
    (hch : ∀ b ∈ ch, (b ∈ X.ex ∨ X.s₀.heap.objs.size ≤ b) ∧ b ≠ X.env.locals ∧ (∀ x c, X.env.cells.lookup x = some c → c ≠ b) ∧ ∀ p ∈ X.pn ++ pins, p.1 ≠ b) :
    Inv X pins σ H' { s with heap := h', gens := g', drawn := d', toks := t' } := by
  obtain ⟨m, ⟨o, es, ep, ho, r⟩, _⟩ := id I.loc
  obtain ⟨sl, hL⟩ := u.any ho I.free fun z => (hch _ z).2.1 rfl
  exact I.step (ch := ch) hch (fun b o hL hb hc e n => u.keep b o e n (fun z => (List.mem_cons.mp (I.stkSub b z)).elim hL hb) hc) (fun b o _ _ hc e n => u.any e n hc) (fun b o hc e n => u.free b o e n hc) (fun b o hc e => u.there b o e hc) u.tups u.frzs u.tbls (fun m' hm => by
    obtain ⟨o', es', ep', ho', r'⟩ := hm
    rw [ho] at ho'; cases ho'
    exact ⟨_, es', ep', hL, r'⟩) hok hg
theorem Inv.turned {t' : Nat} {it : Addr} (I : Inv X pins σ H s) (k : ∀ b o, b ≠ it → s.heap.get? b = some o → h'.get? b = some o) (hn : H it = none) (hL : it ≠ X.env.locals)
    (h1 : it ∈ X.ex ∨ X.s₀.heap.objs.size ≤ it) (h2 : ∀ x c, X.env.cells.lookup x = some c → c ≠ it) (h3 : ∀ p ∈ X.pn ++ pins, p.1 ≠ it) : Inv X pins σ H { s with heap := h', toks := t' } := by
  have nit : ∀ b u, H b = some u → b ≠ it := fun b u e z => by rw [z, hn] at e; cases e
  refine I.step (g' := s.gens) (d' := s.drawn) (ch := [it]) (fun b hb => ?_) (fun b o _ _ hc e _ => k b o (fun z => hc (by simp [z])) e) (fun b o _ _ hc e _ => ⟨o.slots, k b o (fun z => hc (by simp [z])) e⟩) (fun _ _ _ _ n => n)
    (fun b o hc e => ⟨o, k b o (fun z => hc (by simp [z])) e⟩) (fun _ _ e => e) (fun _ _ _ e => e) (fun b ps e => ⟨#[], by rw [e]; simp⟩) (fun m hm => ?_) (fun b u e => ?_) I.bare
  · have e : b = it := by simpa using hb
    subst e
    exact ⟨h1, hL, h2, h3⟩
  · obtain ⟨o, es, ep, ho, r⟩ := hm
    exact ⟨o, es, ep, k _ o (Ne.symm hL) ho, r⟩
  · refine (I.hok b u e).stay (fun c v hc q => k c v ?_ q) (fun _ q => q) fun _ _ q => q
    rcases hc with z | z
    · rw [z]; exact nit b u e
    · exact nit c _ z
theorem Inv.tok (I : Inv X pins σ H s) (t : Nat) : Inv X pins σ H { s with toks := t } := I.un (h' := s.heap) (t' := t) Un.refl I.hok
theorem Inv.kept {t' : Nat} (I : Inv X pins σ H s) (k : ∀ b u, s.heap.get? b = some u → h'.get? b = some u) : Inv X pins σ H { s with heap := h', toks := t' } := I.un (Un.kept k) (I.hok.kept k)
theorem Inv.laid {a : Addr} {o : HO} {t' : Nat} (I : Inv X pins σ H s) (k : ∀ b u, s.heap.get? b = some u → h'.get? b = some u) (hp : s.heap.objs.size ≤ a) (new : ObjOk X.prog X.w (upd H a o) h' a o) :
    Inv X pins σ (upd H a o) { s with heap := h', toks := t' } := I.un (Un.laid k hp (I.hok.fresh hp)) (I.hok.laid k hp new)
theorem Inv.write {x e : Addr} {o : HO} {t' : Nat} (I : Inv X pins σ H s) (mu : Mut (H x)) (he : e = x ∨ H e = some (.own x)) (k : ∀ b u, b ≠ e → s.heap.get? b = some u → h'.get? b = some u) (heo : ∃ u, h'.get? e = some u)
    (new : ObjOk X.prog X.w (upd H x o) h' x o) : Inv X pins σ (upd H x o) { s with heap := h', toks := t' } := I.un (Un.write mu he k heo) (I.hok.write mu he k heo new)
theorem Inv.pins_of {pins' : List (Addr × Obj)} (I : Inv X pins σ H s) (h : ∀ p ∈ pins', s.heap.get? p.1 = some p.2 ∧ H p.1 = none ∧ p.1 ≠ X.env.locals ∧ p.1 ∉ X.fs ∧ ∀ v, p.2.data ≠ .cell v) : Inv X pins' σ H s :=
  ⟨I.ok, I.os, I.bare, I.base, I.loc, I.cell, I.free, I.freeC, fun p hp => (List.mem_append.mp hp).elim (fun z => I.pin p (List.mem_append_left _ z)) (h p), I.hok, I.len⟩
theorem nodup_ix {N : List Str} (hN : N.Nodup) {i j : Nat} {x : Str} (a : N[i]? = some x) (b : N[j]? = some x) : i = j := by
  obtain ⟨h1, e1⟩ := List.getElem?_eq_some_iff.mp a
  obtain ⟨h2, e2⟩ := List.getElem?_eq_some_iff.mp b
  exact (List.getElem_inj hN).mp (e1.trans e2.symm)
theorem store_ok2 {M : Model} {A : Around} {E : Value → Shared → Prop} {i : Nat} {x : Str} {v : V} {u : Value} {Q : Unit → Shared → Prop} (I : Inv X pins σ H s) (hN : X.N.Nodup) (hi : X.N[i]? = some x) (hx : Loc X.env.scope x) (r : RelV v u)
    (h : ∀ s', Inv X pins (σ.set i (some v)) H s' → (∃ a, Heap.SameBut a s.heap s'.heap ∧ (a = X.env.locals ∨ X.env.cells.lookup x = some a)) → Q () s') (hf : X.fn x = true ∨ X.env.scope.names.lookup x = some .local := by first | exact .inl rfl | exact .inr rfl | assumption) : wpAny M A (storeName X.env x u) Q E s := by
  obtain ⟨m, hn, hl⟩ := id I.loc
  have hcls : (X.env.scope.kind == .class || (X.env.scope.kind == .module && X.env.locals != X.env.globals)) = false := by rw [I.ok.kind]; rfl
  have hiσ : i < σ.length := by rw [I.len]; exact (List.getElem?_eq_some_iff.mp hi).1
  have cne := I.cne
  have tracked : ∀ {a : Addr} {h' : Heap}, (∃ o, s.heap.get? a = some o ∧ H a = none) → Heap.SameBut a s.heap h' → HOk X.prog X.w H h' := fun {a h'} ha hs b ob e => by
    obtain ⟨_, _, hfree⟩ := ha
    refine (I.hok b ob e).stay (fun c w' hc q => (hs.2 c ?_).trans q) (fun _ q => q) fun _ _ q => q
    rintro rfl
    rcases hc with rfl | hc
    · rw [hfree] at e; cases e
    · rw [hfree] at hc; cases hc
  rcases hx with hk | hk
  · refine wpAny_storeName_local hk hn (fun h' hn' hs => ?_) hcls
    obtain ⟨oL, _, _, hoL, _⟩ := id hn
    refine h _ ⟨I.ok, I.os, I.bare, ⟨fun b o e n hb hx => ?_, fun b o e n hb hx => ?_, I.base.free, fun b o e hx => ?_, I.base.tups, I.base.frzs, I.base.tbls⟩, ⟨_, hn', fun j y v' e1 e2 e3 => ?_⟩, fun y c e => ?_, I.free, I.freeC, fun p hp => ?_, tracked ⟨oL, hoL, I.free⟩ hs, by simpa using I.len⟩ ⟨_, hs, .inl rfl⟩
    · exact (hs.2 b (Nat.ne_of_lt (Nat.lt_of_lt_of_le (Heap.lt_size e) I.ok.above))).trans (I.base.keep b o e n hb hx)
    · obtain ⟨sl, e1⟩ := I.base.slot b o e n hb hx
      exact ⟨sl, (hs.2 b (Nat.ne_of_lt (Nat.lt_of_lt_of_le (Heap.lt_size e) I.ok.above))).trans e1⟩
    · obtain ⟨o', e1⟩ := I.base.there b o e hx
      exact ⟨o', (hs.2 b (Nat.ne_of_lt (Nat.lt_of_lt_of_le (Heap.lt_size e) I.ok.above))).trans e1⟩
    · by_cases hj : j = i
      · subst hj
        rw [hi] at e1; cases e1
        rw [List.getElem?_set_self hiσ] at e2
        cases e2
        exact ⟨u, r, .inl ⟨hk, by simp⟩⟩
      · rw [List.getElem?_set_ne (Ne.symm hj)] at e2
        obtain ⟨u', r', q⟩ := hl j y v' e1 e2 e3
        refine ⟨u', r', ?_⟩
        rcases q with ⟨k, e⟩ | ⟨k, c, e, z⟩
        · refine .inl ⟨k, ?_⟩
          have : y ≠ x := fun e => hj (nodup_ix hN e1 (e ▸ hi))
          simp [this, e]
        · exact .inr ⟨k, c, e, z.sameBut hs (cne y c e)⟩
    · obtain ⟨w', z⟩ := I.cell y c e
      exact ⟨w', z.sameBut hs (cne y c e)⟩
    · obtain ⟨e, n, ne, nf, d⟩ := I.pin p hp
      exact ⟨(hs.2 p.1 ne).trans e, n, ne, nf, d⟩
  · have hfn : X.fn x = true := by
      rcases hf with z | z
      · exact z
      · rw [z] at hk; cases hk
    obtain ⟨c, hc⟩ := I.ok.has x (.inl hk)
    obtain ⟨w', z⟩ := I.cell x c hc
    refine wpAny_storeName_cell I.ok.kind hk hc z (fun h' hc' hs => ?_)
    obtain ⟨oc, hoc, hocd⟩ := id z
    refine h { s with heap := h' } ⟨I.ok, I.os, I.bare, ⟨fun b o e n hb hx => ?_, fun b o e n hb hx => ?_, I.base.free, fun b o e hx => ?_, I.base.tups, I.base.frzs, I.base.tbls⟩, ⟨m, hn.sameBut hs (Ne.symm (cne x c hc)), fun j y v' e1 e2 e3 => ?_⟩, fun y c' e => ?_, I.free, I.freeC, fun p hp => ?_, tracked ⟨oc, hoc, I.freeC x c hc⟩ hs, by simpa using I.len⟩ ⟨c, hs, .inr hc⟩
    · exact (hs.2 b (Nat.ne_of_lt (Nat.lt_of_lt_of_le (Heap.lt_size e) (I.ok.cab x c hfn hc)))).trans (I.base.keep b o e n hb hx)
    · obtain ⟨sl, e1⟩ := I.base.slot b o e n hb hx
      exact ⟨sl, (hs.2 b (Nat.ne_of_lt (Nat.lt_of_lt_of_le (Heap.lt_size e) (I.ok.cab x c hfn hc)))).trans e1⟩
    · obtain ⟨o', e1⟩ := I.base.there b o e hx
      exact ⟨o', (hs.2 b (Nat.ne_of_lt (Nat.lt_of_lt_of_le (Heap.lt_size e) (I.ok.cab x c hfn hc)))).trans e1⟩
    · by_cases hj : j = i
      · subst hj
        rw [hi] at e1; cases e1
        rw [List.getElem?_set_self hiσ] at e2
        cases e2
        exact ⟨u, r, .inr ⟨.inl hk, c, hc, hc'⟩⟩
      · rw [List.getElem?_set_ne (Ne.symm hj)] at e2
        obtain ⟨u', r', q⟩ := hl j y v' e1 e2 e3
        refine ⟨u', r', ?_⟩
        rcases q with q | ⟨k, c', e, z'⟩
        · exact .inl q
        · refine .inr ⟨k, c', e, z'.sameBut hs ?_⟩
          rintro rfl
          exact hj (nodup_ix hN e1 (I.ok.inj _ _ _ e hc ▸ hi))
    · by_cases hcc : c' = c
      · subst hcc; exact ⟨_, hc'⟩
      · obtain ⟨w2, z2⟩ := I.cell y c' e
        exact ⟨w2, z2.sameBut hs hcc⟩
    · obtain ⟨e, n, ne, nf, d⟩ := I.pin p hp
      refine ⟨(hs.2 p.1 ?_).trans e, n, ne, nf, d⟩
      intro q
      rw [q, hoc] at e
      have q' : oc = p.2 := Option.some.inj e
      exact d w' (by rw [← q']; exact hocd)
theorem store_ok {M : Model} {A : Around} {E : Value → Shared → Prop} {i : Nat} {x : Str} {v : V} {u : Value} {Q : Unit → Shared → Prop} (I : Inv X pins σ H s) (hN : X.N.Nodup) (hi : X.N[i]? = some x) (hx : Loc X.env.scope x) (r : RelV v u)
    (h : ∀ s', Inv X pins (σ.set i (some v)) H s' → Q () s') (hf : X.fn x = true ∨ X.env.scope.names.lookup x = some .local := by first | exact .inl rfl | exact .inr rfl | assumption) : wpAny M A (storeName X.env x u) Q E s :=
  store_ok2 I hN hi hx r (fun s' I' _ => h s' I') hf
theorem Inv.call' {s' : Shared} {ch : List Addr} (I : Inv X pins σ H s) (ho : s'.os = s.os) (u : Un (frs X.stack) ch H H' s.heap s'.heap) (hok : HOk X.prog X.w H' s'.heap) (hg : AllBare s'.gens)
    (hch : ∀ b ∈ ch, (b ∈ X.ex ∨ X.s₀.heap.objs.size ≤ b) ∧ b ≠ X.env.locals ∧ (∀ x c, X.env.cells.lookup x = some c → c ≠ b) ∧ ∀ p ∈ X.pn ++ pins, p.1 ≠ b) : Inv X pins σ H' s' := by
  obtain ⟨h', g', d', t', o'⟩ := s'
  have e : o' = s.os := ho
  subst e
  exact I.call (g' := g') (t' := t') (d' := d') u hok hg hch
end
abbrev XK := Value → Option Addr → Hp → Prop
abbrev St := List (Option V)
abbrev VK := V → Hp → Prop
abbrev TE := St → Hp → VK → Prop
abbrev TT := St → Hp → (Bool → Hp → Prop) → Prop
abbrev TA := St → Hp → (List V → Hp → Prop) → Prop
structure Ends where
  nx : St → Hp → Prop
  rt : VK
  bk : St → Hp → Prop := fun _ _ => False
  ct : St → Hp → Prop := fun _ _ => False
abbrev TS := Ends → St → Hp → Prop
def EP (X : Cx) (pins : List (Addr × Obj)) (σ : St) (Q : VK) (u : Value) (s' : Shared) : Prop := ∃ v H', Inv X pins σ H' s' ∧ RelV v u ∧ Q v H'
def TP (X : Cx) (pins : List (Addr × Obj)) (σ : St) (Q : Bool → Hp → Prop) (b : Bool) (s' : Shared) : Prop := ∃ H', Inv X pins σ H' s' ∧ Q b H'
def AP (X : Cx) (pins : List (Addr × Obj)) (σ : St) (Q : List V → Hp → Prop) (us : List Value) (s' : Shared) : Prop := ∃ vs H', Inv X pins σ H' s' ∧ Vals vs us ∧ Q vs H'
def SP (X : Cx) (pins : List (Addr × Obj)) (D : Ends) (f : Flow) (s' : Shared) : Prop :=
  match f with
  | .next => ∃ σ' H', Inv X pins σ' H' s' ∧ D.nx σ' H'
  | .brk => ∃ σ' H', Inv X pins σ' H' s' ∧ D.bk σ' H'
  | .cont => ∃ σ' H', Inv X pins σ' H' s' ∧ D.ct σ' H'
  | .ret u => ∃ v σ' H', Inv X pins σ' H' s' ∧ RelV v u ∧ D.rt v H'
def PE (X : Cx) (e : Expr) (t : TE) : Prop :=
  ∀ (pins : List (Addr × Obj)) (s : Shared) (σ : St) (H : Hp) (Q : VK), Inv X pins σ H s → t σ H Q → wpAny (model X.prog X.w) X.A (eval e X.env) (EP X pins σ Q) X.xe s
def PT (X : Cx) (e : Expr) (t : TT) : Prop :=
  ∀ (pins : List (Addr × Obj)) (s : Shared) (σ : St) (H : Hp) (Q : Bool → Hp → Prop), Inv X pins σ H s → t σ H Q → wpAny (model X.prog X.w) X.A (isTrue e X.env (eval e X.env)) (TP X pins σ Q) X.xe s
def PW (X : Cx) (e : Expr) (t : TT) : Prop :=
  ∀ (whole : Sem Value) (pins : List (Addr × Obj)) (s : Shared) (σ : St) (H : Hp) (Q : Bool → Hp → Prop), Inv X pins σ H s → t σ H Q → wpAny (model X.prog X.w) X.A (isTrue e X.env whole) (TP X pins σ Q) X.xe s
theorem PW.pt {X : Cx} {e : Expr} {t : TT} (h : PW X e t) : PT X e t := h _
def PA (X : Cx) (es : List Expr) (t : TA) : Prop :=
  ∀ (pos : Pos) (pins : List (Addr × Obj)) (s : Shared) (σ : St) (H : Hp) (Q : List V → Hp → Prop), Inv X pins σ H s → t σ H Q → wpAny (model X.prog X.w) X.A (spliced (backTo pos (starEach es X.env))) (AP X pins σ Q) X.xe s
def PS (X : Cx) (st : Stmt) (t : TS) : Prop :=
  ∀ (pins : List (Addr × Obj)) (s : Shared) (σ : St) (H : Hp) (D : Ends), Inv X pins σ H s → t D σ H → wpAny (model X.prog X.w) X.A (exec st X.env) (SP X pins D) X.xe s
def PSs (X : Cx) (st : List Stmt) (t : TS) : Prop :=
  ∀ (pins : List (Addr × Obj)) (s : Shared) (σ : St) (H : Hp) (D : Ends), Inv X pins σ H s → t D σ H → wpAny (model X.prog X.w) X.A (execs st X.env) (SP X pins D) X.xe s
theorem thn {α : Type} {t : Sem α} {Q Q' : α → Shared → Prop} {M : Model} {A : Around} {E : Value → Shared → Prop} {s : Shared} (h : wpAny M A t Q E s) (hQ : ∀ a s, Q a s → Q' a s) : wpAny M A t Q' E s := wpAny_mono h hQ fun _ _ x => x
end L2
namespace L2
open PySem PySem.Spec PyProof.Rows
section
variable {X : Cx}
def tVar (i : Nat) : TE := fun σ H Q => ∃ v, σ[i]? = some (some v) ∧ Q v H
def tC (v : V) : TE := fun _ H Q => Q v H
theorem pe_var {i : Nat} {x : Str} {pos : Pos} (hN : X.N[i]? = some x) (hv : Vis X.env.scope x) (hd : (x == ("__debug__" : Str)) = false := by decide) (hcd : (x == ("__classdict__" : Str)) = false := by decide) : PE X (.Name x pos) (tVar i) := by
  intro pins s σ H Q I h
  obtain ⟨v, e, h⟩ := h
  obtain ⟨m, hn, hl⟩ := I.loc
  obtain ⟨u, r, l⟩ := hl i x v hN e hv
  have fin : EP X pins σ Q u s := ⟨v, H, I, r, h⟩
  rcases l with ⟨hk, hm⟩ | ⟨hk, c, hc, hcell⟩
  · exact wpAny_Name (wpAny_loadName_local I.ok.kind hk hn hm fin) hd
  · rcases hk with hk | hk
    · exact wpAny_Name (wpAny_loadName_cell I.ok.kind hk hc hcell fin) hd
    · exact wpAny_Name (wpAny_loadName_free I.ok.kind hk hc hcell fin hcd) hd
theorem pe_int {i j pos} : PE X (.Constant (.int i) j pos) (tC (.int i)) := fun _ _ _ H _ I h => wpAny_Constant_int ⟨.int i, H, I.tok _, ⟨_, rfl⟩, h⟩
theorem pe_bl {b j pos} : PE X (.Constant (.bool b) j pos) (tC (.bl b)) := fun _ _ _ H _ I h => Constant_bool ⟨.bl b, H, I, rfl, h⟩
theorem pe_non {j pos} : PE X (.Constant .none j pos) (tC .non) := fun _ _ _ H _ I h => Constant_none ⟨.non, H, I, rfl, h⟩
theorem pe_str {x j pos} : PE X (.Constant (.str x) j pos) (tC (.str x)) := fun _ _ _ H _ I h => Calls.Constant_str ⟨.str x, H, I.tok _, ⟨_, rfl⟩, h⟩
def Gl (X : Cx) (x : Str) : Prop := X.env.kindOf x = some .globalImplicit
theorem ld_glob {E : Value → Shared → Prop} {pins : List (Addr × Obj)} {s : Shared} {σ : St} {H : Hp} {x : Str} {u : Value} {pos : Pos} {Q : Value → Shared → Prop} (I : Inv X pins σ H s) (hg : Gl X x) (hm : X.mg x = some u) (h : Q u s)
    (hd : (x == ("__debug__" : Str)) = false := by decide) : wpAny (model X.prog X.w) X.A (eval (.Name x pos) X.env) Q E s :=
  Calls.Name_function_global I.ok.kind hg (Calls.loadGlobal_global (by rw [I.ok.glob]; exact I.mod.glob.keeps I.bk) hm h) hd
theorem ld_blt {E : Value → Shared → Prop} {pins : List (Addr × Obj)} {s : Shared} {σ : St} {H : Hp} {x : Str} {u : Value} {pos : Pos} {Q : Value → Shared → Prop} (I : Inv X pins σ H s) (hg : Gl X x) (hm : X.mg x = none) (hv : bootBuiltins x = some u) (h : Q u s)
    (hn : x ≠ "__name__" := by decide) (hd : (x == ("__debug__" : Str)) = false := by decide) : wpAny (model X.prog X.w) X.A (eval (.Name x pos) X.env) Q E s := by
  obtain ⟨mb, h1, h2⟩ := I.mod.blt
  exact Calls.Name_function_global I.ok.kind hg (Calls.loadGlobal_builtin (by rw [I.ok.glob]; exact I.mod.glob.keeps I.bk) hm (by rw [I.ok.blt]; exact h1.keeps I.bk) ((h2 x hn).trans hv) h) hd
theorem pe_glob {x : Str} {v : V} {u : Value} {pos : Pos} (hg : Gl X x) (hm : X.mg x = some u) (r : RelV v u) (hd : (x == ("__debug__" : Str)) = false := by decide) : PE X (.Name x pos) (tC v) :=
  fun _ _ _ H _ I h => ld_glob I hg hm ⟨v, H, I, r, h⟩ hd
theorem pe_bltn {x : Str} {v : V} {u : Value} {pos : Pos} (hg : Gl X x) (hm : X.mg x = none) (hv : bootBuiltins x = some u) (r : RelV v u) (hn : x ≠ "__name__" := by decide) (hd : (x == ("__debug__" : Str)) = false := by decide) : PE X (.Name x pos) (tC v) :=
  fun _ _ _ H _ I h => ld_blt I hg hm hv ⟨v, H, I, r, h⟩ hn hd
variable {a b : Expr} {ta tb : TE} {pos : Pos}
def PC (X : Cx) (op : CmpOp) (a b : Expr) (t : TE) : Prop :=
  ∀ (pins : List (Addr × Obj)) (s : Shared) (σ : St) (H : Hp) (Q : VK), Inv X pins σ H s → t σ H Q →
    wpAny (model X.prog X.w) X.A (eval a X.env) (fun v s₁ => wpAny (model X.prog X.w) X.A (eval b X.env) (fun u s₂ => wpAny (model X.prog X.w) X.A (compareOp op v u) (EP X pins σ Q) X.xe s₂) X.xe s₁) X.xe s
def tB (t : TE) : TT := fun σ H Q => t σ H fun x H1 => ∃ c, x = .bl c ∧ Q c H1
theorem pt_cmp {op : CmpOp} {t : TE} (h : PC X op a b t) (h1 : behindInMarks op b = false := by first | exact nobehind _ (by decide) (by decide) | rfl) : PT X (.Compare a [op] [b] pos) (tB t) := by
  intro pins s σ H Q I hw
  refine wpAny_isTrue_Compare1 (thn (h pins s σ H _ I hw) fun v s1 h1 => thn h1 fun u s2 h2 => thn h2 fun c s3 ⟨x, H1, I1, r1, q1⟩ => ?_) h1
  obtain ⟨d, rfl, q⟩ := q1
  cases r1
  exact wpAny_truthy_bool ⟨H1, I1, q⟩
theorem pt_val {e : Expr} {t : TE} (h : PE X e t) (he : ∀ whole, isTrue e X.env whole = (do let v ← whole; standAt e.pos; holding [v] (truthy v)) := by intro _; rfl) : PT X e (tB t) := by
  intro pins s σ H Q I hw
  refine isTrue_plain (thn (h pins s σ H _ I hw) fun v s1 ⟨x, H1, I1, r1, q1⟩ => ?_) (he _)
  obtain ⟨d, rfl, q⟩ := q1
  cases r1
  exact wpAny_truthy_bool ⟨H1, I1, q⟩
variable {tA tB' : TT} {rest : List Expr}
def tAnd (t u : TT) : TT := fun σ H Q => t σ H fun c H1 => if c = true then u σ H1 Q else Q false H1
def tOr (t u : TT) : TT := fun σ H Q => t σ H fun c H1 => if c = true then Q true H1 else u σ H1 Q
def tNot (t : TT) : TT := fun σ H Q => t σ H fun c H1 => Q (!c) H1
theorem pw_and1 (ha : PT X a tA) : PW X (.BoolOp .And [a] pos) tA := by
  intro wh pins s σ H Q I h
  refine isTrue_and (thn (ha pins s σ H Q I h) fun c s1 e => ?_)
  cases c with
  | true => exact isTrue_and_nil e
  | false => exact e
theorem pw_or1 (ha : PT X a tA) : PW X (.BoolOp .Or [a] pos) tA := by
  intro wh pins s σ H Q I h
  refine isTrue_or (thn (ha pins s σ H Q I h) fun c s1 e => ?_)
  cases c with
  | false => exact isTrue_or_nil e
  | true => exact e
theorem pw_and (ha : PT X a tA) (hb : PW X (.BoolOp .And (b :: rest) pos) tB') : PW X (.BoolOp .And (a :: b :: rest) pos) (tAnd tA tB') := by
  intro wh pins s σ H Q I h
  refine isTrue_and (thn (ha pins s σ H _ I h) fun c s1 ⟨H1, I1, q1⟩ => ?_)
  cases c with
  | true => exact hb wh pins s1 σ H1 Q I1 q1
  | false => exact ⟨H1, I1, q1⟩
theorem pw_or (ha : PT X a tA) (hb : PW X (.BoolOp .Or (b :: rest) pos) tB') : PW X (.BoolOp .Or (a :: b :: rest) pos) (tOr tA tB') := by
  intro wh pins s σ H Q I h
  refine isTrue_or (thn (ha pins s σ H _ I h) fun c s1 ⟨H1, I1, q1⟩ => ?_)
  cases c with
  | true => exact ⟨H1, I1, q1⟩
  | false => exact hb wh pins s1 σ H1 Q I1 q1
theorem pt_not (ha : PT X a tA) : PT X (.UnaryOp .Not a pos) (tNot tA) := by
  intro pins s σ H Q I h
  exact isTrue_not (ha pins s σ H (fun c H1 => Q (!c) H1) I h)
def tAndV (ta tb : TE) : TE := fun σ H Q => ta σ H fun x H1 => ∃ c, x = .bl c ∧ if c = true then tb σ H1 Q else Q (.bl false) H1
def tNotV (ta : TE) : TE := fun σ H Q => ta σ H fun x H1 => ∃ c, x = .bl c ∧ Q (.bl (!c)) H1
theorem pe_one {op} {t : TE} (h : PE X a t) : PE X (.BoolOp op [a] pos) t := fun pins s σ H Q I hw => BoolOp_one (h pins s σ H Q I hw)
theorem pe_and (ha : PE X a ta) (hb : PE X (.BoolOp .And (b :: rest) pos) tb) : PE X (.BoolOp .And (a :: b :: rest) pos) (tAndV ta tb) := by
  intro pins s σ H Q I h
  refine BoolOp_and (thn (ha pins s σ H _ I h) fun v s1 ⟨x, H1, I1, r1, q1⟩ => ?_)
  obtain ⟨c, rfl, q1⟩ := q1
  cases r1
  refine wpAny_truthy_bool ?_
  cases c with
  | true => exact hb pins s1 σ H1 Q I1 q1
  | false => exact ⟨.bl false, H1, I1, rfl, q1⟩
theorem pe_not (ha : PE X a ta) : PE X (.UnaryOp .Not a pos) (tNotV ta) := by
  intro pins s σ H Q I h
  refine UnaryOp_ (thn (ha pins s σ H _ I h) fun v s1 ⟨x, H1, I1, r1, q1⟩ => ?_)
  obtain ⟨c, rfl, q1⟩ := q1
  cases r1
  exact not_of (wpAny_truthy_bool ⟨.bl (!c), H1, I1, rfl, q1⟩)
def tIf (t : TT) (ta tb : TE) : TE := fun σ H Q => t σ H fun c H1 => if c = true then ta σ H1 Q else tb σ H1 Q
theorem pe_ifExp {c : Expr} (hc : PT X c tA) (ha : PE X a ta) (hb : PE X b tb) : PE X (.IfExp c a b pos) (tIf tA ta tb) := by
  intro pins s σ H Q I h
  refine wpAny_IfExp (thn (hc pins s σ H _ I h) fun d s1 ⟨H1, I1, q1⟩ => ?_)
  cases d with
  | true => exact ha pins s1 σ H1 Q I1 q1
  | false => exact hb pins s1 σ H1 Q I1 q1
end
end L2
namespace L2
open PySem PySem.Spec PyProof.Rows
def SqL (K : PySem.W.Frag) (H : Hp) (a : Addr) (xs : List V) : Prop :=
  Rd H a (.lst xs) ∨
    ∃ (o : Obj) (its : Array Value) (n : Nat), K.lookup a = some o ∧ o.cls = .type "list" ∧ o.dict = none ∧ o.data = .seq its n ∧ its.size ≤ sizeLine ∧ Vals xs its.toList
def SqT (K : PySem.W.Frag) (H : Hp) (a : Addr) (xs : List V) : Prop :=
  Rd H a (.tup xs) ∨
    ∃ (o : Obj) (its : Array Value) (n : Nat), K.lookup a = some o ∧ o.cls = .type "tuple" ∧ o.data = .seq its n ∧ its.size ≤ sizeLine ∧ Vals xs its.toList
def absV : Value → Option V
  | .none => some .non
  | .bool b => some (.bl b)
  | .int i _ => some (.int i)
  | .str x _ => some (.str x)
  | .bytes b _ => some (.byt b)
  | .float b _ => some (.flt b)
  | .ref a => some (.ref a)
  | .type n => some (.ty n)
  | _ => none
theorem RelV.abs {x : V} {u : Value} (r : RelV x u) : absV u = some x := by
  cases x with
  | non => cases r; rfl
  | bl _ => cases r; rfl
  | int _ => obtain ⟨t, rfl⟩ := r; rfl
  | str _ => obtain ⟨t, rfl⟩ := r; rfl
  | byt _ => obtain ⟨t, rfl⟩ := r; rfl
  | flt _ => obtain ⟨t, rfl⟩ := r; rfl
  | ref _ => cases r; rfl
  | ty _ => cases r; rfl
theorem RelV.inj {x y : V} {u : Value} (r : RelV x u) (q : RelV y u) : x = y := Option.some.inj (r.abs.symm.trans q.abs)
theorem Vals.inj : ∀ {xs ys : List V} {us : List Value}, Vals xs us → Vals ys us → xs = ys
  | _, _, _, .nil, .nil => rfl
  | _, _, _, .cons r t, .cons r' t' => by rw [r.inj r', Vals.inj t t']
section
variable {X : Cx} {pins : List (Addr × Obj)} {σ : St} {H : Hp} {s : Shared} {a : Addr} {xs ys : List V}
theorem SqL.of {K : PySem.W.Frag} (h : H a = some (.lst xs)) : SqL K H a xs := .inl (.inl h)
theorem SqT.of {K : PySem.W.Frag} (h : H a = some (.tup xs)) : SqT K H a xs := .inl (.inl h)
theorem Inv.list (I : Inv X pins σ H s) (h : SqL X.K H a xs) : ∃ its : List Value, Vals xs its ∧ PlainL s.heap a its.toArray ∧ xs.length ≤ sizeLine := by
  rcases h with h | ⟨o, its, n, hk, hc, hd, hs, hz, r⟩
  · obtain ⟨z, its, n, r, e⟩ := h.ok I.hok
    exact ⟨its, r, ⟨_, n, e, rfl, rfl, rfl⟩, z⟩
  · refine ⟨its.toList, r, ⟨o, n, I.kIn a o hk, hc, hd, by simpa using hs⟩, ?_⟩
    have e := r.length
    simp only [Array.length_toList] at e
    omega
theorem Inv.tuple (I : Inv X pins σ H s) (h : SqT X.K H a xs) : ∃ its : List Value, Vals xs its ∧ IsTup s.heap a its.toArray ∧ xs.length ≤ sizeLine := by
  rcases h with h | ⟨o, its, n, hk, hc, hs, hz, r⟩
  · obtain ⟨z, its, r, p⟩ := h.ok I.hok
    exact ⟨its, r, p.tup, z⟩
  · refine ⟨its.toList, r, ⟨o, I.kIn a o hk, hc, n, by simpa using hs⟩, ?_⟩
    have e := r.length
    simp only [Array.length_toList] at e
    omega
theorem Inv.list_inj (I : Inv X pins σ H s) (h : SqL X.K H a xs) (h' : SqL X.K H a ys) : xs = ys := by
  obtain ⟨its, r, ⟨o, n, e, _, _, d⟩, _⟩ := I.list h
  obtain ⟨its', r', ⟨o', n', e', _, _, d'⟩, _⟩ := I.list h'
  rw [e] at e'; cases e'
  rw [d] at d'
  injection d' with d1 _
  have : its = its' := by simpa using congrArg Array.toList d1
  subst this
  exact r.inj r'
theorem Inv.tuple_inj (I : Inv X pins σ H s) (h : SqT X.K H a xs) (h' : SqT X.K H a ys) : xs = ys := by
  obtain ⟨its, r, ⟨o, e, _, n, d⟩, _⟩ := I.tuple h
  obtain ⟨its', r', ⟨o', e', _, n', d'⟩, _⟩ := I.tuple h'
  rw [e] at e'; cases e'
  rw [d] at d'
  injection d' with d1 _
  have : its = its' := by simpa using congrArg Array.toList d1
  subst this
  exact r.inj r'
end
abbrev Cx.wish (X : Cx) (E : Value → Shared → Prop) : Cx := { X with xe := E }
abbrev Cx.nox (X : Cx) : Cx := X.wish fun _ _ => False
theorem Cx.Ok.wish {X : Cx} (ok : X.Ok) (E : Value → Shared → Prop) : (X.wish E).Ok :=
  ⟨ok.mod, ok.kind, ok.glob, ok.blt, ok.above, ok.inj, ok.has, ok.cab, ok.hd, ok.frames, ok.stk, ok.exf, ok.bs, ok.bsz, ok.noex, ok.exfs, ok.funs, ok.frf⟩
theorem Cx.Ok.unwish {X : Cx} {E : Value → Shared → Prop} (ok : (X.wish E).Ok) : X.Ok :=
  ⟨ok.mod, ok.kind, ok.glob, ok.blt, ok.above, ok.inj, ok.has, ok.cab, ok.hd, ok.frames, ok.stk, ok.exf, ok.bs, ok.bsz, ok.noex, ok.exfs, ok.funs, ok.frf⟩
section
variable {X : Cx} {pins : List (Addr × Obj)} {σ : St} {H : Hp} {s : Shared} {E : Value → Shared → Prop}
theorem Inv.wish (I : Inv X pins σ H s) (E : Value → Shared → Prop) : Inv (X.wish E) pins σ H s := ⟨I.ok.wish E, I.os, I.bare, I.base, I.loc, I.cell, I.free, I.freeC, I.pin, I.hok, I.len⟩
theorem Inv.unwish (I : Inv (X.wish E) pins σ H s) : Inv X pins σ H s := ⟨I.ok.unwish, I.os, I.bare, I.base, I.loc, I.cell, I.free, I.freeC, I.pin, I.hok, I.len⟩
theorem SP.unwish {D : Ends} {f : Flow} {s' : Shared} (h : SP (X.wish E) pins D f s') : SP X pins D f s' := by
  cases f with
  | next => obtain ⟨σ', H', I, q⟩ := h; exact ⟨σ', H', I.unwish, q⟩
  | brk => obtain ⟨σ', H', I, q⟩ := h; exact ⟨σ', H', I.unwish, q⟩
  | cont => obtain ⟨σ', H', I, q⟩ := h; exact ⟨σ', H', I.unwish, q⟩
  | ret u => obtain ⟨v, σ', H', I, r, q⟩ := h; exact ⟨v, σ', H', I.unwish, r, q⟩
theorem PSs.nox {st : List Stmt} {t : TS} (h : PSs X.nox st t) : PSs X st t := fun pins s σ H D I hw =>
  wpAny_mono (h pins s σ H D (I.wish _) hw) (fun _ _ q => q.unwish) fun _ _ z => False.elim z
end
section
variable {X : Cx} {st : Stmt} {rest : List Stmt} {t u : TS} {e : Expr} {te : TE} {pos : Pos}
def tNext : TS := fun D σ H => D.nx σ H
def tSeq (t u : TS) : TS := fun D σ H => t { D with nx := u D } σ H
theorem pss_nil : PSs X [] tNext := fun _ _ σ H _ I h => wpAny_execs_nil ⟨σ, H, I, h⟩
theorem pss_cons (h1 : PS X st t) (h2 : PSs X rest u) : PSs X (st :: rest) (tSeq t u) := by
  intro pins s σ H D I h
  refine wpAny_execs_cons (thn (h1 pins s σ H { D with nx := u D } I h) fun f s1 q => ?_)
  cases f with
  | next =>
    obtain ⟨σ', H', I', q⟩ := q
    exact h2 pins s1 σ' H' D I' q
  | ret v => exact q
  | brk => exact q
  | cont => exact q
theorem pss_one (h1 : PS X st t) : PSs X [st] t := by
  intro pins s σ H D I h
  refine wpAny_execs_cons (thn (h1 pins s σ H D I h) fun f s1 q => ?_)
  cases f with
  | next => exact wpAny_execs_nil q
  | ret v => exact q
  | brk => exact q
  | cont => exact q
theorem Inv.quiet {pins : List (Addr × Obj)} {σ : St} {H : Hp} {s : Shared} (I : Inv X pins σ H s) : interactive X.env = false := by simp [interactive, I.ok.kind]
def tDrop (te : TE) : TS := fun D σ H => te σ H fun _ H1 => D.nx σ H1
theorem ps_expr (he : PE X e te) (hs : swapsWith e none pos.line X.env = pure false := by rfl) : PS X (.Expr e pos) (tDrop te) := by
  intro pins s σ H D I h
  exact wpAny_Expr_any (thn (he pins s σ H _ I h) fun v s1 ⟨x, H1, I1, r1, q1⟩ => ⟨σ, H1, I1, q1⟩) I.quiet hs
def tRet (te : TE) : TS := fun D σ H => te σ H D.rt
theorem ps_ret (he : PE X e te) : PS X (.Return (some e) pos) (tRet te) := by
  intro pins s σ H D I h
  exact wpAny_Return_some (thn (he pins s σ H _ I h) fun v s1 ⟨x, H1, I1, r1, q1⟩ => ⟨x, σ, H1, I1, r1, q1⟩)
def tIfS (c : TT) (t u : TS) : TS := fun D σ H => c σ H fun b H1 => if b = true then t D σ H1 else u D σ H1
theorem ps_if {c : Expr} {a b : List Stmt} {tc : TT} (hc : PT X c tc) (ha : PSs X a t) (hb : PSs X b u) : PS X (.If c a b pos) (tIfS tc t u) := by
  intro pins s σ H D I h
  refine wpAny_If (thn (hc pins s σ H _ I h) fun d s1 ⟨H1, I1, q1⟩ => ?_)
  cases d with
  | true => exact ha pins s1 σ H1 D I1 q1
  | false => exact hb pins s1 σ H1 D I1 q1
def tNever : TS := fun _ _ _ => False
theorem pss_never {sts : List Stmt} : PSs X sts tNever := fun _ _ _ _ _ _ h => h.elim
end
abbrev TG := V → St → Hp → (St → Hp → Prop) → Prop
abbrev TGs := List V → St → Hp → (St → Hp → Prop) → Prop
def PG (X : Cx) (target : Expr) (t : TG) : Prop :=
  ∀ (pins : List (Addr × Obj)) (s : Shared) (σ : St) (H : Hp) (v : V) (u : Value) (Q : St → Hp → Prop), Inv X pins σ H s → RelV v u → t v σ H Q →
    wpAny (model X.prog X.w) X.A (assign target X.env u) (fun _ s' => ∃ σ' H', Inv X pins σ' H' s' ∧ Q σ' H') X.xe s
def PGs (X : Cx) (ts : List Expr) (t : TGs) : Prop :=
  ∀ (pins : List (Addr × Obj)) (s : Shared) (σ : St) (H : Hp) (vs : List V) (us : List Value) (Q : St → Hp → Prop), Inv X pins σ H s → Vals vs us → t vs σ H Q →
    wpAny (model X.prog X.w) X.A (assignInOrder ((assignEach ts X.env).map (·.2)) us) (fun _ s' => ∃ σ' H', Inv X pins σ' H' s' ∧ Q σ' H') X.xe s
section
variable {X : Cx} {pos : Pos}
def gName (i : Nat) : TG := fun v σ H Q => Q (σ.set i (some v)) H
theorem pg_name {i : Nat} {x : Str} (hN : X.N.Nodup) (hi : X.N[i]? = some x) (hx : Loc X.env.scope x) (hf : X.fn x = true ∨ X.env.scope.names.lookup x = some .local := by first | exact .inl rfl | exact .inr rfl | assumption) : PG X (.Name x pos) (gName i) := by
  intro pins s σ H v u Q I r h
  exact wpAny_assign_Name (store_ok I hN hi hx r (fun s' I' => ⟨_, H, I', h⟩) hf)
def gNil : TGs := fun vs σ H Q => vs = [] ∧ Q σ H
def gCons (t : TG) (u : TGs) : TGs := fun vs σ H Q => ∃ v r, vs = v :: r ∧ t v σ H fun σ' H' => u r σ' H' Q
theorem pgs_nil : PGs X [] gNil := by
  intro pins s σ H vs us Q I r h
  obtain ⟨e, h⟩ := h
  subst e
  cases r
  exact assignInOrder_nil ⟨σ, H, I, h⟩
theorem pgs_cons {e : Expr} {es : List Expr} {t : TG} {u : TGs} (h1 : PG X e t) (h2 : PGs X es u)
    (hs : (assignEach (e :: es) X.env).map (·.2) = assign e X.env :: (assignEach es X.env).map (·.2) := by rfl) : PGs X (e :: es) (gCons t u) := by
  intro pins s σ H vs us Q I r h
  obtain ⟨v, vr, e1, h⟩ := h
  subst e1
  cases r with
  | cons r rr =>
    rw [hs]
    refine assignInOrder_cons (thn (h1 pins s σ H _ _ _ I r h) fun _ s1 ⟨σ1, H1, I1, q1⟩ => ?_)
    exact h2 pins s1 σ1 H1 _ _ Q I1 rr q1
def gTup (K : PySem.W.Frag) (n : Nat) (t : TGs) : TG := fun v σ H Q => ∃ a xs, v = .ref a ∧ SqT K H a xs ∧ xs.length = n ∧ t xs σ H Q
theorem pg_tup {es : List Expr} {k : Nat} {t : TGs} {n : Nat} (hc : X.calm = true) (h : PGs X es t)
    (hn : (assignEach es X.env).length = n := by rfl) (hst : (assignEach es X.env).findIdx? (·.1) = none := by rfl) : PG X (.Tuple es k pos) (gTup X.K n t) := by
  intro pins s σ H v u Q I r hw
  obtain ⟨a, xs, e1, hq, hl, hw⟩ := hw
  subst e1
  cases r
  obtain ⟨its, rv, ht, hz⟩ := I.tuple hq
  refine assign_Tuple_tuple (I.ok.hd hc) ht (by simp [hn, ← hl, rv.length]) hst fun h' hx => ?_
  have I1 : Inv X pins σ H { s with heap := h' } := I.kept (t' := s.toks) fun b o e => hx b o (Nat.ne_of_lt (Heap.lt_size e)) e
  exact h pins _ σ H xs _ Q I1 (by simpa using rv) hw
def tAsg (te : TE) (g : TG) : TS := fun D σ H => te σ H fun x H1 => g x σ H1 D.nx
theorem ps_asg {tg e : Expr} {te : TE} {g : TG} (he : PE X e te) (hg : PG X tg g) (hs : swapsWithSole [tg] e pos.line X.env = pure false := by rfl) (hw : swappedStores [tg] e X.env = pure none := by rfl)
    (h1 : (assignEach [tg] X.env).map (·.2) = [assign tg X.env] := by rfl) : PS X (.Assign [tg] e pos) (tAsg te g) := by
  intro pins s σ H D I h
  refine wpAny_Assign_stores (thn (he pins s σ H _ I h) fun v s1 ⟨x, H1, I1, r1, q1⟩ => ?_) hs hw
  rw [h1]
  exact thn (hg pins s1 σ H1 x v _ I1 r1 q1) fun _ s2 q => q
theorem ps_set {i : Nat} {x : Str} {e : Expr} {te : TE} {pos' : Pos} (hN : X.N.Nodup) (hi : X.N[i]? = some x) (hx : Loc X.env.scope x) (he : PE X e te) (hs : swapsWith e (some (.Name x pos')) pos.line X.env = pure false := by rfl) (hf : X.fn x = true ∨ X.env.scope.names.lookup x = some .local := by first | exact .inl rfl | exact .inr rfl | assumption) :
    PS X (.Assign [.Name x pos'] e pos) (tAsg te (gName i)) := by
  intro pins s σ H D I h
  refine wpAny_Assign_Name (thn (he pins s σ H _ I h) fun v s1 ⟨y, H1, I1, r1, q1⟩ => ?_) hs
  exact store_ok I1 hN hi hx r1 (fun s2 I2 => ⟨_, H1, I2, q1⟩) hf
end
section
variable {X : Cx} {pos : Pos}
end
structure It where
  go : Nat → Hp → Prop
  yld : Nat → Hp → V → Hp → Prop
  stop : Nat → Hp → Prop
def FpOk (X : Cx) (pins : List (Addr × Obj)) (H : Hp) (b : Addr) : Prop :=
  H b = none ∧ b ≠ X.env.locals ∧ b ∉ X.fs ∧ (b ∈ X.ex ∨ X.s₀.heap.objs.size ≤ b) ∧ (∀ x c, X.env.cells.lookup x = some c → c ≠ b) ∧ ∀ p ∈ X.pn ++ pins, p.1 ≠ b
theorem Inv.fpOk {X : Cx} {pins : List (Addr × Obj)} {σ : St} {H H' : Hp} {s : Shared} {b : Addr} (I : Inv X pins σ H s) (hb : s.heap.objs.size ≤ b) (hn : H' b = none) : FpOk X pins H' b := by
  refine ⟨hn, Nat.ne_of_gt (Nat.lt_of_lt_of_le I.lt hb), I.nofs hb, .inr (Nat.le_trans I.sz hb), fun x c e z => ?_, fun p hp z => ?_⟩
  · obtain ⟨v, q⟩ := I.cell x c e
    exact absurd (Nat.lt_of_lt_of_le q.lt (by rw [z]; exact hb)) (Nat.lt_irrefl _)
  · exact absurd (Nat.lt_of_lt_of_le (Heap.lt_size (I.pin p hp).1) (by rw [z]; exact hb)) (Nat.lt_irrefl _)
structure Turn (P : Program) (w : World) (K : PySem.W.Frag) (tg : Expr) (J : It) (fp : List Addr) (it : Addr) (tn : Nat → Heap → Prop) : Prop where
  mem : it ∈ fp
  obj : ∀ i h, tn i h → ∀ b ∈ fp, ∃ o, h.get? b = some o ∧ ∀ v, o.data ≠ .cell v
  keep : ∀ i h h', tn i h → (∀ b ∈ fp, ∀ o, h.get? b = some o → h'.get? b = some o) → tn i h'
  item : ∀ (X : Cx), X.prog = P → X.w = w → X.K = K → X.calm = true → ∀ (i : Nat) (pins : List (Addr × Obj)) (s : Shared) (σ : St) (H : Hp) (E : Value → Shared → Prop), Inv X pins σ H s → (∀ b ∈ fp, FpOk X pins H b) → tn i s.heap → J.go i H →
    wpAny (model P w) X.A (pyNext (.ref it)) (fun r s1 => ∃ u, r = some u ∧
      wpAny (model P w) X.A (letOwnedTupleGo tg (.ref it) u) (fun _ s2 => ∃ x H', Inv X pins σ H' s2 ∧ RelV x u ∧ J.yld i H x H' ∧ tn (i + 1) s2.heap ∧ ∀ b ∈ fp, H' b = none) E s1) E s
  done : ∀ (X : Cx), X.prog = P → X.w = w → X.K = K → X.calm = true → ∀ (i : Nat) (pins : List (Addr × Obj)) (s : Shared) (σ : St) (H : Hp) (E : Value → Shared → Prop), Inv X pins σ H s → (∀ b ∈ fp, FpOk X pins H b) → tn i s.heap → J.stop i H →
    wpAny (model P w) X.A (pyNext (.ref it)) (fun r s1 => r = none ∧ Inv X pins σ H s1) E s
  self : ∀ (A : Around) (i : Nat) (s : Shared) (Q : Value → Shared → Prop) (E : Value → Shared → Prop), tn i s.heap → Q (.ref it) s → wpAny (model P w) A (pyIter (.ref it)) Q E s
abbrev TI := St → Hp → (It → Hp → Prop) → Prop
def PIE (X : Cx) (pins : List (Addr × Obj)) (σ : St) (tg : Expr) (R : It → Hp → Prop) (itv : Value) (s2 : Shared) : Prop :=
  ∃ (it : Addr) (fp : List Addr) (tn : Nat → Heap → Prop) (J : It) (H' : Hp), itv = .ref it ∧ Inv X pins σ H' s2 ∧ Turn X.prog X.w X.K tg J fp it tn ∧ tn 0 s2.heap ∧ (∀ b ∈ fp, FpOk X pins H' b) ∧ R J H'
def PI (X : Cx) (tg iter : Expr) (wi : TI) : Prop :=
  ∀ (pins : List (Addr × Obj)) (s : Shared) (σ : St) (H : Hp) (R : It → Hp → Prop), Inv X pins σ H s → wi σ H R →
    wpAny (model X.prog X.w) X.A (eval iter X.env) (fun v s1 => wpAny (model X.prog X.w) X.A (pyIter v) (PIE X pins σ tg R) X.xe s1) X.xe s
theorem go_of {M : Model} {A : Around} {E : Value → Shared → Prop} {s : Shared} {tg : Expr} {it : Addr} {u : Value} {o : Obj} {n : String} {vs : Array Value} {Q : Unit → Shared → Prop} (ho : s.heap.get? it = some o) (hc : o.cls = .type n) (hd : o.data = .fields vs)
    (hn : ["enumerate", "zip", "dict_itemiterator", "dict_reverseitemiterator", "odict_iterator", "itertools.zip_longest", "itertools.pairwise"].contains n = false) (hQ : Q () s) : wpAny M A (letOwnedTupleGo tg (.ref it) u) Q E s := by
  unfold letOwnedTupleGo
  cases tg <;> first
    | exact wpAny_pure hQ
    | (cases u <;> first
        | exact wpAny_pure hQ
        | (refine wpAny_bind (wpAny_load ho ?_)
           rw [hc, hd]
           show wpAny M A (if (["enumerate", "zip", "dict_itemiterator", "dict_reverseitemiterator", "odict_iterator", "itertools.zip_longest", "itertools.pairwise"].contains n && vs[0]? == some (rawInt _)) = true then _ else _) Q E s
           rw [if_neg (by intro h; rw [hn, Bool.false_and] at h; cases h)]
           exact wpAny_pure hQ))
def Itl (K : PySem.W.Frag) (a : Addr) : It :=
  ⟨fun i H => ∃ xs x, SqL K H a xs ∧ xs[i]? = some x, fun i H x H' => H' = H ∧ ∀ xs, SqL K H a xs → xs[i]? = some x, fun i H => ∃ xs, SqL K H a xs ∧ xs.length ≤ i⟩
def Itt (K : PySem.W.Frag) (a : Addr) : It :=
  ⟨fun i H => ∃ xs x, SqT K H a xs ∧ xs[i]? = some x, fun i H x H' => H' = H ∧ ∀ xs, SqT K H a xs → xs[i]? = some x, fun i H => ∃ xs, SqT K H a xs ∧ xs.length ≤ i⟩
def Itr (lo : Int) (n : Nat) : It := ⟨fun i _ => i < n, fun i H x H' => H' = H ∧ x = .int (lo + i), fun i _ => n ≤ i⟩
theorem turn_list {P : Program} {w : World} {K : PySem.W.Frag} {tg : Expr} (a it : Addr) : Turn P w K tg (Itl K a) [it] it (fun i h => h.IsListIter it a i) where
  mem := by simp
  obj := fun i h st b hb => by
    have e : b = it := by simpa using hb
    subst e
    obtain ⟨o, e, c, d⟩ := st
    exact ⟨o, e, fun v z => by rw [d] at z; cases z⟩
  keep := fun i h h' st k => st.at fun o e => k it (by simp) o e
  item := by
    intro X hP hw hK hc i pins s σ H E I hf st hg
    subst hP hw hK
    obtain ⟨xs, x, hq, hx⟩ := hg
    obtain ⟨its, rv, p, hz⟩ := I.list hq
    obtain ⟨u, hu, ru⟩ := rv.get hx
    obtain ⟨f0, f1, f2, f3, f4, f5⟩ := hf it (by simp)
    refine wpAny_pyNext_list_item st p.isList (x := u) (by simpa using hu) fun h' st' sb => ?_
    have I1 : Inv X pins σ H { s with heap := h' } := I.turned (t' := s.toks) (fun b o hb e => (sb.2 b hb).trans e) f0 f1 f3 f4 f5
    obtain ⟨o, e, c, d⟩ := id st'
    exact ⟨u, rfl, go_of (s := { s with heap := h' }) e c d (by decide) ⟨x, H, I1, ru, ⟨rfl, fun ys hy => by rw [I.list_inj hy hq]; exact hx⟩, st', fun b hb => (hf b hb).1⟩⟩
  done := by
    intro X hP hw hK hc i pins s σ H E I hf st hg
    subst hP hw hK
    obtain ⟨xs, hq, hx⟩ := hg
    obtain ⟨its, rv, p, hz⟩ := I.list hq
    obtain ⟨f0, f1, f2, f3, f4, f5⟩ := hf it (by simp)
    have hl := rv.length
    exact wpAny_pyNext_list_end (I.ok.hd hc) st p.isList (by simp; omega) fun h' eb => ⟨rfl, I.turned (t' := s.toks) (fun b o hb e => eb b o hb e) f0 f1 f3 f4 f5⟩
  self := fun _ _ _ _ _ st h => wpAny_pyIter_listiter st h
theorem turn_tuple {P : Program} {w : World} {K : PySem.W.Frag} {tg : Expr} (a it : Addr) : Turn P w K tg (Itt K a) [it] it (fun i h => h.IsTupleIter it a i) where
  mem := by simp
  obj := fun i h st b hb => by
    have e : b = it := by simpa using hb
    subst e
    obtain ⟨o, e, c, d⟩ := st
    exact ⟨o, e, fun v z => by rw [d] at z; cases z⟩
  keep := fun i h h' st k => st.at fun o e => k it (by simp) o e
  item := by
    intro X hP hw hK hc i pins s σ H E I hf st hg
    subst hP hw hK
    obtain ⟨xs, x, hq, hx⟩ := hg
    obtain ⟨its, rv, p, hz⟩ := I.tuple hq
    obtain ⟨u, hu, ru⟩ := rv.get hx
    obtain ⟨f0, f1, f2, f3, f4, f5⟩ := hf it (by simp)
    refine wpAny_pyNext_tuple_item st (show s.heap.IsTuple a its.toArray from p) (x := u) (by simpa using hu) fun h' st' sb => ?_
    have I1 : Inv X pins σ H { s with heap := h' } := I.turned (t' := s.toks) (fun b o hb e => (sb.2 b hb).trans e) f0 f1 f3 f4 f5
    obtain ⟨o, e, c, d⟩ := id st'
    exact ⟨u, rfl, go_of (s := { s with heap := h' }) e c d (by decide) ⟨x, H, I1, ru, ⟨rfl, fun ys hy => by rw [I.tuple_inj hy hq]; exact hx⟩, st', fun b hb => (hf b hb).1⟩⟩
  done := by
    intro X hP hw hK hc i pins s σ H E I hf st hg
    subst hP hw hK
    obtain ⟨xs, hq, hx⟩ := hg
    obtain ⟨its, rv, p, hz⟩ := I.tuple hq
    obtain ⟨f0, f1, f2, f3, f4, f5⟩ := hf it (by simp)
    have hl := rv.length
    exact wpAny_pyNext_tuple_end (I.ok.hd hc) st (show s.heap.IsTuple a its.toArray from p) (by simp; omega) fun h' eb => ⟨rfl, I.turned (t' := s.toks) (fun b o hb e => eb b o hb e) f0 f1 f3 f4 f5⟩
  self := fun _ _ _ _ _ st h => wpAny_pyIter_tupleiter st h
theorem turn_range {P : Program} {w : World} {K : PySem.W.Frag} {tg : Expr} (it : Addr) (lo : Int) (n : Nat) : Turn P w K tg (Itr lo n) [it] it (fun i h => IsRangeIter h it (lo + (i : Nat) * 1) ((n : Int) - (i : Nat)) 1) where
  mem := by simp
  obj := fun i h st b hb => by
    have e : b = it := by simpa using hb
    subst e
    exact ⟨_, st, fun v z => by
      have z' : Data.fields _ = Data.cell v := z
      cases z'⟩
  keep := fun i h h' st k => k it (by simp) _ st
  item := by
    intro X hP hw hK hc i pins s σ H E I hf st hg
    subst hP hw hK
    obtain ⟨f0, f1, f2, f3, f4, f5⟩ := hf it (by simp)
    have W := Walks.range (prog := X.prog) (w := X.w) (I.ok.hd hc) it lo 1 n
    refine W.item i s _ _ hg st fun v h' tk hv st' kk => ?_
    obtain ⟨t, rfl⟩ := hv
    have I1 : Inv X pins σ H { s with heap := h', toks := tk } := I.turned (fun b o hb e => kk b o (by simpa using hb) e) f0 f1 f3 f4 f5
    refine ⟨_, rfl, go_of (s := { s with heap := h', toks := tk }) (n := "range_iterator") st' rfl rfl (by decide) ⟨.int (lo + i), H, I1, ⟨t, ?_⟩, ⟨rfl, rfl⟩, st', fun b hb => (hf b hb).1⟩⟩
    rw [Int.mul_one]
  done := by
    intro X hP hw hK hc i pins s σ H E I hf st hg
    subst hP hw hK
    obtain ⟨f0, f1, f2, f3, f4, f5⟩ := hf it (by simp)
    exact wpAny_pyNext_range_end (I.ok.hd hc) st (by have : n ≤ i := hg; omega) fun h' eb => ⟨rfl, I.turned (t' := s.toks) (fun b o hb e => eb b o hb e) f0 f1 f3 f4 f5⟩
  self := fun _ _ _ _ _ st h => wpAny_pyIter_rangeiter st h
end L2
namespace L2
open PySem PySem.Spec PyProof.Rows
section
variable {X : Cx} {tg : Expr}
def iList (K : PySem.W.Frag) (tl : TE) : TI := fun σ H R => tl σ H fun x H1 => ∃ a, x = .ref a ∧ (∃ xs, SqL K H1 a xs) ∧ R (Itl K a) H1
def iTup (K : PySem.W.Frag) (tl : TE) : TI := fun σ H R => tl σ H fun x H1 => ∃ a, x = .ref a ∧ (∃ xs, SqT K H1 a xs) ∧ R (Itt K a) H1
theorem pi_list {l : Expr} {tl : TE} (hl : PE X l tl) : PI X tg l (iList X.K tl) := by
  intro pins s σ H R I h
  refine thn (hl pins s σ H _ I h) fun v s1 ⟨x, H1, I1, r1, q1⟩ => ?_
  obtain ⟨a, e, ⟨xs, hq⟩, q⟩ := q1
  subst e
  cases r1
  obtain ⟨its, rv, p, hz⟩ := I1.list hq
  refine wpAny_pyIter_list p.isList ?_
  refine ⟨s1.heap.objs.size, [s1.heap.objs.size], _, _, H1, rfl, I1.kept (t' := s1.toks) fun b o e => Heap.get?_push_of_some _ e, turn_list a _, ⟨_, Heap.get?_push_size _ rfl, rfl, rfl⟩, fun b hb => ?_, q⟩
  have e : b = s1.heap.objs.size := by simpa using hb
  subst e
  exact I1.fpOk (Nat.le_refl _) (I1.hok.fresh (Nat.le_refl _))
theorem pi_tup {l : Expr} {tl : TE} (hl : PE X l tl) : PI X tg l (iTup X.K tl) := by
  intro pins s σ H R I h
  refine thn (hl pins s σ H _ I h) fun v s1 ⟨x, H1, I1, r1, q1⟩ => ?_
  obtain ⟨a, e, ⟨xs, hq⟩, q⟩ := q1
  subst e
  cases r1
  obtain ⟨its, rv, p, hz⟩ := I1.tuple hq
  refine wpAny_pyIter_tuple (show s1.heap.IsTuple a its.toArray from p) ?_
  refine ⟨s1.heap.objs.size, [s1.heap.objs.size], _, _, H1, rfl, I1.kept (t' := s1.toks) fun b o e => Heap.get?_push_of_some _ e, turn_tuple a _, ⟨_, Heap.get?_push_size _ rfl, rfl, rfl⟩, fun b hb => ?_, q⟩
  have e : b = s1.heap.objs.size := by simpa using hb
  subst e
  exact I1.fpOk (Nat.le_refl _) (I1.hok.fresh (Nat.le_refl _))
theorem range_it {pins : List (Addr × Obj)} {σ : St} {H : Hp} {s : Shared} {R : It → Hp → Prop} {E : Value → Shared → Prop} {lo hi : Int} {t u v : Tok} {tk : Nat} (I : Inv X pins σ H s) (h1 : -(2 ^ 62) ≤ lo) (h2 : lo < 2 ^ 62) (h3 : -(2 ^ 62) ≤ hi) (h4 : hi < 2 ^ 62)
    (q : R (Itr lo (hi - lo).toNat) H) : wpAny (model X.prog X.w) X.A (pyIter (.ref s.heap.objs.size)) (PIE X pins σ tg R) E { s with heap := s.heap.push { cls := .type "range", data := .fields #[.int lo t, .int hi u, .int 1 v] }, toks := tk } := by
  refine wpAny_pyIter_range (IsRange.new ..) (small_one h1 h2 h3 h4) ?_
  have I1 : Inv X pins σ H { s with heap := s.heap.push { cls := .type "range", data := .fields #[.int lo t, .int hi u, .int 1 v] }, toks := tk } := I.kept fun b o e => Heap.get?_push_of_some _ e
  refine ⟨(s.heap.push { cls := .type "range", data := .fields #[.int lo t, .int hi u, .int 1 v] }).objs.size, [(s.heap.push { cls := .type "range", data := .fields #[.int lo t, .int hi u, .int 1 v] }).objs.size], _, _, H, rfl,
    I1.kept (t' := tk) fun b o e => Heap.get?_push_of_some _ e, turn_range _ lo (hi - lo).toNat, ?_, fun b hb => ?_, q⟩
  · have e1 : lo + ((0 : Nat) : Int) * 1 = lo := by simp
    have e2 : (((hi - lo).toNat : Nat) : Int) - ((0 : Nat) : Int) = Builtin.Range.rangeSize lo hi 1 := by rw [rangeSize_one]; split <;> omega
    show IsRangeIter _ _ (lo + ((0 : Nat) : Int) * 1) ((((hi - lo).toNat : Nat) : Int) - ((0 : Nat) : Int)) 1
    rw [e1, e2]
    exact Heap.get?_push_size _ rfl
  · have e : b = (s.heap.push { cls := .type "range", data := .fields #[.int lo t, .int hi u, .int 1 v] }).objs.size := by simpa using hb
    subst e
    exact I1.fpOk (Nat.le_refl _) (I1.hok.fresh (Nat.le_refl _))
def iRng1 (ta : TA) : TI := fun σ H R => ta σ H fun vs H1 => ∃ j : Int, vs = [.int j] ∧ -(2 ^ 62) ≤ j ∧ j < 2 ^ 62 ∧ R (Itr 0 j.toNat) H1
theorem pi_range1 {a : Expr} {ta : TA} {p pos : Pos} (hg : Gl X "range") (hm : X.mg "range" = none) (ha : PA X [a] ta) (hs : starEach [a] X.env = [(false, eval a X.env)] := by rfl) : PI X tg (.Call (.Name "range" p) [a] [] pos) (iRng1 ta) := by
  intro pins s σ H R I h
  refine Call_ (ld_blt I hg hm boot_range (PyProof.Rows.callWith_type1 (thn (ha pos pins s σ H _ I h) fun us s1 ⟨vs, H1, I1, r1, q1⟩ => ?_) hs rfl))
  obtain ⟨j, e, q1, q2, q⟩ := q1
  subst e
  cases r1 with
  | cons r rr =>
    cases rr
    obtain ⟨t, rfl⟩ := r
    exact call_range_1 (range_it I1 (by omega) (by omega) q1 q2 (by simpa using q))
def tFor (wi : TI) (g : TG) (tb : TS) : TS := fun D σ H => wi σ H fun J H1 => ∃ W : Nat → Nat → St → Hp → Prop, (∃ m, W 0 m σ H1) ∧ ∀ i m σ H, W i m σ H →
  (J.stop i H ∧ D.nx σ H) ∨ (J.go i H ∧ ∃ N : St → Hp → Prop, (∀ σ' H', N σ' H' → ∃ m', m' < m ∧ W (i + 1) m' σ' H') ∧ ∀ x H', J.yld i H x H' → g x σ H' fun σ2 H2 => tb { D with nx := N, ct := N, bk := D.nx } σ2 H2)
def pinsAt (fp : List Addr) (h : Heap) : List (Addr × Obj) := fp.filterMap fun b => (h.get? b).map fun o => (b, o)
theorem mem_pinsAt {fp : List Addr} {h : Heap} {b : Addr} {o : Obj} (hb : b ∈ fp) (e : h.get? b = some o) : (b, o) ∈ pinsAt fp h := List.mem_filterMap.mpr ⟨b, hb, by rw [e]; rfl⟩
theorem of_pinsAt {fp : List Addr} {h : Heap} {p : Addr × Obj} (hp : p ∈ pinsAt fp h) : p.1 ∈ fp ∧ h.get? p.1 = some p.2 := by
  obtain ⟨b, hb, e⟩ := List.mem_filterMap.mp hp
  cases q : h.get? b with
  | none => rw [q] at e; cases e
  | some o =>
    rw [q] at e
    have e' : (b, o) = p := Option.some.inj e
    subst e'
    exact ⟨hb, q⟩
theorem Inv.pinned {pins : List (Addr × Obj)} {σ : St} {H : Hp} {s : Shared} {fp : List Addr} (I : Inv X pins σ H s) (hf : ∀ b ∈ fp, FpOk X pins H b) (ho : ∀ b ∈ fp, ∃ o, s.heap.get? b = some o ∧ ∀ v, o.data ≠ .cell v) : Inv X (pins ++ pinsAt fp s.heap) σ H s :=
  I.pins_of fun p hp => (List.mem_append.mp hp).elim (fun z => I.pin p (List.mem_append_right _ z)) fun z => by
    obtain ⟨hb, e⟩ := of_pinsAt z
    obtain ⟨f0, f1, f2, _⟩ := hf p.1 hb
    obtain ⟨o, e', d⟩ := ho p.1 hb
    rw [e] at e'; cases e'
    exact ⟨e, f0, f1, f2, d⟩
theorem Inv.unpinned {pins pl : List (Addr × Obj)} {σ : St} {H : Hp} {s : Shared} (I : Inv X (pins ++ pl) σ H s) : Inv X pins σ H s := I.pins_of fun p hp => I.pin p (List.mem_append_right _ (List.mem_append_left _ hp))
theorem ps_for {iter : Expr} {body : List Stmt} {wi : TI} {g : TG} {tb : TS} {pos : Pos} (hp : PassesOwn (model X.prog X.w) X.A X.env X.xe) (hc : X.calm = true) (hi : PI X tg iter wi) (hg : PG X tg g) (hb : PSs X body tb)
    (hs : ∀ x, foldedSetIterable iter X.env x = pure x := by intro _; rfl) : PS X (.For tg iter body [] pos) (tFor wi g tb) := by
  intro pins s σ H D I h
  refine wpAny_For (thn (hi pins s σ H _ I h) fun v s1 h1 => thn h1 fun itv s2 h2 => ?_) hs
  obtain ⟨it, fp, tn, J, H2, e, I2, T, st2, f2, W, ⟨m0, w0⟩, turn⟩ := h2
  subst e
  -- what stays true of the iterator's objects through the loop
  have stat : ∀ {H' : Hp}, (∀ b ∈ fp, H' b = none) → ∀ b ∈ fp, FpOk X pins H' b := fun hn b hb => ⟨hn b hb, (f2 b hb).2⟩
  refine codeAny_forLoop_any (fun n s' => ∃ i σ' H', Inv X pins σ' H' s' ∧ tn i s'.heap ∧ (∀ b ∈ fp, H' b = none) ∧ W i n σ' H') ?_ m0 ⟨0, σ, H2, I2, st2, fun b hb => (f2 b hb).1, w0⟩
  rintro n s3 ⟨i, σ3, H3, I3, st3, fr3, w3⟩
  rcases turn i n σ3 H3 w3 with ⟨stop, qn⟩ | ⟨go, N, hN, step⟩
  · refine wpAny_passesOwn hp (thn (T.done X rfl rfl rfl hc i pins s3 σ3 H3 X.xe I3 (stat fr3) st3 stop) fun r s4 ⟨hr, I4⟩ => ?_)
    subst hr
    exact wpAny_execs_nil ⟨σ3, H3, I4, qn⟩
  · refine wpAny_passesOwn hp (thn (T.item X rfl rfl rfl hc i pins s3 σ3 H3 X.xe I3 (stat fr3) st3 go) fun r s4 ⟨u, hr, h4⟩ => ?_)
    subst hr
    refine wpAny_passesOwn hp (thn h4 fun _ s5 ⟨x, H5, I5, r5, y5, st5, fr5⟩ => ?_)
    have I5' := I5.pinned (stat fr5) (T.obj _ _ st5)
    refine wpAny_passesOwn hp (thn (hg _ s5 σ3 H5 x u _ I5' r5 (step x H5 y5)) fun _ s6 ⟨σ6, H6, I6, q6⟩ => ?_)
    refine wpAny_passesOwn hp (thn (hb _ s6 σ6 H6 _ I6 q6) fun f s7 q7 => ?_)
    have again : ∀ {σ7 : St} {H7 : Hp}, Inv X (pins ++ pinsAt fp s5.heap) σ7 H7 s7 → N σ7 H7 → ∃ m, m < n ∧ ∃ i σ' H', Inv X pins σ' H' s7 ∧ tn i s7.heap ∧ (∀ b ∈ fp, H' b = none) ∧ W i m σ' H' := fun {σ7 H7} I7 n7 => by
      obtain ⟨m', hm, w7⟩ := hN σ7 H7 n7
      refine ⟨m', hm, i + 1, σ7, H7, I7.unpinned, T.keep _ _ _ st5 fun b hb o e => (I7.pin (b, o) (List.mem_append_right _ (List.mem_append_right _ (mem_pinsAt hb e)))).1, fun b hb => ?_, w7⟩
      obtain ⟨o, e, d⟩ := T.obj _ _ st5 b hb
      exact (I7.pin (b, o) (List.mem_append_right _ (List.mem_append_right _ (mem_pinsAt hb e)))).2.1
    cases f with
    | next => obtain ⟨σ7, H7, I7, n7⟩ := q7; exact again I7 n7
    | cont => obtain ⟨σ7, H7, I7, n7⟩ := q7; exact again I7 n7
    | brk => obtain ⟨σ7, H7, I7, q7⟩ := q7; exact ⟨σ7, H7, I7.unpinned, q7⟩
    | ret v => obtain ⟨x7, σ7, H7, I7, r7, q7⟩ := q7; exact ⟨x7, σ7, H7, I7.unpinned, r7, q7⟩
end
theorem for_list {K : PySem.W.Frag} {a : Addr} {xs : List V} {g : TG} {tb : TS} {D : Ends} {σ : St} {H : Hp} (Pv : Nat → St → Hp → Prop) (h0 : Pv 0 σ H) (hl : ∀ i σ H, i ≤ xs.length → Pv i σ H → SqL K H a xs)
    (hs : ∀ i x σ H, xs[i]? = some x → Pv i σ H → g x σ H fun σ2 H2 => tb { D with nx := Pv (i + 1), ct := Pv (i + 1), bk := D.nx } σ2 H2) (hd : ∀ σ H, Pv xs.length σ H → D.nx σ H) :
    ∃ W : Nat → Nat → St → Hp → Prop, (∃ m, W 0 m σ H) ∧ ∀ i m σ H, W i m σ H →
      ((Itl K a).stop i H ∧ D.nx σ H) ∨ ((Itl K a).go i H ∧ ∃ N : St → Hp → Prop, (∀ σ' H', N σ' H' → ∃ m', m' < m ∧ W (i + 1) m' σ' H') ∧ ∀ x H', (Itl K a).yld i H x H' → g x σ H' fun σ2 H2 => tb { D with nx := N, ct := N, bk := D.nx } σ2 H2) := by
  refine ⟨fun i m σ H => m = xs.length - i ∧ i ≤ xs.length ∧ Pv i σ H, ⟨xs.length, by simp, Nat.zero_le _, h0⟩, ?_⟩
  rintro i m σ H ⟨rfl, hi, p⟩
  have q := hl i σ H hi p
  by_cases hlt : i < xs.length
  · refine .inr ⟨⟨xs, xs[i], q, by simp [hlt]⟩, Pv (i + 1), fun σ' H' p' => ⟨xs.length - (i + 1), by omega, rfl, hlt, p'⟩, fun x H' y => ?_⟩
    obtain ⟨e, y⟩ := y
    subst e
    exact hs i x σ _ (y xs q) p
  · have e : i = xs.length := by omega
    subst e
    exact .inl ⟨⟨xs, q, Nat.le_refl _⟩, hd σ H p⟩
theorem for_range {lo : Int} {n : Nat} {g : TG} {tb : TS} {D : Ends} {σ : St} {H : Hp} (Pv : Nat → St → Hp → Prop) (h0 : Pv 0 σ H)
    (hs : ∀ i σ H, i < n → Pv i σ H → g (.int (lo + i)) σ H fun σ2 H2 => tb { D with nx := Pv (i + 1), ct := Pv (i + 1), bk := D.nx } σ2 H2) (hd : ∀ σ H, Pv n σ H → D.nx σ H) :
    ∃ W : Nat → Nat → St → Hp → Prop, (∃ m, W 0 m σ H) ∧ ∀ i m σ H, W i m σ H →
      ((Itr lo n).stop i H ∧ D.nx σ H) ∨ ((Itr lo n).go i H ∧ ∃ N : St → Hp → Prop, (∀ σ' H', N σ' H' → ∃ m', m' < m ∧ W (i + 1) m' σ' H') ∧ ∀ x H', (Itr lo n).yld i H x H' → g x σ H' fun σ2 H2 => tb { D with nx := N, ct := N, bk := D.nx } σ2 H2) := by
  refine ⟨fun i m σ H => m = n - i ∧ i ≤ n ∧ Pv i σ H, ⟨n, by simp, Nat.zero_le _, h0⟩, ?_⟩
  rintro i m σ H ⟨rfl, hi, p⟩
  by_cases hlt : i < n
  · refine .inr ⟨hlt, Pv (i + 1), fun σ' H' p' => ⟨n - (i + 1), by omega, rfl, hlt, p'⟩, fun x H' y => ?_⟩
    obtain ⟨e, y⟩ := y
    subst e y
    exact hs i σ _ hlt p
  · have e : i = n := by omega
    subst e
    exact .inl ⟨Nat.le_refl _, hd σ H p⟩
end L2
namespace L2
open PySem PySem.Spec PyProof.Rows
abbrev R2 := V → V → Hp → VK → Prop
def OpR (X : Cx) (f : Value → Value → Sem Value) (r : R2) : Prop :=
  ∀ (pins : List (Addr × Obj)) (s : Shared) (σ : St) (H : Hp) (x y : V) (v u : Value) (Q : VK), Inv X pins σ H s → RelV x v → RelV y u → r x y H Q →
    wpAny (model X.prog X.w) X.A (f v u) (EP X pins σ Q) X.xe s
def CallR (X : Cx) (f : Value) (r : List V → Hp → VK → Prop) : Prop :=
  ∀ (pins : List (Addr × Obj)) (s : Shared) (σ : St) (H : Hp) (xs : List V) (us : List Value) (Q : VK), Inv X pins σ H s → Vals xs us → r xs H Q →
    wpAny (model X.prog X.w) X.A (call f us) (EP X pins σ Q) X.xe s
def TruR (X : Cx) (r : V → Hp → (Bool → Hp → Prop) → Prop) : Prop :=
  ∀ (pins : List (Addr × Obj)) (s : Shared) (σ : St) (H : Hp) (x : V) (v : Value) (Q : Bool → Hp → Prop), Inv X pins σ H s → RelV x v → r x H Q →
    wpAny (model X.prog X.w) X.A (truthy v) (TP X pins σ Q) X.xe s
def tOp (r : R2) (ta tb : TE) : TE := fun σ H Q => ta σ H fun x H1 => tb σ H1 fun y H2 => r x y H2 Q
def rI (C : Int → Int → Prop) (g : Int → Int → V) : R2 := fun x y H Q => ∃ i j, x = .int i ∧ y = .int j ∧ C i j ∧ Q (g i j) H
def rI0 (g : Int → Int → V) : R2 := fun x y H Q => ∃ i j, x = .int i ∧ y = .int j ∧ Q (g i j) H
section
variable {X : Cx} {a b c : Expr} {ta tb tc : TE} {pos : Pos}
theorem binT (ha : PE X a ta) (hb : PE X b tb) {pins : List (Addr × Obj)} {s : Shared} {σ : St} {H : Hp} {R : V → V → Hp → Prop} (I : Inv X pins σ H s)
    (h : ta σ H fun x H1 => tb σ H1 fun y H2 => R x y H2) {Q : Value → Shared → Prop} {f : Value → Value → Sem Value}
    (hf : ∀ v u s2 x y H2, Inv X pins σ H2 s2 → RelV x v → RelV y u → R x y H2 → wpAny (model X.prog X.w) X.A (f v u) Q X.xe s2) :
    wpAny (model X.prog X.w) X.A (eval a X.env) (fun v s₁ => wpAny (model X.prog X.w) X.A (eval b X.env) (fun u s₂ => wpAny (model X.prog X.w) X.A (f v u) Q X.xe s₂) X.xe s₁) X.xe s := by
  refine thn (ha pins s σ H _ I h) fun v s1 ⟨x, H1, I1, r1, q1⟩ => ?_
  refine thn (hb pins s1 σ H1 _ I1 q1) fun u s2 ⟨y, H2, I2, r2, q2⟩ => ?_
  exact hf v u s2 x y H2 I2 r1 r2 q2
theorem pe_op {op : Operator} {r : R2} (ho : OpR X (binaryOp op) r) (ha : PE X a ta) (hb : PE X b tb) : PE X (.BinOp a op b pos) (tOp r ta tb) := by
  intro pins s σ H Q I h
  exact wpAny_BinOp (binT ha hb I h fun v u s2 x y H2 I2 rx ry q => ho pins s2 σ H2 x y v u Q I2 rx ry q)
theorem opI {f : Value → Value → Sem Value} {C : Int → Int → Prop} {g : Int → Int → Int}
    (rule : ∀ (i j : Int) (t u : Tok) (s : Shared) (Q : Value → Shared → Prop) (E : Value → Shared → Prop), C i j → Q (.int (g i j) s.toks) { s with toks := s.toks + 1 } → wpAny (model X.prog X.w) X.A (f (.int i t) (.int j u)) Q E s) :
    OpR X f (rI C fun i j => .int (g i j)) := by
  intro pins s σ H x y v u Q I rx ry h
  obtain ⟨i, j, rfl, rfl, hc, q⟩ := h
  obtain ⟨t, rfl⟩ := rx
  obtain ⟨t', rfl⟩ := ry
  exact rule i j t t' s _ _ hc ⟨.int (g i j), H, I.tok _, ⟨_, rfl⟩, q⟩
theorem opI0 {f : Value → Value → Sem Value} {g : Int → Int → Int}
    (rule : ∀ (i j : Int) (t u : Tok) (s : Shared) (Q : Value → Shared → Prop) (E : Value → Shared → Prop), Q (.int (g i j) s.toks) { s with toks := s.toks + 1 } → wpAny (model X.prog X.w) X.A (f (.int i t) (.int j u)) Q E s) :
    OpR X f (rI0 fun i j => .int (g i j)) := by
  intro pins s σ H x y v u Q I rx ry h
  obtain ⟨i, j, rfl, rfl, q⟩ := h
  obtain ⟨t, rfl⟩ := rx
  obtain ⟨t', rfl⟩ := ry
  exact rule i j t t' s _ _ ⟨.int (g i j), H, I.tok _, ⟨_, rfl⟩, q⟩
theorem opB0 {f : Value → Value → Sem Value} {g : Int → Int → Bool}
    (rule : ∀ (i j : Int) (t u : Tok) (s : Shared) (Q : Value → Shared → Prop) (E : Value → Shared → Prop), Q (.bool (g i j)) s → wpAny (model X.prog X.w) X.A (f (.int i t) (.int j u)) Q E s) :
    OpR X f (rI0 fun i j => .bl (g i j)) := by
  intro pins s σ H x y v u Q I rx ry h
  obtain ⟨i, j, rfl, rfl, q⟩ := h
  obtain ⟨t, rfl⟩ := rx
  obtain ⟨t', rfl⟩ := ry
  exact rule i j t t' s _ _ ⟨.bl (g i j), H, I, rfl, q⟩
def CDiv (i j : Int) : Prop := 0 < j ∧ j < 1073741824
def CPow (i j : Int) : Prop := 0 ≤ j ∧ j ≤ 1000000 ∧ i.natAbs < 2 ^ 64
def CMul (i j : Int) : Prop := (-(2 ^ 64) < i ∧ i < 2 ^ 64) ∨ (-(2 ^ 64) < j ∧ j < 2 ^ 64)
theorem CMul.ok {i j : Int} (h : CMul i j) : IntMulOk i j := by
  rcases h with ⟨h1, h2⟩ | ⟨h1, h2⟩
  · exact .of_left (intBits_le_64 h1 h2)
  · exact .of_right (intBits_le_64 h1 h2)
theorem op_add : OpR X (binaryOp .Add) (rI0 fun i j => .int (i + j)) := opI0 fun _ _ _ _ _ _ _ q => add_int q
theorem op_sub : OpR X (binaryOp .Sub) (rI0 fun i j => .int (i - j)) := opI0 fun _ _ _ _ _ _ _ q => sub_int q
theorem op_mul : OpR X (binaryOp .Mult) (rI CMul fun i j => .int (i * j)) := opI fun _ _ _ _ _ _ _ hc q => mul_int q hc.ok
theorem op_fdiv : OpR X (binaryOp .FloorDiv) (rI CDiv fun i j => .int (i / j)) := opI fun i j _ _ _ _ _ hc q => by
  have h1 : (0 : Int) < j := hc.1
  have h2 : j < 1073741824 := hc.2
  exact floordiv_int (by omega) (by rw [Int.fdiv_eq_ediv_of_nonneg i (by omega)]; exact q) (.inl (PyProof.noPylong_small (by omega)))
theorem op_mod : OpR X (binaryOp .Mod) (rI (fun _ j => 0 < j) fun i j => .int (i % j)) := opI fun i j _ _ _ _ _ hc q => by
  have h1 : (0 : Int) < j := hc
  exact mod_int' (by omega) (by rw [Int.fmod_eq_emod_of_nonneg i (by omega)]; exact q)
theorem op_pow : OpR X (binaryOp .Pow) (rI CPow fun i j => .int (i ^ j.toNat)) := opI fun _ _ _ _ _ _ _ hc q => pow_int_small hc.1 hc.2.1 hc.2.2 q
end
def scal : V → V → Bool
  | .non, .non => true | .non, .int _ => true | .int _, .non => true | .non, .bl _ => true | .bl _, .non => true | .non, .str _ => true | .str _, .non => true
  | .int _, .int _ => true | .bl _, .bl _ => true | .str _, .str _ => true | .byt _, .byt _ => true
  | .int _, .str _ => true | .str _, .int _ => true | .bl _, .str _ => true | .str _, .bl _ => true
  | _, _ => false
def rEq : R2 := fun x y H Q => scal x y = true ∧ Q (.bl (decide (x = y))) H
def rNe : R2 := fun x y H Q => scal x y = true ∧ Q (.bl (!decide (x = y))) H
theorem dec_int {i j : Int} : decide (V.int i = V.int j) = (i == j) := by
  rw [Bool.eq_iff_iff]
  simp
theorem dec_bl {i j : Bool} : decide (V.bl i = V.bl j) = (i == j) := by
  rw [Bool.eq_iff_iff]
  simp
theorem dec_str {i j : Str} : decide (V.str i = V.str j) = (i == j) := by
  rw [Bool.eq_iff_iff]
  simp
theorem dec_byt {i j : Array UInt8} : decide (V.byt i = V.byt j) = (i.toList == j.toList) := by
  rw [Bool.eq_iff_iff]
  cases i
  cases j
  simp
section
variable {X : Cx} {a b c : Expr} {ta tb tc : TE} {pos : Pos}
theorem fin_bl {pins : List (Addr × Obj)} {σ : St} {H : Hp} {s : Shared} {Q : VK} {k k' : Bool} (I : Inv X pins σ H s) (q : Q (.bl k) H) (e : k = k') : EP X pins σ Q (.bool k') s := by
  subst e
  exact ⟨.bl k, H, I, rfl, q⟩
theorem op_eq : OpR X (compareOp .Eq) rEq := by
  intro pins s σ H x y v u Q I rx ry h
  obtain ⟨hs, q⟩ := h
  cases x with
  | non =>
    cases rx
    cases y with
    | non => cases ry; exact PySem.EqNone.eq_none_none (fin_bl I q (by simp))
    | bl j => cases ry; exact PySem.EqNone.eq_none_bool (fin_bl I q (by simp))
    | int j => obtain ⟨t', rfl⟩ := ry; exact PySem.EqNone.eq_none_int (fin_bl I q (by simp))
    | str j => obtain ⟨t', rfl⟩ := ry; exact PySem.EqNone.eq_none_str (fin_bl I q (by simp))
    | _ => exact absurd (show false = true from hs) Bool.false_ne_true
  | bl i =>
    cases rx
    cases y with
    | non => cases ry; exact PySem.EqNone.eq_bool_none (fin_bl I q (by simp))
    | bl j => cases ry; exact eq_bool (fin_bl I q dec_bl)
    | str j => obtain ⟨t', rfl⟩ := ry; exact PySem.EqMixed.eq_bool_str (fin_bl I q (by simp))
    | _ => exact absurd (show false = true from hs) Bool.false_ne_true
  | int i =>
    obtain ⟨t, rfl⟩ := rx
    cases y with
    | non => cases ry; exact PySem.EqNone.eq_int_none (fin_bl I q (by simp))
    | int j => obtain ⟨t', rfl⟩ := ry; exact eq_int (fin_bl I q dec_int)
    | str j => obtain ⟨t', rfl⟩ := ry; exact PySem.EqMixed.eq_int_str (fin_bl I q (by simp))
    | _ => exact absurd (show false = true from hs) Bool.false_ne_true
  | str i =>
    obtain ⟨t, rfl⟩ := rx
    cases y with
    | non => cases ry; exact PySem.EqNone.eq_str_none (fin_bl I q (by simp))
    | bl j => cases ry; exact PySem.EqMixed.eq_str_bool (fin_bl I q (by simp))
    | int j => obtain ⟨t', rfl⟩ := ry; exact PySem.EqMixed.eq_str_int (fin_bl I q (by simp))
    | str j => obtain ⟨t', rfl⟩ := ry; exact eq_str (fin_bl I q dec_str)
    | _ => exact absurd (show false = true from hs) Bool.false_ne_true
  | byt i =>
    obtain ⟨t, rfl⟩ := rx
    cases y with
    | byt j => obtain ⟨t', rfl⟩ := ry; exact PySem.W.eq_bytes (fin_bl I q dec_byt)
    | _ => exact absurd (show false = true from hs) Bool.false_ne_true
  | _ => cases y <;> exact absurd (show false = true from hs) Bool.false_ne_true
theorem op_ne : OpR X (compareOp .NotEq) rNe := by
  intro pins s σ H x y v u Q I rx ry h
  obtain ⟨hs, q⟩ := h
  cases x with
  | non =>
    cases rx
    cases y with
    | non => cases ry; exact PySem.EqNone.ne_none_none (fin_bl I q (by simp))
    | bl j => cases ry; exact PySem.EqNone.ne_none_bool (fin_bl I q (by simp))
    | int j => obtain ⟨t', rfl⟩ := ry; exact PySem.EqNone.ne_none_int (fin_bl I q (by simp))
    | str j => obtain ⟨t', rfl⟩ := ry; exact PySem.EqNone.ne_none_str (fin_bl I q (by simp))
    | _ => exact absurd (show false = true from hs) Bool.false_ne_true
  | bl i =>
    cases rx
    cases y with
    | non => cases ry; exact PySem.EqNone.ne_bool_none (fin_bl I q (by simp))
    | bl j => cases ry; exact ne_bool (fin_bl I q (congrArg not dec_bl))
    | str j => obtain ⟨t', rfl⟩ := ry; exact PySem.EqMixed.ne_bool_str (fin_bl I q (by simp))
    | _ => exact absurd (show false = true from hs) Bool.false_ne_true
  | int i =>
    obtain ⟨t, rfl⟩ := rx
    cases y with
    | non => cases ry; exact PySem.EqNone.ne_int_none (fin_bl I q (by simp))
    | int j => obtain ⟨t', rfl⟩ := ry; exact ne_int (fin_bl I q (congrArg not dec_int))
    | str j => obtain ⟨t', rfl⟩ := ry; exact PySem.EqMixed.ne_int_str (fin_bl I q (by simp))
    | _ => exact absurd (show false = true from hs) Bool.false_ne_true
  | str i =>
    obtain ⟨t, rfl⟩ := rx
    cases y with
    | non => cases ry; exact PySem.EqNone.ne_str_none (fin_bl I q (by simp))
    | bl j => cases ry; exact PySem.EqMixed.ne_str_bool (fin_bl I q (by simp))
    | int j => obtain ⟨t', rfl⟩ := ry; exact PySem.EqMixed.ne_str_int (fin_bl I q (by simp))
    | str j => obtain ⟨t', rfl⟩ := ry; exact ne_str (fin_bl I q (congrArg not dec_str))
    | _ => exact absurd (show false = true from hs) Bool.false_ne_true
  | byt i =>
    obtain ⟨t, rfl⟩ := rx
    cases y with
    | byt j => obtain ⟨t', rfl⟩ := ry; exact PySem.W.ne_bytes (fin_bl I q (congrArg not dec_byt))
    | _ => exact absurd (show false = true from hs) Bool.false_ne_true
  | _ => cases y <;> exact absurd (show false = true from hs) Bool.false_ne_true
theorem op_lt : OpR X (compareOp .Lt) (rI0 fun i j => .bl (decide (i < j))) := opB0 fun _ _ _ _ _ _ _ q => lt_int q
theorem op_gt : OpR X (compareOp .Gt) (rI0 fun i j => .bl (decide (j < i))) := opB0 fun _ _ _ _ _ _ _ q => gt_int q
theorem op_in_str : OpR X (compareOp .In) (fun x y H Q => ∃ i j, x = .str i ∧ y = .str j ∧ Q (.bl (!(Builtin.Str.occurrences j i 0 j.length 1).isEmpty)) H) := by
  intro pins s σ H x y v u Q I rx ry h
  obtain ⟨i, j, rfl, rfl, q⟩ := h
  obtain ⟨t, rfl⟩ := rx
  obtain ⟨t', rfl⟩ := ry
  exact in_str (fin_bl I q rfl)
theorem op_isN : OpR X (compareOp .Is) (fun x y H Q => y = .non ∧ Q (.bl (decide (x = .non))) H) := by
  intro pins s σ H x y v u Q I rx ry h
  obtain ⟨rfl, q⟩ := h
  cases ry
  refine is_none_gen (fin_bl I q ?_)
  cases x <;> first
    | (cases rx; rfl)
    | (obtain ⟨t, rfl⟩ := rx; rfl)
theorem op_notN : OpR X (compareOp .IsNot) (fun x y H Q => y = .non ∧ Q (.bl (!decide (x = .non))) H) := by
  intro pins s σ H x y v u Q I rx ry h
  obtain ⟨rfl, q⟩ := h
  cases ry
  refine isnot_none_gen (fin_bl I q ?_)
  cases x <;> first
    | (cases rx; rfl)
    | (obtain ⟨t, rfl⟩ := rx; rfl)
theorem op_notin_str : OpR X (compareOp .NotIn) (fun x y H Q => ∃ i j, x = .str i ∧ y = .str j ∧ Q (.bl (!(!(Builtin.Str.occurrences j i 0 j.length 1).isEmpty))) H) := by
  intro pins s σ H x y v u Q I rx ry h
  obtain ⟨i, j, rfl, rfl, q⟩ := h
  obtain ⟨t, rfl⟩ := rx
  obtain ⟨t', rfl⟩ := ry
  exact notIn_str (fin_bl I q rfl)
theorem nomark (b : Expr) {op : CmpOp} (h : op ≠ .In := by decide) (h2 : op ≠ .NotIn := by decide) : behindInMarks op b = false := by
  have e1 : (op == CmpOp.In) = false := by cases op <;> first | rfl | exact absurd rfl h
  have e2 : (op == CmpOp.NotIn) = false := by cases op <;> first | rfl | exact absurd rfl h2
  cases b <;> simp [behindInMarks, e1, e2]
theorem pe_cmpR {op : CmpOp} {r : R2} (ho : OpR X (compareOp op) r) (ha : PE X a ta) (hb : PE X b tb) (hm : behindInMarks op b = false) : PE X (.Compare a [op] [b] pos) (tOp r ta tb) := by
  intro pins s σ H Q I h
  exact wpAny_Compare1 (binT ha hb I h fun v u s2 x y H2 I2 rx ry q => ho pins s2 σ H2 x y v u Q I2 rx ry q) hm
def tTest (t : TE) : TT := fun σ H Q => t σ H fun x H' => ∃ k, x = .bl k ∧ Q k H'
theorem pt_cmpR {op : CmpOp} {r : R2} (ho : OpR X (compareOp op) r) (ha : PE X a ta) (hb : PE X b tb) (hm : behindInMarks op b = false) : PT X (.Compare a [op] [b] pos) (tTest (tOp r ta tb)) := by
  intro pins s σ H Q I h
  refine wpAny_isTrue_Compare1 (thn (ha pins s σ H _ I h) fun v s1 ⟨x, H1, I1, r1, q1⟩ => thn (hb pins s1 σ H1 _ I1 q1) fun u s2 ⟨y, H2, I2, r2, q2⟩ =>
    thn (ho pins s2 σ H2 x y v u _ I2 r1 r2 q2) fun c s3 ⟨z, H3, I3, r3, k, e, q3⟩ => ?_) hm
  subst e
  cases r3
  exact wpAny_truthy_bool ⟨H3, I3, q3⟩
def TruV (K : PySem.W.Frag) (x : V) (H : Hp) (k : Bool) : Prop :=
  match x with
  | .non => k = false
  | .bl b => k = b
  | .int i => k = (i != 0)
  | .str y => y.length ≤ sizeLine ∧ k = ((y.length : Int) != 0)
  | .byt y => y.size ≤ sizeLine ∧ k = ((y.size : Int) != 0)
  | .ref p => (∃ xs, SqL K H p xs ∧ k = !xs.isEmpty) ∨ (∃ xs, SqT K H p xs ∧ k = !xs.isEmpty) ∨ ∃ kvs, H p = some (.dK kvs) ∧ k = !kvs.isEmpty
  | _ => False
theorem isEmpty_kv {κ : Type} {kvs : List (κ × V)} {vs : List (κ × Value)} (r : KV kvs vs) : (!vs.isEmpty) = !kvs.isEmpty := by
  cases r <;> rfl
theorem isEmpty_of {xs : List V} {its : List Value} (r : Vals xs its) : (!its.toArray.isEmpty) = !xs.isEmpty := by
  cases r <;> simp
theorem line63 : (sizeLine : Nat) < 2 ^ 63 := by rw [sizeLine_eq]; decide
theorem tru_ok : TruR X (fun x H Q => ∃ k, TruV X.K x H k ∧ Q k H) := by
  intro pins s σ H x v Q I rx h
  obtain ⟨k, e, q⟩ := h
  have hl := line63
  have hs : sizeLine = 16777216 := sizeLine_eq
  cases x with
  | non =>
    cases rx
    have e' : k = false := e
    subst e'
    exact truthy_none ⟨H, I, q⟩
  | bl b =>
    cases rx
    have e' : k = b := e
    subst e'
    exact wpAny_truthy_bool ⟨H, I, q⟩
  | int i =>
    obtain ⟨t, rfl⟩ := rx
    have e' : k = (i != 0) := e
    subst e'
    exact PySem.P.truthy_int ⟨H, I, q⟩
  | str y =>
    obtain ⟨t, rfl⟩ := rx
    obtain ⟨hy, e'⟩ : y.length ≤ sizeLine ∧ k = ((y.length : Int) != 0) := e
    subst e'
    exact PySem.P.truthy_str (by omega) ⟨H, I.tok _, q⟩
  | byt y =>
    obtain ⟨t, rfl⟩ := rx
    obtain ⟨hy, e'⟩ : y.size ≤ sizeLine ∧ k = ((y.size : Int) != 0) := e
    subst e'
    exact PySem.W.truthy_bytes (by omega) ⟨H, I.tok _, q⟩
  | ref p =>
    cases rx
    have e' : (∃ xs, SqL X.K H p xs ∧ k = !xs.isEmpty) ∨ (∃ xs, SqT X.K H p xs ∧ k = !xs.isEmpty) ∨ ∃ kvs, H p = some (.dK kvs) ∧ k = !kvs.isEmpty := e
    rcases e' with ⟨xs, hx, e'⟩ | ⟨xs, hx, e'⟩ | ⟨kvs, hx, e'⟩
    · subst e'
      obtain ⟨its, r, pl, hz⟩ := I.list hx
      have hlen := r.length
      exact wpAny_truthy_list pl.isList (by simp only [List.size_toArray]; omega) ⟨H, I.tok _, by rw [isEmpty_of r]; exact q⟩
    · subst e'
      obtain ⟨its, r, pl, hz⟩ := I.tuple hx
      have hlen := r.length
      exact truthy_tuple pl (by simp only [List.size_toArray]; omega) ⟨H, I.tok _, by rw [isEmpty_of r]; exact q⟩
    · subst e'
      obtain ⟨hz, hS, vs, r, m⟩ : kvs.length ≤ sizeLine ∧ (p == sysModules) = false ∧ ∃ vs, KV kvs vs ∧ s.heap.DictOf (mixKind X.prog X.w) p vs := I.hok p _ hx
      have hlen : kvs.length = vs.length := Paired.length r
      exact wpAny_truthy_dict hS m (by omega) ⟨H, I.tok _, by rw [isEmpty_kv r]; exact q⟩
  | _ => exact (show False from e).elim
theorem pt_truth (ha : PE X a ta) (he : ∀ whole, isTrue a X.env whole = (do let v ← whole; standAt a.pos; holding [v] (truthy v))) :
    PT X a (fun σ H Q => ta σ H fun x H' => ∃ k, TruV X.K x H' k ∧ Q k H') := by
  intro pins s σ H Q I h
  exact isTrue_plain (thn (ha pins s σ H _ I h) fun v s1 ⟨x, H1, I1, r1, q1⟩ => tru_ok pins s1 σ H1 x v Q I1 r1 q1) (he _)
theorem op_add_str : OpR X (binaryOp .Add) (fun x y H Q => ∃ i j, x = .str i ∧ y = .str j ∧ i.length + j.length ≤ sizeLine ∧ Q (.str (i ++ j)) H) := by
  intro pins s σ H x y v u Q I rx ry h
  obtain ⟨i, j, rfl, rfl, hz, q⟩ := h
  obtain ⟨t, rfl⟩ := rx
  obtain ⟨t', rfl⟩ := ry
  exact add_str (fun t' tk => ⟨.str (i ++ j), H, I.tok _, ⟨_, rfl⟩, q⟩) hz
theorem vals1 {x : V} {us : List Value} (r : Vals [x] us) : ∃ u, us = [u] ∧ RelV x u := by
  cases r with
  | cons r1 r2 => cases r2; exact ⟨_, rfl, r1⟩
theorem vals2 {x y : V} {us : List Value} (r : Vals [x, y] us) : ∃ u w', us = [u, w'] ∧ RelV x u ∧ RelV y w' := by
  cases r with
  | cons r1 r2 =>
    cases r2 with
    | cons r3 r4 => cases r4; exact ⟨_, _, rfl, r1, r3⟩
theorem call_abs : CallR X (.builtin "abs") (fun xs H Q => ∃ i, xs = [.int i] ∧ Q (.int (if i < 0 then -i else i)) H) := by
  intro pins s σ H xs us Q I r h
  obtain ⟨i, rfl, q⟩ := h
  obtain ⟨u, rfl, t, rfl⟩ := vals1 r
  exact call_abs_int fun u tk => ⟨.int (if i < 0 then -i else i), H, I.tok _, ⟨_, rfl⟩, q⟩
end
end L2
namespace L2
open PySem PySem.Spec PyProof.Rows
structure ObjM (h : Heap) (x dx C : Addr) (mA : Str → Option Value) : Prop where
  obj : h.get? x = some (PySem.W.instObj C dx)
  ns : h.Ns1 dx mA
  ne : dx ≠ x
theorem lookIn_ns {h : Heap} {dx : Addr} {mA : Str → Option Value} (n : h.Ns1 dx mA) : ∃ od, h.get? dx = some od ∧ ∀ name, PySem.W.lookIn name od = some (mA name) := by
  obtain ⟨o, es, ep, ho, hd, hk, _, hm⟩ := n
  refine ⟨o, ho, fun name => ?_⟩
  have e := hm name
  unfold nsFind findBy at e
  rw [← Array.find?_toList] at e
  unfold PySem.W.lookIn
  rw [hd]
  dsimp only
  split
  · rename_i y q
    rw [q] at e
    exact congrArg some e
  · rename_i q
    rw [q] at e
    have a : es.toList.any (·.refKey) = false := by
      rw [List.any_eq_false]
      intro y hy
      obtain ⟨z, t, hkey⟩ := hk y (Array.mem_toList_iff.mp hy)
      simp [DictEntry.refKey, hkey]
    have a' : ¬ es.toList.any (·.refKey) = true := by rw [a]; exact Bool.false_ne_true
    rw [if_neg a']
    exact congrArg some e
theorem ObjM.look {h : Heap} {x dx C : Addr} {mA : Str → Option Value} (I : ObjM h x dx C mA) : ∃ od, PySem.W.InstAt h x (PySem.W.instObj C dx) C (some od) ∧ ∀ name, PySem.W.lookIn name od = some (mA name) :=
  let ⟨od, ho, hl⟩ := lookIn_ns I.ns
  ⟨od, ⟨I.obj, rfl, rfl, ho⟩, hl⟩
section
variable {prog : Program} {w : World} {A : Around} {E : Value → Shared → Prop} {s : Shared} {K : PySem.W.Frag} {x dx C f : Addr} {mA : Str → Option Value} {name : Str} {v : Value}
theorem get_map {expr : Bool} {Q : Value → Shared → Prop} (X : K.In s.heap) (I : ObjM s.heap x dx C mA) (hg : PySem.W.plainGet K C name = true) (hh : PySem.W.hasDictIn K C = true)
    (ha : PySem.W.findIn K (.ref C) name = some none) (hv : mA name = some v) (hv' : PySem.W.handedIn v = true) (h : Q v { s with toks := s.toks + 1 }) :
    wpAny (model prog w) A (getAttr (.ref x) name expr) Q E s := by
  obtain ⟨od, J, hl⟩ := I.look
  exact PySem.W.get_value X J (PySem.W.plainGet_of hg).1 (PySem.W.findObj_own hh ha rfl (by rw [hl, hv])) hv' h
theorem get_meth {pl : Sem Bool} {Q : Value × List Value → Shared → Prop} (X : K.In s.heap) (I : ObjM s.heap x dx C mA) (hg : PySem.W.plainGet K C name = true)
    (hf : PySem.W.findIn K (.ref C) name = some (some (.ref f))) (ht : PySem.W.isFn K (.ref f) = true) (hv : mA name = none) (h : Q (.ref f, [.ref x]) s) :
    wpAny (model prog w) A (getMethod (.ref x) name pl) Q E s := by
  obtain ⟨od, J, hl⟩ := I.look
  exact PySem.W.method_fn X J (PySem.W.plainGet_of hg).1 (PySem.W.plainGet_of hg).2 hf (beq_iff_eq.mp ht) (by show (PySem.W.lookIn name od).map (·.isSome) = some false; rw [hl, hv]; rfl) h
theorem set_map {ns : List Str} {Q : Unit → Shared → Prop} (X : K.In s.heap) (I : ObjM s.heap x dx C mA)
    (hs : PySem.W.findIn K (.ref C) "__setattr__" = some (some (.builtin "object.__setattr__"))) (hp : PySem.W.plainOver K C = true) (ht : PySem.W.takerIn K C name = some none) (hh : PySem.W.hasDictIn K C = true)
    (hw : PySem.Within mA ns) (hsz : ns.length ≤ sizeLine)
    (h : ∀ h', ObjM h' x dx C (fun y => if y = name then some v else mA y) → Heap.SameBut dx s.heap h' → Q () { s with heap := h', toks := s.toks + 2 }) :
    wpAny (model prog w) A (setAttr (.ref x) name v) Q E s := by
  obtain ⟨od, J, hl⟩ := I.look
  refine PySem.W.set_plain X J hs (PySem.W.osa_open (s := { s with toks := s.toks + 1 }) (r := none) X J hp ht fun b => ?_)
  obtain ⟨cd, hc, hd'⟩ := PySem.W.any_some hh
  have hx : s.heap.get? x = some ⟨.ref C, some dx, .plain, #[]⟩ := I.obj
  refine wpAny_bind (wpAny_pure (wpAny_bind (wpAny_bind (wpAny_loadPart hx (wpAny_bind (PySem.W.Looks.here (s := { s with toks := s.toks + 1 }) (PySem.W.looks_clsIn X hc) ?_))))))
  rw [hd']
  refine wpAny_pure (a := some dx) (wpAny_bind (wpAny_pure (wpAny_bind ?_)))
  refine wpAny_nsSet1 (s := { s with toks := s.toks + 1 }) I.ns fun h' hn2 hs2 => ?_
  obtain ⟨oD, esD, epD, hoD, hdD, hcD⟩ := hn2.count (PySem.Within.cons name v hw)
  refine wpAny_bind (wpAny_lookBehind hoD (by rw [hdD]; exact pastItsLine_dict (Nat.le_trans hcD (by rw [List.length_cons]; omega))) ?_)
  exact wpAny_pure (h _ ⟨(hs2.2 _ (Ne.symm I.ne)).trans I.obj, hn2, I.ne⟩ hs2)
theorem make_map {R : Result → Shared → Prop} {vs : List Value} {kw : List (Str × Value)} (X : K.In s.heap) (hm : PySem.W.makesIn K C = true)
    (hi : PySem.W.findIn K (.ref C) "__init__" = some (some (.ref f))) (hf : PySem.W.typeIn K (.ref f) = some (.type "function"))
    (h : codeAny (model prog w) (A.under (.builtin "type.__call__" ⟨.ref C :: vs, kw⟩)) (.call (.ref f) ⟨.ref (s.heap.objs.size + 1) :: vs, kw⟩) (PySem.W.InitBack (s.heap.objs.size + 1) R)
      { s with heap := (s.heap.push PySem.W.emptyDict).push (PySem.W.instObj C s.heap.objs.size) }) :
    codeAny (model prog w) A (.call (.ref C) ⟨vs, kw⟩) R s := by
  obtain ⟨hh, g, d, t, os⟩ := s
  exact PySem.W.make_core (PySem.W.makes_of X hm) (PySem.W.looks_findIn X hi) (fun self => PySem.W.bind_fn X self hf) (.inl rfl) h
end
def putF (f : Str) (v : V) : List (Str × V) → List (Str × V)
  | [] => [(f, v)]
  | (g, x) :: r => if g = f then (g, v) :: r else (g, x) :: putF f v r
theorem lookup_putF (f g : Str) (v : V) : ∀ fs : List (Str × V), (putF f v fs).lookup g = if g = f then some v else fs.lookup g
  | [] => by
    show List.lookup g [(f, v)] = _
    by_cases h : g = f
    · have hb : (g == f) = true := beq_iff_eq.mpr h
      simp only [List.lookup, hb, if_pos h]
    · have hb : (g == f) = false := beq_eq_false_iff_ne.mpr h
      simp only [List.lookup, hb, if_neg h]
  | (k, x) :: r => by
    have ih := lookup_putF f g v r
    rw [show putF f v ((k, x) :: r) = (if k = f then (k, v) :: r else (k, x) :: putF f v r) from rfl]
    by_cases hk : k = f
    · rw [if_pos hk]
      by_cases h : g = k
      · have hb : (g == k) = true := beq_iff_eq.mpr h
        simp only [List.lookup, hb, if_pos (h.trans hk)]
      · have hb : (g == k) = false := beq_eq_false_iff_ne.mpr h
        simp only [List.lookup, hb, if_neg (fun e : g = f => h (e.trans hk.symm))]
    · rw [if_neg hk]
      by_cases h : g = k
      · have hb : (g == k) = true := beq_iff_eq.mpr h
        simp only [List.lookup, hb, if_neg (fun e : g = f => hk (h.symm.trans e))]
      · have hb : (g == k) = false := beq_eq_false_iff_ne.mpr h
        simp only [List.lookup, hb]
        exact ih
theorem keys_putF (f : Str) (v : V) : ∀ fs : List (Str × V), f ∈ (putF f v fs).map (·.1) ∧ ∀ g, g ∈ fs.map (·.1) → g ∈ (putF f v fs).map (·.1)
  | [] => ⟨by simp [putF], fun g h => by simp at h⟩
  | (k, x) :: r => by
    obtain ⟨i1, i2⟩ := keys_putF f v r
    rw [show putF f v ((k, x) :: r) = (if k = f then (k, v) :: r else (k, x) :: putF f v r) from rfl]
    by_cases hk : k = f
    · rw [if_pos hk]
      subst hk
      exact ⟨by simp, fun g h => by simpa using h⟩
    · rw [if_neg hk]
      refine ⟨?_, fun g h => ?_⟩
      · rw [List.map_cons]
        exact List.mem_cons_of_mem _ i1
      · rw [List.map_cons] at h ⊢
        rcases List.mem_cons.mp h with e | e
        · exact List.mem_cons.mpr (.inl e)
        · exact List.mem_cons_of_mem _ (i2 g e)
theorem length_putF (f : Str) (v : V) : ∀ fs : List (Str × V), (putF f v fs).length ≤ fs.length + 1
  | [] => by simp [putF]
  | (k, x) :: r => by
    have ih := length_putF f v r
    rw [show putF f v ((k, x) :: r) = (if k = f then (k, v) :: r else (k, x) :: putF f v r) from rfl]
    by_cases hk : k = f
    · rw [if_pos hk, List.length_cons, List.length_cons]; omega
    · rw [if_neg hk, List.length_cons, List.length_cons]; omega
theorem RelO.some_of {v : V} {o : Option Value} (r : RelO (some v) o) : ∃ u, o = some u ∧ RelV v u := by
  cases o with
  | none => exact (show False from r).elim
  | some u => exact ⟨u, rfl, r⟩
theorem RelO.none_of {o : Option Value} (r : RelO none o) : o = none := by
  cases o with
  | none => rfl
  | some u => exact (show False from r).elim
theorem handed_of {v : V} {u : Value} (r : RelV v u) : PySem.W.handedIn u = true := by
  cases v with
  | non => cases (show u = Value.none from r); rfl
  | bl b => cases (show u = Value.bool b from r); rfl
  | int i => obtain ⟨t, e⟩ := (show ∃ t, u = Value.int i t from r); cases e; rfl
  | str x => obtain ⟨t, e⟩ := (show ∃ t, u = Value.str x t from r); cases e; rfl
  | byt b => obtain ⟨t, e⟩ := (show ∃ t, u = Value.bytes b t from r); cases e; rfl
  | flt b => obtain ⟨t, e⟩ := (show ∃ t, u = Value.float b t from r); cases e; rfl
  | ref a => cases (show u = Value.ref a from r); rfl
  | ty n => cases (show u = Value.type n from r); rfl
section
variable {P : Program} {w : World} {H H' : Hp} {h h' : Heap} {a C dx : Addr} {fs fs' : List (Str × V)}
theorem ins_get (hok : HOk P w H h) (e : H a = some (.ins C dx fs)) : ∃ mA, ObjM h a dx C mA ∧ (∀ f, RelO (fs.lookup f) (mA f)) ∧ PySem.Within mA (fs.map (·.1)) ∧ fs.length ≤ 1000 ∧ H dx = some (.own a) := by
  obtain ⟨d, z, ne, ob, mA, n, r, q⟩ := (show ObjOk P w H h a (.ins C dx fs) from hok a _ e)
  exact ⟨mA, ⟨ob, n, ne⟩, r, q, z, d⟩
end
structure Cls (K : PySem.W.Frag) (C : Addr) : Prop where
  pg : PySem.W.plainGet K C Str.empty = true
  hd : PySem.W.hasDictIn K C = true
  po : PySem.W.plainOver K C = true
  sa : PySem.W.findIn K (.ref C) "__setattr__" = some (some (.builtin "object.__setattr__"))
theorem Cls.get {K : PySem.W.Frag} {C : Addr} (c : Cls K C) (f : Str) : PySem.W.plainGet K C f = true := c.pg
def NoAttr (K : PySem.W.Frag) (C : Addr) (f : Str) : Prop := PySem.W.findIn K (.ref C) f = some none
theorem NoAttr.taker {K : PySem.W.Frag} {C : Addr} {f : Str} (n : NoAttr K C f) : PySem.W.takerIn K C f = some none := by
  unfold PySem.W.takerIn
  rw [show PySem.W.findIn K (.ref C) f = some none from n]
  rfl
structure Meth (K : PySem.W.Frag) (C : Addr) (m : Str) (f : Addr) : Prop where
  at_ : PySem.W.findIn K (.ref C) m = some (some (.ref f))
  fn : PySem.W.isFn K (.ref f) = true
  kp : PySem.W.keepIn K (.ref f) = true
section
variable {X : Cx} {pins : List (Addr × Obj)} {σ : St} {H : Hp} {s : Shared} {a C dx : Addr} {fs : List (Str × V)} {f : Str} {v : V} {A : Around} {E : Value → Shared → Prop}
theorem getattr_ok {b : Bool} {Q : Value → Shared → Prop} (I : Inv X pins σ H s) (e : H a = some (.ins C dx fs)) (c : Cls X.K C) (n : NoAttr X.K C f) (l : fs.lookup f = some v)
    (h : ∀ u s', Inv X pins σ H s' → RelV v u → Q u s') : wpAny (model X.prog X.w) A (getAttr (.ref a) f b) Q E s := by
  obtain ⟨mA, O, r, _, _, _⟩ := ins_get I.hok e
  obtain ⟨u, hu, ru⟩ := RelO.some_of (v := v) (o := mA f) (by rw [← l]; exact r f)
  exact get_map I.kIn O (c.get f) c.hd n hu (handed_of ru) (h u _ (I.tok _) ru)
theorem getmeth_ok {m : Str} {g : Addr} {pl : Sem Bool} {Q : Value × List Value → Shared → Prop} (I : Inv X pins σ H s) (e : H a = some (.ins C dx fs)) (c : Cls X.K C) (k : Meth X.K C m g) (l : fs.lookup m = none)
    (h : Q (.ref g, [.ref a]) s) : wpAny (model X.prog X.w) A (getMethod (.ref a) m pl) Q E s := by
  obtain ⟨mA, O, r, _, _, _⟩ := ins_get I.hok e
  have hn : mA m = none := RelO.none_of (by rw [← l]; exact r m)
  exact get_meth I.kIn O (c.get m) k.at_ k.fn hn h
theorem setattr_ok {y : V} {u : Value} {Q : Unit → Shared → Prop} (I : Inv X pins σ H s) (e : H a = some (.ins C dx fs)) (c : Cls X.K C) (n : NoAttr X.K C f) (hl : fs.length < 1000) (ry : RelV y u)
    (h : ∀ s', Inv X pins σ (upd H a (.ins C dx (putF f y fs))) s' → Q () s') : wpAny (model X.prog X.w) A (setAttr (.ref a) f u) Q E s := by
  obtain ⟨mA, O, r, wi, _, ho⟩ := ins_get I.hok e
  have hz : (fs.map (·.1)).length ≤ sizeLine := by rw [List.length_map, sizeLine_eq]; omega
  refine set_map I.kIn O c.sa c.po n.taker c.hd wi hz fun h' O' sb => h _ ?_
  have hd : ∃ o, h'.get? dx = some o := let ⟨o, _, _, e', _⟩ := O'.ns; ⟨o, e'⟩
  refine I.write (x := a) (e := dx) (by rw [e]; exact True.intro) (.inr ho) (fun b q hb z => (sb.2 b hb).trans z) hd ?_
  refine ⟨by rw [upd_ne O.ne]; exact ho, ?_, O.ne, O'.obj, _, O'.ns, fun g => ?_, fun g hg => ?_⟩
  · have := length_putF f y fs; omega
  · show RelO ((putF f y fs).lookup g) (if g = f then some u else mA g)
    rw [lookup_putF]
    by_cases q : g = f
    · rw [if_pos q, if_pos q]; exact ry
    · rw [if_neg q, if_neg q]; exact r g
  · by_cases q : g = f
    · rw [q]; exact (keys_putF f y fs).1
    · refine (keys_putF f y fs).2 g (wi g fun z => hg ?_)
      show (if g = f then some u else mA g) = none
      rw [if_neg q]; exact z
theorem Inv.made (I : Inv X pins σ H s) : Inv X pins σ (upd (upd H s.heap.objs.size (.own (s.heap.objs.size + 1))) (s.heap.objs.size + 1) (.ins C s.heap.objs.size []))
    { s with heap := (s.heap.push PySem.W.emptyDict).push (PySem.W.instObj C s.heap.objs.size) } := by
  have e1 : (s.heap.push PySem.W.emptyDict).get? s.heap.objs.size = some PySem.W.emptyDict := Heap.get?_push_size s.heap rfl
  have e2 : ((s.heap.push PySem.W.emptyDict).push (PySem.W.instObj C s.heap.objs.size)).get? (s.heap.objs.size + 1) = some (PySem.W.instObj C s.heap.objs.size) := by
    have := Heap.get?_push_size (s.heap.push PySem.W.emptyDict) (o := PySem.W.instObj C s.heap.objs.size) rfl
    rwa [Heap.size_push] at this
  have e3 : (s.heap.push PySem.W.emptyDict).Ns s.heap.objs.size (fun _ => none) := ⟨PySem.W.emptyDict, #[], _, e1, rfl, (fun e he => absurd he (by simp)), fun _ => rfl⟩
  have I1 := I.laid (a := s.heap.objs.size) (o := .own (s.heap.objs.size + 1)) (h' := s.heap.push PySem.W.emptyDict) (t' := s.toks) (fun b u q => Heap.get?_push_of_some _ q) (Nat.le_refl _) ⟨_, e1⟩
  refine I1.laid (a := s.heap.objs.size + 1) (o := .ins C s.heap.objs.size []) (t' := s.toks) (fun b u q => Heap.get?_push_of_some _ q) (Nat.le_of_eq (Heap.size_push _ _)) ?_
  have ne : s.heap.objs.size ≠ s.heap.objs.size + 1 := Nat.ne_of_lt (Nat.lt_succ_self _)
  refine ⟨by rw [upd_ne ne, upd_same], Nat.zero_le _, ne, e2, fun _ => none, (Heap.Ns1.of_empty e3).at fun o q => Heap.get?_push_of_some _ q, fun _ => True.intro, fun y hy => absurd rfl hy⟩
theorem attr_of {prog : Program} {w : World} {env : Env} {e : Expr} {f : Str} {pos : Pos} {s : Shared} {Q : Value → Shared → Prop} (hb : attributeBase e f env (eval e env) = eval e env)
    (h : wpAny (model prog w) A (eval e env) (fun o s₁ => wpAny (model prog w) A (getAttr o f true) Q E s₁) E s) : wpAny (model prog w) A (eval (.Attribute e f pos) env) Q E s :=
  Attribute_any_ h (by rw [arm_eval_Attribute, hb])
end
def tFld (K : PySem.W.Frag) (ta : TE) (f : Str) : TE := fun σ H Q => ta σ H fun x H1 => ∃ a C dx fs v, x = .ref a ∧ H1 a = some (.ins C dx fs) ∧ Cls K C ∧ NoAttr K C f ∧ fs.lookup f = some v ∧ Q v H1
def sFld (K : PySem.W.Frag) (ta tv : TE) (f : Str) : TS := fun D σ H => tv σ H fun y H1 => ta σ H1 fun x H2 => ∃ a C dx fs, x = .ref a ∧ H2 a = some (.ins C dx fs) ∧ Cls K C ∧ NoAttr K C f ∧ fs.length < 1000 ∧
  D.nx σ (upd H2 a (.ins C dx (putF f y fs)))
section
variable {X : Cx} {o e value : Expr} {f : Str} {pos pos' tpos : Pos} {ta tv : TE}
theorem pe_fld (he : PE X e ta) (hb : attributeBase e f X.env (eval e X.env) = eval e X.env) : PE X (.Attribute e f pos) (tFld X.K ta f) := by
  intro pins s σ H Q I h
  refine attr_of hb (thn (he pins s σ H _ I h) fun u s1 ⟨x, H1, I1, rx, a, C, dx, fs, v, ex, ea, c, n, l, q⟩ => ?_)
  subst ex
  obtain rfl : u = Value.ref a := rx
  exact getattr_ok I1 ea c n l fun u' s2 I2 ru => ⟨v, H1, I2, ru, q⟩
theorem ps_fld (ha : PE X o ta) (hv : PE X value tv) (hs : swapsWith value (some (.Attribute o f pos')) pos.line X.env = pure false) : PS X (.Assign [.Attribute o f pos'] value pos) (sFld X.K ta tv f) := by
  intro pins s σ H D I h
  refine plainObj_wpAny_Assign_Attribute (thn (hv pins s σ H _ I h) fun u s1 ⟨y, H1, I1, ry, q⟩ => thn (ha pins s1 σ H1 _ I1 q) fun ov s2 ⟨x, H2, I2, rx, a, C, dx, fs, ex, ea, c, n, l, q2⟩ => ?_) hs
  subst ex
  obtain rfl : ov = Value.ref a := rx
  exact setattr_ok I2 ea c n l ry fun s3 I3 => ⟨σ, _, I3, q2⟩
end
section
variable {X : Cx} {pins : List (Addr × Obj)} {σ : St} {H : Hp} {s : Shared} {A : Around} {E : Value → Shared → Prop} {Q : Value → Shared → Prop} {c : Value} {b : Bool}
inductive TyOf (K : PySem.W.Frag) (H : Hp) : V → Value → Prop where
  | non : TyOf K H .non (.type "NoneType")
  | bl (x : Bool) : TyOf K H (.bl x) (.type "bool")
  | int (i : Int) : TyOf K H (.int i) (.type "int")
  | str (x : Str) : TyOf K H (.str x) (.type "str")
  | flt (x : UInt64) : TyOf K H (.flt x) (.type "float")
  | lst {a : Addr} {xs : List V} (e : H a = some (.lst xs)) : TyOf K H (.ref a) (.type "list")
  | frz {a : Addr} {o : Obj} {xs : List V} (e : H a = some (.frz o (.lst xs))) : TyOf K H (.ref a) (.type "list")
  | tup {a : Addr} {xs : List V} (e : H a = some (.tup xs)) : TyOf K H (.ref a) (.type "tuple")
  | dK {a : Addr} {kvs : List (Key × V)} (e : H a = some (.dK kvs)) : TyOf K H (.ref a) (.type "dict")
  | dT {a : Addr} {kvs : List (List Key × V)} (e : H a = some (.dT kvs)) : TyOf K H (.ref a) (.type "dict")
  | ins {a C dx : Addr} {fs : List (Str × V)} (e : H a = some (.ins C dx fs)) (cl : Cls K C) (ha : PySem.W.findIn K (.ref C) "__class__" = some (some (.builtin "object.__class__")))
      (hn : PySem.W.specialIn K (.builtin "object.__class__") "__get__" = some (some (.builtin "getset_descriptor.__get__"))) (htk : PySem.W.takesIn K (.builtin "object.__class__") = some true)
      (hm : PySem.W.mroIn K C (.type "object") = some true) : TyOf K H (.ref a) (.ref C)
theorem isinst_ok {x : V} {u t : Value} (I : Inv X pins σ H s) (rx : RelV x u) (ty : TyOf X.K H x t) (e : PySem.W.kitOne X.K t c = some b) (h : ∀ tk, Q (.bool b) { s with toks := tk }) :
    wpAny (model X.prog X.w) A (call (.builtin "isinstance") [u, c]) Q E s := by
  cases ty with
  | non => cases (show u = Value.none from rx); exact PySem.W.kia_one PySem.W.kitx_none I.kIn True.intro e (fun z => nomatch z) h
  | bl y => cases (show u = Value.bool y from rx); exact PySem.W.kia_one PySem.W.kitx_bool I.kIn True.intro e (fun z => nomatch z) h
  | int i => obtain ⟨t, q⟩ := (show ∃ t, u = Value.int i t from rx); cases q; exact PySem.W.kia_one PySem.W.kitx_int I.kIn True.intro e (fun z => nomatch z) h
  | str y => obtain ⟨t, q⟩ := (show ∃ t, u = Value.str y t from rx); cases q; exact PySem.W.kia_one PySem.W.kitx_str I.kIn True.intro e (fun z => nomatch z) h
  | flt y => obtain ⟨t, q⟩ := (show ∃ t, u = Value.float y t from rx); cases q; exact PySem.W.kia_one PySem.W.kitx_float I.kIn True.intro e (fun z => nomatch z) h
  | @lst a xs ea =>
    cases (show u = Value.ref a from rx)
    obtain ⟨_, _, n, _, h1⟩ := (show ObjOk X.prog X.w H s.heap a (.lst xs) from I.hok a _ ea)
    exact PySem.W.kia_one PySem.W.kitx_list I.kIn ⟨_, h1, rfl⟩ e (fun z => nomatch z) h
  | @frz a ob xs ea =>
    cases (show u = Value.ref a from rx)
    obtain ⟨_, _, _, n, _, h1⟩ := (show ObjOk X.prog X.w H s.heap a (.frz ob (.lst xs)) from I.hok a _ ea)
    exact PySem.W.kia_one PySem.W.kitx_list I.kIn ⟨_, h1, rfl⟩ e (fun z => nomatch z) h
  | @tup a xs ea =>
    cases (show u = Value.ref a from rx)
    obtain ⟨_, _, _, p⟩ := (show ObjOk X.prog X.w H s.heap a (.tup xs) from I.hok a _ ea)
    obtain ⟨o, h1, h2, _⟩ := p
    exact PySem.W.kia_one PySem.W.kitx_tuple I.kIn ⟨o, h1, h2⟩ e (fun z => nomatch z) h
  | @dK a kvs ea =>
    cases (show u = Value.ref a from rx)
    obtain ⟨_, _, vs, _, p⟩ := (show ObjOk X.prog X.w H s.heap a (.dK kvs) from I.hok a _ ea)
    obtain ⟨o, es, ep, h1, h2, _⟩ := p
    exact PySem.W.kia_one PySem.W.kitx_dict I.kIn ⟨o, h1, h2.1⟩ e (fun z => nomatch z) h
  | @dT a kvs ea =>
    cases (show u = Value.ref a from rx)
    obtain ⟨_, _, xs, _, o, es, ep, h1, h2, _⟩ := (show ObjOk X.prog X.w H s.heap a (.dT kvs) from I.hok a _ ea)
    exact PySem.W.kia_one PySem.W.kitx_dict I.kIn ⟨o, h1, h2.1⟩ e (fun z => nomatch z) h
  | @ins a C dx fs ea cl ha hn htk hm =>
    cases (show u = Value.ref a from rx)
    obtain ⟨mA, O, _⟩ := ins_get I.hok ea
    obtain ⟨od, J, _⟩ := O.look
    exact PySem.W.kia_one (PySem.W.kitx_own (cl.get _) cl.hd ha hn htk hm) I.kIn J e (fun z => nomatch z) h
end
end L2
namespace L2
open PySem PySem.Spec PyProof.Rows
structure Room (k : Nat) (A : Around) : Prop where
  hd : A.handled = none
  dp : A.depth + 3 * k + 5 < recursionLimit
  un : A.units + 16 * k + 200 < cLine
  gd : A.guards = some []
theorem Room.mono {j k : Nat} {A : Around} (r : Room k A) (h : j ≤ k) : Room j A := ⟨r.hd, by have := r.dp; omega, by have := r.un; omega, r.gd⟩
theorem Room.deeper {k : Nat} {A : Around} (r : Room (k + 1) A) (env : Env) : Room k (A.deeper env) :=
  ⟨r.hd, by have := r.dp; show A.depth + 1 + 3 * k + 5 < _; omega, by have := r.un; show A.units + 3 + 16 * k + 200 < _; omega, r.gd⟩
theorem make_depth {A : Around} {C : Addr} {us : List Value} {kw : List (Str × Value)} : (A.under (.builtin "type.__call__" ⟨.ref C :: us, kw⟩)).depth = A.depth + 1 := by
  first | rfl | simp [Around.under, Code.weight, Code.isCreation, Code.isGuard, Code.isCaller, Code.frames, Code.isFrame, guardIds]
theorem make_units {A : Around} {C : Addr} {us : List Value} {kw : List (Str × Value)} : (A.under (.builtin "type.__call__" ⟨.ref C :: us, kw⟩)).units = A.units + 1 := by
  first | rfl | simp [Around.under, Code.cUnits, Code.frames, Code.isFrame]
theorem Room.make {k : Nat} {A : Around} (r : Room (k + 1) A) (C : Addr) (us : List Value) (kw : List (Str × Value)) : Room k (A.under (.builtin "type.__call__" ⟨.ref C :: us, kw⟩)) :=
  ⟨r.hd, by have := r.dp; rw [make_depth]; omega, by have := r.un; rw [make_units]; omega, by first | exact r.gd | simpa [Around.under, Code.isGuard, Code.isFrame, guardIds] using r.gd⟩
theorem Room.depth {k : Nat} {A : Around} (r : Room k A) : A.depth < recursionLimit := by have := r.dp; omega
theorem Room.units {k : Nat} {A : Around} (r : Room k A) : A.units + 64 < cLine := by have := r.un; omega
theorem Room.units0 {k : Nat} {A : Around} (r : Room k A) : A.units < cLine := by have := r.un; omega
def tNil : TA := fun _ H Q => Q [] H
def tCons (ta : TE) (tr : TA) : TA := fun σ H Q => ta σ H fun x H1 => tr σ H1 fun xs H2 => Q (x :: xs) H2
section
variable {X : Cx} {e : Expr} {es : List Expr} {te : TE} {t : TA} {pos : Pos}
theorem pa_nil : PA X [] tNil := fun _ _ _ _ H Q I h => Calls.spliced_nil ⟨[], H, I, .nil, h⟩
theorem pa_cons (ha : PE X e te) (hr : PA X es t) (hs : starEach (e :: es) X.env = (false, eval e X.env) :: starEach es X.env := by rfl) : PA X (e :: es) (tCons te t) := by
  intro pos pins s σ H Q I h
  rw [hs]
  show wpAny _ _ (spliced ((false, eval e X.env) :: backTo pos (starEach es X.env))) _ _ s
  refine Calls.spliced_cons (thn (ha pins s σ H _ I h) fun u s1 ⟨x, H1, I1, r1, q1⟩ => ?_)
  exact thn (hr pos pins s1 σ H1 _ I1 q1) fun us s2 ⟨xs, H2, I2, r2, q2⟩ => ⟨x :: xs, H2, I2, .cons r1 r2, q2⟩
def tLst (t : TA) : TE := fun σ H Q => t σ H fun xs H1 => xs.length ≤ sizeLine ∧ ∀ p, H1 p = none → Q (.ref p) (upd H1 p (.lst xs))
theorem pe_lst (h : PA X es t) : PE X (.List es pos) (tLst t) := by
  intro pins s σ H Q I hq
  refine wpAny_List_spliced (thn (h pos pins s σ H _ I hq) fun us s1 ⟨xs, H1, I1, r, z, q⟩ => ⟨by rw [← r.length]; exact z, ?_⟩)
  have hf : H1 s1.heap.objs.size = none := I1.hok.fresh (Nat.le_refl _)
  refine ⟨.ref s1.heap.objs.size, upd H1 s1.heap.objs.size (.lst xs), I1.laid (t' := s1.toks) (fun b u e => Heap.get?_push_of_some _ e) (Nat.le_refl _) ?_, rfl, q _ hf⟩
  exact ⟨z, us, 0, r, Heap.get?_push_size _ rfl⟩
end
abbrev Sp := List V → Hp → VK → XK → Prop
abbrev CXT := List Env → Hp → Shared → XK → Value → Shared → Prop
structure Env0 (P : Program) (w : World) (K : PySem.W.Frag) (mg : Str → Option Value) (base : Heap) (A : Around) (outer : List Env) (s : Shared) (H : Hp) : Prop where
  frames : A.frames = some outer
  mod : Mod K mg base
  bs : ∀ b o, base.get? b = some o → s.heap.get? b = some o ∧ H b = none
  bsz : base.objs.size ≤ s.heap.objs.size
  funs : s.heap.FunFrames base outer
  frf : ∀ b ∈ frs outer, H b = none
  hok : HOk P w H s.heap
  bare : AllBare s.gens
def CE (outer : List Env) (P : Program) (w : World) (H : Hp) (s : Shared) (Q : VK) (u : Value) (s' : Shared) : Prop :=
  ∃ v H', s'.os = s.os ∧ AllBare s'.gens ∧ Un (frs outer) [] H H' s.heap s'.heap ∧ HOk P w H' s'.heap ∧ RelV v u ∧ Q v H'
def CR (CX : CXT) (outer : List Env) (P : Program) (w : World) (H : Hp) (s : Shared) (Q : VK) (E : XK) (r : Result) (s' : Shared) : Prop :=
  match r with
  | .ok (.ret u) => CE outer P w H s Q u s'
  | .ok _ => False
  | .error e => CX outer H s E e s'
structure FnOk (P : Program) (w : World) (K : PySem.W.Frag) (mg : Str → Option Value) (base : Heap) (CX : CXT) (k : Nat) (f : Addr) (fd : FuncData) (ps : List Str) (sp : Sp) : Prop where
  len : ∀ vs H Q E, sp vs H Q E → vs.length = ps.length
  run : ∀ (A : Around) (outer : List Env) (s : Shared) (H : Hp) (args : Args) (us : List Value) (vs : List V) (Q : VK) (E : XK), Room k A → Env0 P w K mg base A outer s H → BindsTo s fd args (ps.zip us) → Vals vs us → sp vs H Q E →
    codeAny (model P w) A (.call (.ref f) args) (CR CX outer P w H s Q E) s
theorem Env0.make {P : Program} {w : World} {K : PySem.W.Frag} {mg : Str → Option Value} {base : Heap} {A : Around} {outer : List Env} {s : Shared} {H : Hp} (e : Env0 P w K mg base A outer s H) (C : Addr) (us : List Value) (kw : List (Str × Value)) :
    Env0 P w K mg base (A.under (.builtin "type.__call__" ⟨.ref C :: us, kw⟩)) outer s H := ⟨by first | exact e.frames | (simpa [Around.under, Code.envs, Code.isFrame, pushEnvs] using e.frames), e.mod, e.bs, e.bsz, e.funs, e.frf, e.hok, e.bare⟩
section
variable {X : Cx} {pins : List (Addr × Obj)} {σ : St} {H : Hp} {s s' : Shared}
theorem Inv.env0 (I : Inv X pins σ H s) : Env0 X.prog X.w X.K X.mg X.base X.A X.stack s H :=
  ⟨I.ok.frames, I.ok.mod, I.bs, Nat.le_trans I.ok.bsz I.sz, I.stack, I.stkFree, I.hok, I.bare⟩
theorem Inv.after {Q : VK} {u : Value} (I : Inv X pins σ H s) (h : CE X.stack X.prog X.w H s Q u s') : EP X pins σ Q u s' := by
  obtain ⟨v, H', os, bare, un, hok, r, q⟩ := h
  obtain ⟨hh, g, d, t, os'⟩ := s'
  obtain rfl : os' = s.os := os
  exact ⟨v, H', I.call (h' := hh) (g' := g) (d' := d) (t' := t) (ch := []) un hok bare (fun b z => absurd z (by simp)), r, q⟩
end
def tCall (sp : Sp) (dvs : List V) (E : XK) (t : TA) : TE := fun σ H Q => t σ H fun vs H1 => sp (vs ++ dvs) H1 Q E
def tMeth (C : Addr) (m : Str) (sp : Sp) (dvs : List V) (E : XK) (ta : TE) (t : TA) : TE := fun σ H Q => ta σ H fun x H1 => ∃ a dx fs, x = .ref a ∧ H1 a = some (.ins C dx fs) ∧ fs.lookup m = none ∧
  t σ H1 fun vs H2 => sp (x :: (vs ++ dvs)) H2 Q E
def tMake (C : Addr) (sp : Sp) (dvs : List V) (E : XK) (t : TA) : TE := fun σ H Q => t σ H fun vs H1 => ∀ x dx, H1 x = none → H1 dx = none → dx ≠ x →
  sp (.ref x :: (vs ++ dvs)) (upd (upd H1 dx (.own x)) x (.ins C dx [])) (fun v H2 => v = .non ∧ Q (.ref x) H2) E
def Binds (K : PySem.W.Frag) (fd : FuncData) (ps : List Str) (ds : List Value) : Prop :=
  ∀ (s : Shared) (us : List Value), K.In s.heap → (us ++ ds).length = ps.length → BindsTo s fd ⟨us, []⟩ (ps.zip (us ++ ds))
theorem Binds.all {K : PySem.W.Frag} {fd : FuncData} {ps : List Str} (h : ∀ us : List Value, us.length = ps.length → bindArgs fd ⟨us, []⟩ = pure (ps.zip us)) : Binds K fd ps [] := fun s us _ hl => by
  rw [List.append_nil] at hl ⊢
  exact .of_eq (h us hl)
def Passes (CX : CXT) (X : Cx) (E : XK) : Prop := ∀ (pins : List (Addr × Obj)) (σ : St) (H : Hp) (s : Shared) (e : Value) (s' : Shared), Inv X pins σ H s → CX X.stack H s E e s' → X.xe e s'
section
variable {X : Cx} {CX : CXT} {k : Nat} {f C : Addr} {fd : FuncData} {ps : List Str} {sp : Sp} {dvs : List V} {ds : List Value} {E : XK} {x m : Str} {p pos apos : Pos} {e o : Expr} {es : List Expr} {ta : TE} {t : TA}
theorem run_fn {pins : List (Addr × Obj)} {σ : St} {H : Hp} {s : Shared} {Q : VK} {us : List Value} {vs : List V} (F : FnOk X.prog X.w X.K X.mg X.base CX k f fd ps sp) (hr : Room k X.A) (hb : Binds X.K fd ps ds) (hd : Vals dvs ds) (hx : Passes CX X E)
    (I : Inv X pins σ H s) (r : Vals vs us) (h : sp (vs ++ dvs) H Q E) : wpAny (model X.prog X.w) X.A (call (.ref f) us) (EP X pins σ Q) X.xe s := by
  have r2 : Vals (vs ++ dvs) (us ++ ds) := r.append hd
  have hl : (us ++ ds).length = ps.length := by rw [← r2.length]; exact F.len _ _ _ _ h
  refine wpAny_call (codeAny_mono (F.run X.A X.stack s H ⟨us, []⟩ (us ++ ds) (vs ++ dvs) Q E hr I.env0 (hb s us I.kIn hl) r2 h) fun r s' hq => ?_)
  cases r with
  | error e => exact hx pins σ H s e s' I hq
  | ok fl =>
    cases fl with
    | ret u => exact I.after hq
    | next => exact False.elim hq
    | brk => exact False.elim hq
    | cont => exact False.elim hq
theorem pe_call (F : FnOk X.prog X.w X.K X.mg X.base CX k f fd ps sp) (hr : Room k X.A) (hg : Gl X x) (hm : X.mg x = some (.ref f)) (hk : PySem.W.keepIn X.K (.ref f) = true) (hb : Binds X.K fd ps ds) (hd : Vals dvs ds) (hx : Passes CX X E)
    (ha : PA X (e :: es) t) (hdb : (x == ("__debug__" : Str)) = false := by decide) (he : starEach (e :: es) X.env = (false, eval e X.env) :: starEach es X.env := by rfl) (hpl : (backTo pos (starEach es X.env)).any (·.1) = false := by rfl) :
    PE X (.Call (.Name x p) (e :: es) [] pos) (tCall sp dvs E t) := by
  intro pins s σ H Q I h
  refine wpAny_Call_Name_kw (ld_glob I hg hm ?_ hdb)
  refine PySem.W.callWith_K (h₀ := X.base) I.ok.mod.kin hk (thn (ha pos pins s σ H _ I h) fun us s1 ⟨vs, H1, I1, r, q⟩ => ⟨I1.kIn, ?_⟩) he hpl
  exact run_fn F hr hb hd hx I1 r q
theorem pe_meth {pl : Sem Bool} (he : PE X o ta) (c : Cls X.K C) (hm : Meth X.K C m f) (F : FnOk X.prog X.w X.K X.mg X.base CX k f fd ps sp) (hr : Room k X.A) (hb : Binds X.K fd ps ds) (hd : Vals dvs ds) (hx : Passes CX X E) (ha : PA X (e :: es) t)
    (hst : starEach (e :: es) X.env = (false, eval e X.env) :: starEach es X.env := by rfl) (hpl : (backTo pos (starEach es X.env)).any (·.1) = false := by rfl)
    (ht : eval (.Call (.Attribute o m apos) (e :: es) [] pos) X.env = (do
      let ov ← eval o X.env
      standAt apos.atName
      let (f, first) ← holding [ov] (getMethod ov m pl)
      callWith pos f first (backTo pos (starEach (e :: es) X.env)) (backToKw pos (keywordEach [] X.env))) := by rfl) :
    PE X (.Call (.Attribute o m apos) (e :: es) [] pos) (tMeth C m sp dvs E ta t) := by
  intro pins s σ H Q I h
  refine PySem.W.methodCall_KW (pl := pl) (thn (he pins s σ H _ I h) fun u s1 ⟨x, H1, I1, rx, a, dx, fs, ex, ea, l, q⟩ => ?_) ht
  subst ex
  obtain rfl : u = Value.ref a := rx
  refine getmeth_ok I1 ea c hm l ?_
  refine PySem.W.callWith_K (first := [.ref a]) (h₀ := X.base) I.ok.mod.kin hm.kp (thn (ha pos pins s1 σ H1 _ I1 q) fun us s2 ⟨vs, H2, I2, r, q2⟩ => ⟨I2.kIn, ?_⟩) hst hpl
  exact run_fn (us := .ref a :: us) (vs := .ref a :: vs) F hr hb hd hx I2 (.cons rfl r) q2
theorem pe_meth0 {pl : Sem Bool} (he : PE X o ta) (c : Cls X.K C) (hm : Meth X.K C m f) (F : FnOk X.prog X.w X.K X.mg X.base CX k f fd ps sp) (hr : Room k X.A) (hb : Binds X.K fd ps ds) (hd : Vals dvs ds) (hx : Passes CX X E)
    (ht : eval (.Call (.Attribute o m apos) [] [] pos) X.env = (do
      let ov ← eval o X.env
      standAt apos.atName
      let (f, first) ← holding [ov] (getMethod ov m pl)
      callWith pos f first (backTo pos (starEach [] X.env)) (backToKw pos (keywordEach [] X.env))) := by rfl) :
    PE X (.Call (.Attribute o m apos) [] [] pos) (tMeth C m sp dvs E ta tNil) := by
  intro pins s σ H Q I h
  refine PySem.W.methodCall_KW (pl := pl) (thn (he pins s σ H _ I h) fun u s1 ⟨x, H1, I1, rx, a, dx, fs, ex, ea, l, q⟩ => ?_) ht
  subst ex
  obtain rfl : u = Value.ref a := rx
  refine getmeth_ok I1 ea c hm l ?_
  exact PySem.W.callWith_K0 (first := [.ref a]) I1.kIn hm.kp (run_fn (us := [.ref a]) (vs := [.ref a]) F hr hb hd hx I1 (.cons rfl .nil) q)
structure Mk (K : PySem.W.Frag) (C f : Addr) : Prop where
  makes : PySem.W.makesIn K C = true
  init : PySem.W.findIn K (.ref C) "__init__" = some (some (.ref f))
  fn : PySem.W.isFn K (.ref f) = true
  kp : PySem.W.keepIn K (.ref C) = true
theorem run_make {pins : List (Addr × Obj)} {σ : St} {H : Hp} {s : Shared} {Q : VK} {us : List Value} {vs : List V} (M : Mk X.K C f) (F : FnOk X.prog X.w X.K X.mg X.base CX k f fd ps sp) (hr : Room (k + 1) X.A) (hb : Binds X.K fd ps ds) (hd : Vals dvs ds)
    (hx : Passes CX X E) (I : Inv X pins σ H s) (r : Vals vs us)
    (h : ∀ x dx, H x = none → H dx = none → dx ≠ x → sp (.ref x :: (vs ++ dvs)) (upd (upd H dx (.own x)) x (.ins C dx [])) (fun v H2 => v = .non ∧ Q (.ref x) H2) E) :
    wpAny (model X.prog X.w) X.A (call (.ref C) us) (EP X pins σ Q) X.xe s := by
  have hq := h (s.heap.objs.size + 1) s.heap.objs.size (I.hok.fresh (Nat.le_succ _)) (I.hok.fresh (Nat.le_refl _)) (Nat.ne_of_lt (Nat.lt_succ_self _))
  have I2 := Inv.made (C := C) I
  have r2 : Vals (V.ref (s.heap.objs.size + 1) :: (vs ++ dvs)) (Value.ref (s.heap.objs.size + 1) :: (us ++ ds)) := .cons rfl (r.append hd)
  have hl : (Value.ref (s.heap.objs.size + 1) :: us ++ ds).length = ps.length := by
    have e := r2.length
    rw [F.len _ _ _ _ hq] at e
    exact e.symm
  refine wpAny_call (make_map (f := f) I.kIn M.makes M.init (beq_iff_eq.mp M.fn) (codeAny_mono (F.run _ X.stack _ _ ⟨Value.ref (s.heap.objs.size + 1) :: us, []⟩ (Value.ref (s.heap.objs.size + 1) :: (us ++ ds)) _ _ E (hr.make C us [])
    (I2.env0.make C us []) (hb _ (Value.ref (s.heap.objs.size + 1) :: us) I2.kIn hl) r2 hq) fun r s' hq' => ?_))
  cases r with
  | error e => exact hx pins σ _ _ e s' I2 hq'
  | ok fl =>
    cases fl with
    | ret u =>
      obtain ⟨v, H', I3, rv, ev, q3⟩ := I2.after hq'
      subst ev
      exact ⟨rv, ⟨V.ref (s.heap.objs.size + 1), H', I3, rfl, q3⟩⟩
    | next => exact False.elim hq'
    | brk => exact False.elim hq'
    | cont => exact False.elim hq'
theorem pe_make (M : Mk X.K C f) (F : FnOk X.prog X.w X.K X.mg X.base CX k f fd ps sp) (hr : Room (k + 1) X.A) (hg : Gl X x) (hm : X.mg x = some (.ref C)) (hb : Binds X.K fd ps ds) (hd : Vals dvs ds) (hx : Passes CX X E)
    (ha : PA X (e :: es) t) (hdb : (x == ("__debug__" : Str)) = false := by decide) (he : starEach (e :: es) X.env = (false, eval e X.env) :: starEach es X.env := by rfl) (hpl : (backTo pos (starEach es X.env)).any (·.1) = false := by rfl) :
    PE X (.Call (.Name x p) (e :: es) [] pos) (tMake C sp dvs E t) := by
  intro pins s σ H Q I h
  refine wpAny_Call_Name_kw (ld_glob I hg hm ?_ hdb)
  refine PySem.W.callWith_K (h₀ := X.base) I.ok.mod.kin M.kp (thn (ha pos pins s σ H _ I h) fun us s1 ⟨vs, H1, I1, r, q⟩ => ⟨I1.kIn, ?_⟩) he hpl
  exact run_make M F hr hb hd hx I1 r q
end
section
variable {X : Cx} {CX : CXT} {k : Nat} {f C : Addr} {fd : FuncData} {ps ks : List Str} {sp : Sp} {E : XK} {x m : Str} {p pos apos kpos : Pos} {e o : Expr} {es : List Expr} {kws : List Keyword} {te ta : TE} {t tk : TA} {nm : Option Str}
variable {g : List Value → List Value → List Value} {gV : List V → List V → List V}
end
structure FnScope (N P : List Str) (sc : Scope) : Prop where
  kind : sc.kind = .function
  co : sc.isCoroutine = false
  gen : sc.isGenerator = false
  nd : N.Nodup
  pre : N.take P.length = P
  par : ∀ x ∈ P, sc.names.lookup x = some .local ∨ sc.names.lookup x = some .cell
  nofree : ∀ y ∈ sc.names, y.2 ≠ .free
theorem bindL_out {kindOf : Str → Option NameKind} {x : Str} : ∀ {binds : List (Str × Value)} {m : Str → Option Value}, (∀ v, (x, v) ∉ binds) → bindL kindOf binds m x = m x
  | [], _, _ => rfl
  | (n, v) :: r, m, h => by
    unfold bindL
    rw [bindL_out fun w hw => h w (List.mem_cons_of_mem _ hw)]
    split
    · have : x ≠ n := by rintro rfl; exact h v List.mem_cons_self
      simp [this]
    · rfl
theorem bindC_out {kindOf : Str → Option NameKind} {x : Str} : ∀ {binds : List (Str × Value)} {m : Str → Option Value}, (∀ v, (x, v) ∉ binds) → bindC kindOf binds m x = m x
  | [], _, _ => rfl
  | (n, v) :: r, m, h => by
    unfold bindC
    rw [bindC_out fun w hw => h w (List.mem_cons_of_mem _ hw)]
    split
    · rfl
    · have : x ≠ n := by rintro rfl; exact h v List.mem_cons_self
      simp [this]
theorem bindL_get {kindOf : Str → Option NameKind} {x : Str} {v : Value} : ∀ {P : List Str} {vs : List Value} {i : Nat} {m : Str → Option Value}, P.Nodup → P[i]? = some x → vs[i]? = some v → kindOf x = some .local →
    bindL kindOf (P.zip vs) m x = some v
  | [], _, _, _, _, h, _, _ => by simp at h
  | _ :: _, [], _, _, _, _, h, _ => by simp at h
  | p :: P, w :: vs, 0, m, nd, h1, h2, hk => by
    simp at h1 h2; subst h1; subst h2
    show bindL kindOf ((p, w) :: P.zip vs) m p = _
    unfold bindL
    rw [bindL_out fun v hv => (List.nodup_cons.mp nd).1 (List.of_mem_zip hv).1, if_pos hk]
    simp
  | p :: P, w :: vs, i + 1, m, nd, h1, h2, hk => by
    show bindL kindOf ((p, w) :: P.zip vs) m x = _
    unfold bindL
    exact bindL_get (i := i) (List.nodup_cons.mp nd).2 (by simpa using h1) (by simpa using h2) hk
theorem bindC_get {kindOf : Str → Option NameKind} {x : Str} {v : Value} : ∀ {P : List Str} {vs : List Value} {i : Nat} {m : Str → Option Value}, P.Nodup → P[i]? = some x → vs[i]? = some v → kindOf x ≠ some .local →
    bindC kindOf (P.zip vs) m x = some v
  | [], _, _, _, _, h, _, _ => by simp at h
  | _ :: _, [], _, _, _, _, h, _ => by simp at h
  | p :: P, w :: vs, 0, m, nd, h1, h2, hk => by
    simp at h1 h2; subst h1; subst h2
    show bindC kindOf ((p, w) :: P.zip vs) m p = _
    unfold bindC
    rw [bindC_out fun v hv => (List.nodup_cons.mp nd).1 (List.of_mem_zip hv).1, if_neg hk]
    simp
  | p :: P, w :: vs, i + 1, m, nd, h1, h2, hk => by
    show bindC kindOf ((p, w) :: P.zip vs) m x = _
    unfold bindC
    exact bindC_get (i := i) (List.nodup_cons.mp nd).2 (by simpa using h1) (by simpa using h2) hk
def start (N : List Str) (vs : List V) : St := vs.map some ++ List.replicate (N.length - vs.length) none
def cxOf (CX : CXT) (P : Program) (w : World) (K : PySem.W.Frag) (mg : Str → Option Value) (base : Heap) (N : List Str) (qual : Str) (scope : Scope) (f : Addr) (cd : Value) (A : Around) (outer : List Env) (s : Shared) (H : Hp) (E : XK) : Cx where
  prog := P
  w := w
  K := K
  mg := mg
  base := base
  A := A.deeper (envOfC qual scope s.heap.objs.size f cd)
  N := N
  s₀ := s
  H₀ := H
  env := envOfC qual scope s.heap.objs.size f cd
  outer := outer
  stack := envOfC qual scope s.heap.objs.size f cd :: outer
  ex := []
  calm := true
  fn := fun _ => true
  pn := []
  xe := fun e s' => wpAny (model P w) (A.deeper (envOfC qual scope s.heap.objs.size f cd)) (leaving (envOfC qual scope s.heap.objs.size f cd) e) (fun _ s'' => CX outer H s E e s'') (fun e' s'' => CX outer H s E e' s'') s'
theorem cell_has {sc : Scope} {n : Nat} {x : Str} (h : sc.names.lookup x = some .cell) : ∃ c, (cellsFrom n sc.names []).lookup x = some c := by
  have q := PySem.W.cellsFrom_some sc.names n [] (.inl h)
  exact Option.isSome_iff_exists.mp q
theorem inv_start {CX : CXT} {P : Program} {w : World} {K : PySem.W.Frag} {mg : Str → Option Value} {base : Heap} {N ps : List Str} {qual : Str} {scope : Scope} {f : Addr} {cd : Value} {A : Around} {outer : List Env} {s s1 : Shared} {H : Hp} {E : XK} {us : List Value} {vs : List V}
    (S : FnScope N ps scope) (hd : A.handled = none) (e0 : Env0 P w K mg base A outer s H) (hl : vs.length = ps.length) (r : Vals vs us)
    (x : InCallC s s.heap.objs.size (bindL (envOfC qual scope s.heap.objs.size f cd).kindOf (ps.zip us) fun _ => none) (cellsFrom (s.heap.objs.size + 1) scope.names []) (bindC (envOfC qual scope s.heap.objs.size f cd).kindOf (ps.zip us) fun _ => none) s1) :
    Inv (cxOf CX P w K mg base N qual scope f cd A outer s H E) [] (start N vs) H s1 := by
  have hpl : ps.length ≤ N.length := by have := congrArg List.length S.pre; rw [List.length_take] at this; omega
  obtain ⟨h1, tk, rfl, hk⟩ := x.done
  have noA : ∀ b : Addr, b ∉ (cxOf CX P w K mg base N qual scope f cd A outer s H E).ex := fun b z => absurd (show b ∈ ([] : List Addr) from z) (by simp)
  refine ⟨⟨e0.mod, S.kind, rfl, rfl, Nat.le_refl _, fun y z c h1 h2 => ?_, fun y hy => ?_, fun y c _ h => ?_, fun _ => hd, Around.frames_deeper e0.frames, .inr ⟨rfl, rfl⟩, fun b z => absurd z (noA b), e0.bs, e0.bsz, fun b _ _ => noA b, fun b z => absurd z (noA b), e0.funs, e0.frf⟩,
    rfl, e0.bare, Un.kept hk, ⟨_, x.toInCall.ns, fun i y v h1 h2 h3 => ?_⟩, fun y c h => ⟨_, x.cell y c h⟩, e0.hok.fresh (Nat.le_refl _), fun y c h => ?_, fun p hp => absurd (show p ∈ ([] : List (Addr × Obj)) from hp) (by simp), e0.hok.kept hk, ?_⟩
  · exact name_of_addr x.apart (PySem.mem_of_lookup h1) (PySem.mem_of_lookup h2)
  · have hy : scope.names.lookup y = some .cell ∨ scope.names.lookup y = some .free := hy
    rcases hy with hy | hy
    · exact cell_has hy
    · exact absurd rfl (S.nofree _ (PySem.mem_of_lookup hy))
  · exact Nat.le_of_lt (x.above y c (PySem.mem_of_lookup h))
  · have hi : i < vs.length := by
      unfold start at h2
      by_cases hi : i < vs.length
      · exact hi
      · rw [List.getElem?_append_right (by simpa using hi)] at h2
        rw [List.getElem?_replicate] at h2
        split at h2 <;> cases h2
    have ha : vs[i]? = some v := by
      unfold start at h2
      rw [List.getElem?_append_left (by simpa using hi), List.getElem?_map] at h2
      cases e : vs[i]? with
      | none => rw [e] at h2; cases h2
      | some a => rw [e] at h2; cases h2; rfl
    obtain ⟨u, hu, rv⟩ := r.get ha
    have hp : ps[i]? = some y := by
      rw [← S.pre, List.getElem?_take_of_lt (by omega)]; exact h1
    have ndP : ps.Nodup := by rw [← S.pre]; exact S.nd.sublist (List.take_sublist _ _)
    refine ⟨u, rv, ?_⟩
    rcases S.par y (List.mem_of_getElem? hp) with k | k
    · exact .inl ⟨k, bindL_get ndP hp hu k⟩
    · obtain ⟨c, e⟩ := cell_has (n := s.heap.objs.size + 1) k
      refine .inr ⟨.inl k, c, e, ?_⟩
      have q := x.cell y c e
      rw [bindC_get ndP hp hu (by show scope.names.lookup y ≠ _; rw [k]; decide)] at q
      exact q
  · exact e0.hok.fresh (Nat.le_of_lt (x.above y c (PySem.mem_of_lookup h)))
  · unfold start
    show _ = N.length
    rw [List.length_append, List.length_map, List.length_replicate]
    omega
theorem fn_of {CX : CXT} {P : Program} {w : World} {K : PySem.W.Frag} {mg : Str → Option Value} {base : Heap} {k : Nat} {f : Addr} {name qual : Str} {params : Arguments} {body : List Stmt} {scope : Scope} {dV kV doc pm cdv ct oc : Value} {an od : Option Addr}
    {osl : Array (Option Value)} {N ps : List Str} {sp : Sp} (lk : K.lookup f = some ⟨oc, od, .func (PySem.W.fnOf name qual params body scope dV kV doc pm an cdv ct), osl⟩) (hcd : PySem.W.codeIn K cdv qual = true) (S : FnScope N ps scope)
    (len : ∀ vs H Q E, sp vs H Q E → vs.length = ps.length)
    (hbody : ∀ (A : Around) (outer : List Env) (s : Shared) (H : Hp) (vs : List V) (Q : VK) (E : XK), Room k (A.deeper (envOfC qual scope s.heap.objs.size f cdv)) → sp vs H Q E →
      ∃ t, PSs (cxOf CX P w K mg base N qual scope f cdv A outer s H E) body t ∧ t { nx := fun _ H' => Q .non H', rt := Q } (start N vs) H) :
    FnOk P w K mg base CX (k + 1) f (PySem.W.fnOf name qual params body scope dV kV doc pm an cdv ct) ps sp := by
  refine ⟨len, fun A outer s H args us vs Q E hr e0 hb r hsp => ?_⟩
  have hl := len _ _ _ _ hsp
  have KX : K.In s.heap := e0.mod.kin.keeps fun b o e => (e0.bs b o e).1
  have lim : s.heap.NoLimit := e0.mod.nolimit.keeps fun b o e => (e0.bs b o e).1
  have hkind : ∀ y ∈ ps.zip us, scope.names.lookup y.1 = some .local ∨ (scope.names.lookup y.1 = some .cell ∧ ((cellsFrom (s.heap.objs.size + 1) scope.names []).lookup y.1).isSome = true) := fun ⟨n, v⟩ hy => by
    rcases S.par n (List.of_mem_zip hy).1 with q | q
    · exact .inl q
    · exact .inr ⟨q, PySem.W.cellsFrom_some _ _ _ (.inl q)⟩
  refine codeAny_call_function hr.depth (KX _ _ lk) rfl S.co S.gen rfl (PySem.W.codeRec_of KX hcd) (hb _ _ _ _ ?_)
  refine wpAny_newFunctionEnv_cells S.kind hkind fun env he s1 x => ?_
  subst he
  refine ⟨lim.keeps x.toInCall.keep, codeAny_func ?_⟩
  obtain ⟨t, ht, hq⟩ := hbody A outer s H vs Q E (hr.deeper _) hsp
  have I : Inv (cxOf CX P w K mg base N qual scope f cdv A outer s H E) [] (start N vs) H s1 := inv_start S hr.hd e0 hl r x
  refine wpAny_mono (ht [] s1 (start N vs) H _ I hq) (fun fl s' hs => ?_) fun e s' hs => hs
  have fin : ∀ {σ' : St} {H' : Hp} {v : V} {u : Value}, Inv (cxOf CX P w K mg base N qual scope f cdv A outer s H E) [] σ' H' s' → RelV v u → Q v H' → CE outer P w H s Q u s' :=
    fun {σ' H' v u} J rv q => ⟨v, H', J.os, J.bare, J.base, J.hok, rv, q⟩
  cases fl with
  | ret u =>
    obtain ⟨v, σ', H', J, rv, q⟩ := hs
    exact fin J rv q
  | next =>
    obtain ⟨σ', H', J, q⟩ := hs
    exact fin (v := V.non) (u := Value.none) J rfl q
  | brk =>
    obtain ⟨_, _, _, q⟩ := hs
    exact False.elim q
  | cont =>
    obtain ⟨_, _, _, q⟩ := hs
    exact False.elim q
end L2
namespace L2
open PySem PySem.Spec PyProof.Rows
section
variable {X : Cx} {x : Str} {p pos : Pos} {e : Expr} {es : List Expr} {t : TA} {id T : String} {r : List V → Hp → VK → Prop}
def tCB (r : List V → Hp → VK → Prop) (t : TA) : TE := fun σ H Q => t σ H fun vs H1 => r vs H1 Q
theorem pe_callB (hc : CallR X (.builtin id) r) (hg : Gl X x) (hm : X.mg x = none) (hv : bootBuiltins x = some (.builtin id)) (ha : PA X (e :: es) t) (hn : x ≠ "__name__" := by decide) (hdb : (x == ("__debug__" : Str)) = false := by decide)
    (he : starEach (e :: es) X.env = (false, eval e X.env) :: starEach es X.env := by rfl) (hpl : (backTo pos (starEach es X.env)).any (·.1) = false := by rfl) : PE X (.Call (.Name x p) (e :: es) [] pos) (tCB r t) := by
  intro pins s σ H Q I h
  refine wpAny_Call_Name_kw (ld_blt I hg hm hv ?_ hn hdb)
  exact PyProof.Rows.callWith_builtin1 (thn (ha pos pins s σ H _ I h) fun us s1 ⟨vs, H1, I1, r1, q1⟩ => hc pins s1 σ H1 vs us Q I1 r1 q1) he hpl
theorem pe_callTy (hc : CallR X (.type T) r) (hg : Gl X x) (hm : X.mg x = none) (hv : bootBuiltins x = some (.type T)) (ha : PA X (e :: es) t) (hn : x ≠ "__name__" := by decide) (hdb : (x == ("__debug__" : Str)) = false := by decide)
    (he : starEach (e :: es) X.env = (false, eval e X.env) :: starEach es X.env := by rfl) (hpl : (backTo pos (starEach es X.env)).any (·.1) = false := by rfl) : PE X (.Call (.Name x p) (e :: es) [] pos) (tCB r t) := by
  intro pins s σ H Q I h
  refine wpAny_Call_Name_kw (ld_blt I hg hm hv ?_ hn hdb)
  exact PyProof.Rows.callWith_type1 (thn (ha pos pins s σ H _ I h) fun us s1 ⟨vs, H1, I1, r1, q1⟩ => hc pins s1 σ H1 vs us Q I1 r1 q1) he hpl
end
end L2
namespace HT
open PySem PyProof.Rows
section
open PySem.SeqAt
open PySem.AutoSeq1 (wpAny_loadPart')
open PySem.MeetsSeq PySem.MeetsSeq2 PySem.MeetsSeq3
end
section
variable {prog : Program} {w : World} {A : Around} {E : Value → Shared → Prop} {s : Shared}
def sIx (n d : Nat) : Option Int → Nat
  | none => d
  | some v => if v < 0 then (v + (n : Int)).toNat else min v.toNat n
theorem sIx_nat (n d k : Nat) : sIx n d (some (k : Int)) = min k n := by
  show (if (k : Int) < 0 then ((k : Int) + (n : Int)).toNat else min (k : Int).toNat n) = min k n
  rw [if_neg (by omega), Int.toNat_natCast]
end
end HT
namespace L2
open PySem PySem.Spec PyProof.Rows
abbrev TO := St → Hp → (Option Int → Hp → Prop) → Prop
def PO (X : Cx) (e : Option Expr) (t : TO) : Prop :=
  ∀ (pins : List (Addr × Obj)) (s : Shared) (σ : St) (H : Hp) (Q : Option Int → Hp → Prop), Inv X pins σ H s → t σ H Q →
    wpAny (model X.prog X.w) X.A (evalPart e X.env) (fun u s' => ∃ o H', Inv X pins σ H' s' ∧ IsPart u o ∧ Q o H') X.xe s
def tNoPart : TO := fun _ H Q => Q none H
def tPart (t : TE) : TO := fun σ H Q => t σ H fun x H1 => ∃ i, x = .int i ∧ Q (some i) H1
theorem intsAre_of {ns : List Int} : ∀ {us : List Value}, Vals (ns.map V.int) us → IntsAre us ns := by
  induction ns with
  | nil => intro us r; rw [List.map_nil] at r; cases r; exact .nil
  | cons n ns ih =>
    intro us r
    rw [List.map_cons] at r
    cases r with
    | cons r1 r2 =>
      obtain ⟨t, e⟩ := r1
      subst e
      exact .cons n t (ih r2)
section
variable {X : Cx} {e : Expr} {te : TE} {lo hi : Option Expr} {tl th : TO} {pos p2 : Pos}
theorem po_none : PO X none tNoPart := by
  intro pins s σ H Q I h
  rw [evalPart_none]
  exact wpAny_pure ⟨none, H, I, .none, h⟩
theorem po_some (h : PE X e te) : PO X (some e) (tPart te) := by
  intro pins s σ H Q I hw
  rw [evalPart_some]
  refine thn (h pins s σ H _ I hw) fun u s1 ⟨x, H1, I1, r1, q1⟩ => ?_
  obtain ⟨i, rfl, q⟩ := q1
  obtain ⟨t, rfl⟩ := r1
  exact ⟨some i, H1, I1, .int i t, q⟩
def SlR (X : Cx) (r : V → Option Int → Option Int → Hp → VK → Prop) : Prop :=
  ∀ (pins : List (Addr × Obj)) (s : Shared) (σ : St) (H : Hp) (x : V) (v vl vu : Value) (lo hi : Option Int) (sl : Addr) (Q : VK), Inv X pins σ H s → RelV x v → s.heap.IsSliceOf sl vl vu .none → IsPart vl lo → IsPart vu hi → r x lo hi H Q →
    ∃ T id, typeLookup (.type T) "__getitem__" = pure (some (.builtin id)) ∧ s.TypeIs v T ∧ wpAny (model X.prog X.w) X.A (getItem v (.ref sl)) (EP X pins σ Q) X.xe s
def tSl (r : V → Option Int → Option Int → Hp → VK → Prop) (te : TE) (tl th : TO) : TE := fun σ H Q => te σ H fun x H1 => tl σ H1 fun l H2 => th σ H2 fun u H3 => r x l u H3 Q
theorem pe_slice {r : V → Option Int → Option Int → Hp → VK → Prop} (hr : SlR X r) (he : PE X e te) (hl : PO X lo tl) (hu : PO X hi th) : PE X (.Subscript e (.Slice lo hi none p2) pos) (tSl r te tl th) := by
  intro pins s σ H Q I h
  refine Subscript_ (thn (he pins s σ H _ I h) fun v s1 ⟨x, H1, I1, r1, q1⟩ => ?_)
  refine wpAny_Slice (thn (hl pins s1 σ H1 _ I1 q1) fun vl s2 ⟨l, H2, I2, pl, q2⟩ => thn (hu pins s2 σ H2 _ I2 q2) fun vu s3 ⟨u, H3, I3, pu, q3⟩ => ?_)
  rw [evalPart_none]
  refine wpAny_pure ?_
  have I4 : Inv X pins σ H3 { s3 with heap := s3.heap.push { cls := .type "slice", data := .fields #[vl, vu, .none] } } := I3.kept (t' := s3.toks) fun b ob q => Heap.get?_push_of_some _ q
  obtain ⟨T, id, hT, ht, hg⟩ := hr pins { s3 with heap := s3.heap.push { cls := .type "slice", data := .fields #[vl, vu, .none] } } σ H3 x v vl vu l u s3.heap.objs.size Q I4 r1 (Heap.IsSliceOf.new ..) pl pu q3
  show wpAny (model X.prog X.w) X.A (subscriptTail e (.Slice lo hi none p2) v (.ref s3.heap.objs.size)) (EP X pins σ Q) X.xe { s3 with heap := s3.heap.push { cls := .type "slice", data := .fields #[vl, vu, .none] } }
  exact tail_any (ops := [.ref s3.heap.objs.size, v]) ht hT hg (by with_unfolding_all rfl)
def cutV (xs : List V) (lo hi : Option Int) : List V := (xs.drop (HT.sIx xs.length 0 lo)).take (HT.sIx xs.length xs.length hi - HT.sIx xs.length 0 lo)
theorem cutV_length (xs : List V) (lo hi : Option Int) : (cutV xs lo hi).length ≤ xs.length := by
  unfold cutV
  rw [List.length_take, List.length_drop]
  omega
end
end L2
namespace L2
open PySem PySem.Spec PyProof.Rows
def ixN (n : Nat) (i : Int) : Option Nat := if 0 ≤ i then (if i < n then some i.toNat else none) else if -(n : Int) ≤ i then some (i + n).toNat else none
def atI {α : Type} (xs : List α) (i : Int) : Option α := (ixN xs.length i).bind fun j => xs[j]?
theorem ixN_seq {n : Nat} {i : Int} {j : Nat} (h : ixN n i = some j) : seqIndex? i n = some j ∧ j < n ∧ -(n : Int) ≤ i ∧ i < n := by
  unfold ixN at h
  by_cases h0 : 0 ≤ i
  · rw [if_pos h0] at h
    by_cases h1 : i < n
    · rw [if_pos h1] at h
      have e : i.toNat = j := Option.some.inj h
      exact ⟨by rw [seqIndex_of h0 h1, e], by omega, by omega, h1⟩
    · rw [if_neg h1] at h; cases h
  · rw [if_neg h0] at h
    by_cases h1 : -(n : Int) ≤ i
    · rw [if_pos h1] at h
      have e : (i + n).toNat = j := Option.some.inj h
      exact ⟨by rw [seqIndex_neg (by omega) h1, e], by omega, h1, by omega⟩
    · rw [if_neg h1] at h; cases h
theorem atI_get {α : Type} {xs : List α} {i : Int} {v : α} (h : atI xs i = some v) : ∃ j, seqIndex? i xs.length = some j ∧ xs[j]? = some v ∧ j < xs.length ∧ -(xs.length : Int) ≤ i ∧ i < xs.length := by
  unfold atI at h
  cases e : ixN xs.length i with
  | none => rw [e] at h; cases h
  | some j =>
    rw [e] at h
    obtain ⟨h1, h2, h3, h4⟩ := ixN_seq e
    exact ⟨j, h1, h, h2, h3, h4⟩
theorem atI_nat {α : Type} {xs : List α} {j : Nat} {v : α} (h : xs[j]? = some v) : atI xs (j : Int) = some v := by
  have hj : j < xs.length := (List.getElem?_eq_some_iff.mp h).1
  have e : ixN xs.length (j : Int) = some j := by
    unfold ixN
    rw [if_pos (by omega), if_pos (by omega)]; simp
  unfold atI; rw [e]; exact h
def PlainIx (b : Expr) : Prop := ∀ o i, subscripted b false o i = operate [o, i] (getItem o i)
def IxR (X : Cx) (r : R2) : Prop :=
  ∀ (value slice : Expr) (pins : List (Addr × Obj)) (s : Shared) (σ : St) (H : Hp) (x y : V) (v u : Value) (Q : VK), Inv X pins σ H s → RelV x v → RelV y u → r x y H Q →
    subscripted slice false v u = operate [v, u] (getItem v u) → wpAny (model X.prog X.w) X.A (subscriptTail value slice v u) (EP X pins σ Q) X.xe s
def MtR (X : Cx) (id : String) (r : V → List V → Hp → VK → Prop) : Prop :=
  ∀ (pins : List (Addr × Obj)) (s : Shared) (σ : St) (H : Hp) (x : V) (xs : List V) (v : Value) (us : List Value) (Q : VK), Inv X pins σ H s → RelV x v → Vals xs us → r x xs H Q →
    wpAny (model X.prog X.w) X.A (call (.builtin id) (v :: us)) (EP X pins σ Q) X.xe s
section
variable {X : Cx} {a b : Expr} {ta tb : TE} {pos : Pos}
theorem IxR.or {r r' : R2} (h : IxR X r) (h' : IxR X r') : IxR X (fun x y H Q => r x y H Q ∨ r' x y H Q) := by
  intro value slice pins s σ H x y v u Q I rx ry q hs
  rcases q with q | q
  · exact h value slice pins s σ H x y v u Q I rx ry q hs
  · exact h' value slice pins s σ H x y v u Q I rx ry q hs
theorem pe_ix {r : R2} (hr : IxR X r) (ha : PE X a ta) (hb : PE X b tb) (hs : PlainIx b) : PE X (.Subscript a b pos) (tOp r ta tb) := by
  intro pins s σ H Q I h
  exact Subscript_ (binT ha hb I h fun v u s2 x y H2 I2 rx ry q => hr a b pins s2 σ H2 x y v u Q I2 rx ry q (hs _ _))
def rIxL (K : PySem.W.Frag) : R2 := fun x y H Q => ∃ p xs i v, x = .ref p ∧ y = .int i ∧ SqL K H p xs ∧ atI xs i = some v ∧ Q v H
def rIxT (K : PySem.W.Frag) : R2 := fun x y H Q => ∃ p xs i v, x = .ref p ∧ y = .int i ∧ SqT K H p xs ∧ atI xs i = some v ∧ Q v H
def rIxS : R2 := fun x y H Q => ∃ z i c, x = .str z ∧ y = .int i ∧ z.length ≤ sizeLine ∧ atI z.cps.toList i = some c ∧ Q (.str ⟨#[c]⟩) H
theorem ix_list : IxR X (rIxL X.K) := by
  intro value slice pins s σ H x y v u Q I rx ry h hs
  obtain ⟨p, xs, i, z, rfl, rfl, hq, he, q⟩ := h
  cases rx
  obtain ⟨t, rfl⟩ := ry
  obtain ⟨its, r, pl, hz⟩ := I.list hq
  obtain ⟨j, h1, h2, h3, h4, h5⟩ := atI_get he
  obtain ⟨w, ew, rw'⟩ := r.get h2
  have hl := r.length
  have hn := line63
  have fin : EP X pins σ Q w s := ⟨z, H, I, rw', q⟩
  by_cases h0 : 0 ≤ i
  · have hj : i.toNat = j := by
      rw [seqIndex_of h0 h5] at h1
      exact Option.some.inj h1
    exact item_listR pl.isList h0 (by omega) (by rw [hj]; simpa using ew) fin hs
  · have hj : (i + (its.toArray.size : Int)).toNat = j := by
      rw [seqIndex_neg (by omega) h4] at h1
      rw [List.size_toArray, ← hl]
      exact Option.some.inj h1
    exact subscriptTail_builtinR (x := w) pl.isList.typeIs slot_list_getitem.lookup
      (wpAny_getItem_list_neg (Q := fun r s' => r = w ∧ EP X pins σ Q r s') pl.isList (by omega) (by rw [List.size_toArray] <;> omega) (by omega) (by rw [hj]; simpa using ew) ⟨rfl, fin⟩) hs
theorem ix_tup : IxR X (rIxT X.K) := by
  intro value slice pins s σ H x y v u Q I rx ry h hs
  obtain ⟨p, xs, i, z, rfl, rfl, hq, he, q⟩ := h
  cases rx
  obtain ⟨t, rfl⟩ := ry
  obtain ⟨its, r, pl, hz⟩ := I.tuple hq
  obtain ⟨j, h1, h2, h3, h4, h5⟩ := atI_get he
  obtain ⟨w, ew, rw'⟩ := r.get h2
  have hl := r.length
  have hn := line63
  have fin : EP X pins σ Q w s := ⟨z, H, I, rw', q⟩
  exact subscriptTail_builtinR (x := w) pl.typeIs slot_tuple_getitem.lookup
    (getItem_tuple (j := j) (Q := fun r s' => r = w ∧ EP X pins σ Q r s') pl (by omega) (by omega) (by rw [List.size_toArray, ← hl]; exact h1) (by simpa using ew) ⟨rfl, fin⟩) hs
theorem ix_str : IxR X rIxS := by
  intro value slice pins s σ H x y v u Q I rx ry h hs
  obtain ⟨z, i, c, rfl, rfl, hz, he, q⟩ := h
  obtain ⟨t, rfl⟩ := rx
  obtain ⟨t', rfl⟩ := ry
  obtain ⟨j, h1, h2, h3, h4, h5⟩ := atI_get he
  have hl : z.cps.toList.length = z.length := by simp [Str.length]
  rw [hl] at h1 h4 h5
  have hn := line63
  exact tail_any (typeIs_str s z t) slot_str_getitem.lookup (getItem_str (c := c) (by
    have e1 : decide (i < -(2 ^ 63 : Int)) = false := decide_eq_false (by omega)
    have e2 : decide (i ≥ 2 ^ 63) = false := decide_eq_false (by omega)
    rw [e1, e2, Bool.or_false]) (by rw [h1]; simpa using h2) ⟨.str ⟨#[c]⟩, H, I.tok _, ⟨_, rfl⟩, q⟩) hs
def rIx (K : PySem.W.Frag) : R2 := fun x y H Q => rIxL K x y H Q ∨ rIxT K x y H Q ∨ rIxS x y H Q
theorem ix_seq : IxR X (rIx X.K) := ix_list.or (ix_tup.or ix_str)
theorem slice_bounds (lo hi : Option Int) (n : Nat) : (sliceBounds lo hi none n).1 = ((HT.sIx n 0 lo : Nat) : Int) ∧ (sliceBounds lo hi none n).2.1 = ((HT.sIx n n hi : Nat) : Int) ∧ (sliceBounds lo hi none n).2.2 = 1 := by
  refine ⟨?_, ?_, rfl⟩
  · cases lo with
    | none => simp [sliceBounds, HT.sIx]
    | some i =>
      simp only [sliceBounds, HT.sIx, Option.getD_none, show (1 : Int) > 0 by decide, if_true]
      by_cases h : i < 0
      · simp only [h, if_true] <;> omega
      · simp only [h, if_false] <;> omega
  · cases hi with
    | none => simp [sliceBounds, HT.sIx]
    | some i =>
      simp only [sliceBounds, HT.sIx, Option.getD_none, show (1 : Int) > 0 by decide, if_true]
      by_cases h : i < 0
      · simp only [h, if_true] <;> omega
      · simp only [h, if_false] <;> omega
theorem slicePick_cut (its : List Value) (lo hi : Option Int) : slicePick its.toArray lo hi none = ((its.drop (HT.sIx its.length 0 lo)).take (HT.sIx its.length its.length hi - HT.sIx its.length 0 lo)).toArray := by
  obtain ⟨h1, h2, h3⟩ := slice_bounds lo hi its.toArray.size
  unfold slicePick
  rw [h1, h2, h3]
  simp only [sliceRange_one, pick_run, List.size_toArray] <;> rfl
def rSlL (K : PySem.W.Frag) : V → Option Int → Option Int → Hp → VK → Prop := fun x lo hi H Q => ∃ a xs, x = .ref a ∧ SqL K H a xs ∧ ∀ p, H p = none → Q (.ref p) (upd H p (.lst (cutV xs lo hi)))
theorem sl_list : SlR X (rSlL X.K) := by
  intro pins s σ H x v vl vu lo hi sl Q I rx hs pl pu h
  obtain ⟨a, xs, rfl, hx, q⟩ := h
  cases rx
  obtain ⟨its, r, ht, hz⟩ := I.list hx
  have hlen := r.length
  refine ⟨"list", _, slot_list_getitem.lookup, ht.isList.typeIs, ?_⟩
  refine wpAny_getItem_list_slice ht.isList hs pl pu .none (by simp) ?_ (by rw [List.size_toArray] <;> omega)
  rw [slicePick_cut, ← hlen]
  refine ⟨.ref s.heap.objs.size, _, I.laid (t' := s.toks) (o := .lst (cutV xs lo hi)) (fun b ob q => Heap.get?_push_of_some _ q) (Nat.le_refl _) ?_, rfl, q _ (I.hok.fresh (Nat.le_refl _))⟩
  exact ⟨Nat.le_trans (cutV_length xs lo hi) hz, _, 0, (r.drop (HT.sIx xs.length 0 lo)).take (HT.sIx xs.length xs.length hi - HT.sIx xs.length 0 lo), Heap.get?_push_size _ rfl⟩
def flatV : V → Bool
  | .non => true
  | .bl _ => true
  | .int _ => true
  | .str _ => true
  | _ => false
def eqV : V → V → Bool
  | .non, .non => true
  | .bl a, .bl b => a == b
  | .bl a, .int b => (if a then 1 else 0) == b
  | .int a, .bl b => a == (if b then 1 else 0)
  | .int a, .int b => a == b
  | .str a, .str b => a == b
  | _, _ => false
theorem eqAt_V {A : Around} {s : Shared} {y x : V} {u v : Value} (ry : RelV y u) (rx : RelV x v) (fy : flatV y = true) (fx : flatV x = true) : SeqAt.EqAt A s u v (eqV y x) := by
  cases y with
  | non =>
    cases ry
    cases x with
    | non => cases rx; exact SeqAt.EqAt.same _
    | bl b => cases rx; exact SeqAt.EqAt.none_bool b
    | int b => obtain ⟨t, rfl⟩ := rx; exact SeqAt.EqAt.none_int b t
    | str b => obtain ⟨t, rfl⟩ := rx; exact SeqAt.EqAt.none_str b t
    | _ => exact absurd (show false = true from fx) Bool.false_ne_true
  | bl a =>
    cases ry
    cases x with
    | non => cases rx; exact SeqAt.EqAt.bool_none a
    | bl b => cases rx; exact SeqAt.EqAt.bool_bool a b
    | int b => obtain ⟨t, rfl⟩ := rx; exact SeqAt.EqAt.bool_int a b t
    | str b => obtain ⟨t, rfl⟩ := rx; exact SeqAt.EqAt.bool_str a b t
    | _ => exact absurd (show false = true from fx) Bool.false_ne_true
  | int a =>
    obtain ⟨t', rfl⟩ := ry
    cases x with
    | non => cases rx; exact SeqAt.EqAt.int_none a t'
    | bl b => cases rx; exact SeqAt.EqAt.int_bool a t' b
    | int b => obtain ⟨t, rfl⟩ := rx; exact SeqAt.EqAt.int_int a t' b t
    | str b => obtain ⟨t, rfl⟩ := rx; exact SeqAt.EqAt.int_str a t' b t
    | _ => exact absurd (show false = true from fx) Bool.false_ne_true
  | str a =>
    obtain ⟨t', rfl⟩ := ry
    cases x with
    | non => cases rx; exact SeqAt.EqAt.str_none a t'
    | bl b => cases rx; exact SeqAt.EqAt.str_bool a t' b
    | int b => obtain ⟨t, rfl⟩ := rx; exact SeqAt.EqAt.str_int a t' b t
    | str b => obtain ⟨t, rfl⟩ := rx; exact SeqAt.EqAt.str_str a t' b t
    | _ => exact absurd (show false = true from fx) Bool.false_ne_true
  | _ => exact absurd (show false = true from fy) Bool.false_ne_true
def eqU (x : V) (u : Value) : Bool := match u with
  | .none => eqV .non x
  | .bool b => eqV (.bl b) x
  | .int i _ => eqV (.int i) x
  | .str z _ => eqV (.str z) x
  | _ => false
theorem eqU_of {x y : V} {u : Value} (r : RelV y u) (f : flatV y = true) : eqU x u = eqV y x := by
  cases y with
  | non => cases r; rfl
  | bl b => cases r; rfl
  | int i => obtain ⟨t, rfl⟩ := r; rfl
  | str z => obtain ⟨t, rfl⟩ := r; rfl
  | _ => exact absurd (show false = true from f) Bool.false_ne_true
theorem any_eqU {x : V} : ∀ {xs : List V} {us : List Value}, Vals xs us → xs.all flatV = true → us.any (eqU x) = xs.any fun y => eqV y x
  | _, _, .nil, _ => rfl
  | y :: xs, u :: us, .cons r t, f => by
    rw [List.all_cons, Bool.and_eq_true] at f
    rw [List.any_cons, List.any_cons, eqU_of r f.1, any_eqU t f.2]
theorem mem_eqAt {A : Around} {s : Shared} {x : V} {v : Value} (rx : RelV x v) (fx : flatV x = true) : ∀ {xs : List V} {us : List Value}, Vals xs us → xs.all flatV = true → ∀ u ∈ us, SeqAt.EqAt A s u v (eqU x u)
  | _, _, .nil, _ => fun u hu => by cases hu
  | y :: xs, u :: us, .cons r t, f => fun u' hu => by
    rw [List.all_cons, Bool.and_eq_true] at f
    rcases List.mem_cons.mp hu with rfl | hu
    · rw [eqU_of r f.1]; exact eqAt_V r rx f.1 fx
    · exact mem_eqAt rx fx t f.2 u' hu
def inV (x : V) (xs : List V) : Bool := xs.any fun y => eqV y x
def rIn (K : PySem.W.Frag) (neg : Bool) : R2 := fun x y H Q => ∃ p xs, y = .ref p ∧ (SqL K H p xs ∨ SqT K H p xs) ∧ flatV x = true ∧ xs.all flatV = true ∧ Q (.bl (if neg then !inV x xs else inV x xs)) H
theorem op_in_seq : OpR X (compareOp .In) (rIn X.K false) := by
  intro pins s σ H x y v u Q I rx ry h
  obtain ⟨p, xs, rfl, hq, fx, fs, q⟩ := h
  cases ry
  rcases hq with hq | hq
  · obtain ⟨its, r, pl, hz⟩ := I.list hq
    refine SeqAt.in_listAt (eqU x) pl.isList (fun w hw => mem_eqAt rx fx r fs w (by simpa using hw)) ⟨.bl _, H, I, rfl, ?_⟩
    rw [show its.toArray.any (eqU x) = its.any (eqU x) by simp, any_eqU r fs]
    exact q
  · obtain ⟨its, r, pl, hz⟩ := I.tuple hq
    refine SeqAt.in_tupleAt (eqU x) pl (fun w hw => mem_eqAt rx fx r fs w (by simpa using hw)) ⟨.bl _, H, I, rfl, ?_⟩
    rw [show its.toArray.any (eqU x) = its.any (eqU x) by simp, any_eqU r fs]
    exact q
theorem op_notIn_seq : OpR X (compareOp .NotIn) (rIn X.K true) := by
  intro pins s σ H x y v u Q I rx ry h
  obtain ⟨p, xs, rfl, hq, fx, fs, q⟩ := h
  cases ry
  rcases hq with hq | hq
  · obtain ⟨its, r, pl, hz⟩ := I.list hq
    refine SeqAt.notIn_listAt (eqU x) pl.isList (fun w hw => mem_eqAt rx fx r fs w (by simpa using hw)) ⟨.bl _, H, I, rfl, ?_⟩
    rw [show its.toArray.any (eqU x) = its.any (eqU x) by simp, any_eqU r fs]
    exact q
  · obtain ⟨its, r, pl, hz⟩ := I.tuple hq
    refine SeqAt.notIn_tupleAt (eqU x) pl (fun w hw => mem_eqAt rx fx r fs w (by simpa using hw)) ⟨.bl _, H, I, rfl, ?_⟩
    rw [show its.toArray.any (eqU x) = its.any (eqU x) by simp, any_eqU r fs]
    exact q
theorem call_len_seq : CallR X (.builtin "len") (fun xs H Q => ∃ p ys, xs = [.ref p] ∧ (SqL X.K H p ys ∨ SqT X.K H p ys) ∧ Q (.int ys.length) H) := by
  intro pins s σ H xs us Q I r h
  obtain ⟨p, ys, rfl, hq, q⟩ := h
  obtain ⟨u, rfl, rx⟩ := vals1 r
  cases rx
  have hn := line63
  rcases hq with hq | hq
  · obtain ⟨its, r', pl, hz⟩ := I.list hq
    have hlen := r'.length
    exact Calls.call_len_list pl.isList (by simp only [List.size_toArray] <;> omega) ⟨.int ys.length, H, I.tok _, ⟨s.toks + 1, by rw [List.size_toArray, hlen]⟩, q⟩
  · obtain ⟨its, r', pl, hz⟩ := I.tuple hq
    have hlen := r'.length
    exact len_tuple pl (by simp only [List.size_toArray] <;> omega) ⟨.int ys.length, H, I.tok _, ⟨s.toks + 1, by rw [List.size_toArray, hlen]⟩, q⟩
theorem call_len_str : CallR X (.builtin "len") (fun xs H Q => ∃ z, xs = [.str z] ∧ z.length ≤ sizeLine ∧ Q (.int z.length) H) := by
  intro pins s σ H xs us Q I r h
  obtain ⟨z, rfl, hz, q⟩ := h
  obtain ⟨u, rfl, t, rfl⟩ := vals1 r
  have hn := line63
  exact len_str (by omega) ⟨.int z.length, H, I.tok _, ⟨_, rfl⟩, q⟩
theorem call_tuple_of : CallR X (.type "tuple") (fun xs H Q => ∃ p ys, xs = [.ref p] ∧ ((SqL X.K H p ys ∧ ∀ l, H l = none → Q (.ref l) (upd H l (.tup ys))) ∨ (SqT X.K H p ys ∧ Q (.ref p) H))) := by
  intro pins s σ H xs us Q I r h
  obtain ⟨p, ys, rfl, h⟩ := h
  obtain ⟨u, rfl, rx⟩ := vals1 r
  cases rx
  rcases h with ⟨hq, q⟩ | ⟨hq, q⟩
  · obtain ⟨its, r', pl, hz⟩ := I.list hq
    have hlen := r'.length
    refine call_tuple_list pl.isList (fun h' kp => ?_) (by simp only [List.size_toArray] <;> omega)
    have I1 : Inv X pins σ H { s with heap := h' } := I.kept (t' := s.toks) kp
    have I2 : Inv X pins σ (upd H h'.objs.size (.tup ys)) { s with heap := h'.push { cls := .type "tuple", data := .seq its.toArray } } :=
      I1.laid (t' := s.toks) (fun b o e => Heap.get?_push_of_some _ e) (Nat.le_refl _) (show ObjOk X.prog X.w _ _ _ (.tup ys) from ⟨hz, its, r', IsTupN.new _ _⟩)
    exact ⟨.ref h'.objs.size, _, I2, rfl, q _ (I1.hok.fresh (Nat.le_refl _))⟩
  · obtain ⟨its, r', pl, hz⟩ := I.tuple hq
    exact call_tuple_same pl ⟨.ref p, H, I, rfl, q⟩
def tyV (K : PySem.W.Frag) (T : String) (x : V) (H : Hp) : Prop := match x with
  | .str _ => T = "str"
  | .int _ => T = "int"
  | .ref p => (T = "list" ∧ ∃ xs, SqL K H p xs) ∨ (T = "tuple" ∧ ∃ o, K.lookup p = some o ∧ o.cls = .type "tuple" ∧ o.dict = none) ∨
      (T = "dict" ∧ ((∃ kvs, H p = some (.dK kvs)) ∨ ∃ kvs, H p = some (.dT kvs))) ∨ (T = "set" ∧ ∃ S n, H p = some (.set S n))
  | _ => False
theorem tyV_is {pins : List (Addr × Obj)} {σ : St} {H : Hp} {s : Shared} {T : String} {x : V} {v : Value} (I : Inv X pins σ H s) (r : RelV x v) (ty : tyV X.K T x H) :
    s.TypeIs v T ∧ ∀ a, v = .ref a → ∃ ob, s.heap.get? a = some ob ∧ ob.dict = none := by
  cases x with
  | str z =>
    obtain ⟨t, rfl⟩ := r
    cases (show T = "str" from ty)
    exact ⟨typeIs_str s z t, fun _ e => nomatch e⟩
  | int i =>
    obtain ⟨t, rfl⟩ := r
    cases (show T = "int" from ty)
    exact ⟨typeIs_int s i t, fun _ e => nomatch e⟩
  | ref p =>
    cases r
    rcases ty with ⟨rfl, xs, hq⟩ | ⟨rfl, o, hk, hc, hd⟩ | ⟨rfl, hk⟩ | ⟨rfl, S, n, hk⟩
    · obtain ⟨its, _, pl, _⟩ := I.list hq
      refine ⟨pl.isList.typeIs, fun a e => ?_⟩
      cases e
      obtain ⟨o, n, e, c, hd, _⟩ := pl
      exact ⟨o, e, hd⟩
    · refine ⟨⟨o, I.kIn p o hk, hc⟩, fun a e => ?_⟩
      cases e
      exact ⟨o, I.kIn _ o hk, hd⟩
    · have z : ∃ o, s.heap.get? p = some o ∧ o.ExactDict := by
        rcases hk with ⟨kvs, hk⟩ | ⟨kvs, hk⟩
        · obtain ⟨_, _, _, _, o, _, _, e, ex, _⟩ := I.hok p _ hk
          exact ⟨o, e, ex⟩
        · obtain ⟨_, _, _, _, o, _, _, e, ex, _⟩ := I.hok p _ hk
          exact ⟨o, e, ex⟩
      obtain ⟨o, e, ex⟩ := z
      refine ⟨⟨o, e, ex.1⟩, fun a e2 => ?_⟩
      cases e2
      exact ⟨o, e, ex.2.1⟩
    · obtain ⟨o, _, _, _, e, ex, _⟩ := I.hok p _ hk
      refine ⟨⟨o, e, ex.1⟩, fun a e2 => ?_⟩
      cases e2
      exact ⟨o, e, ex.2.1⟩
  | _ => exact False.elim ty
def tBM0 (K : PySem.W.Frag) (T : String) (r : V → List V → Hp → VK → Prop) (to : TE) : TE := fun σ H Q => to σ H fun x H1 => tyV K T x H1 ∧ r x [] H1 Q
def tBM (K : PySem.W.Frag) (T : String) (r : V → List V → Hp → VK → Prop) (to : TE) (t : TA) : TE := fun σ H Q => to σ H fun x H1 => tyV K T x H1 ∧ t σ H1 fun xs H2 => r x xs H2 Q
variable {o e : Expr} {es : List Expr} {to : TE} {t : TA} {name : Str} {apos cpos : Pos} {T id : String} {r : V → List V → Hp → VK → Prop}
theorem pe_bm0 (pa : PlainAttrs T) (slot : Slot T name id) (hty : typeOf (.builtin id) = pure (.type "method_descriptor")) (hm : MtR X id r) (ho : PE X o to)
    (hbase : attributeBase o name X.env (eval o X.env) = eval o X.env := by rfl) (hline : (apos.endLine == cpos.line) = true := by rfl) : PE X (.Call (.Attribute o name apos) [] [] cpos) (tBM0 X.K T r to) := by
  intro pins s σ H Q I h
  refine wpAny_Call_method0_late hbase hline (thn (ho pins s σ H _ I h) fun v s1 ⟨x, H1, I1, r1, ty, q1⟩ => ?_)
  obtain ⟨h1, h2⟩ := tyV_is I1 r1 ty
  exact ⟨T, id, pa, slot, hty, h1, h2, Calls.callWith_builtin rfl (PySem.evalArgs_none (hm pins s1 σ H1 x [] v [] Q I1 r1 .nil q1))⟩
theorem pe_bm (pa : PlainAttrs T) (slot : Slot T name id) (hty : typeOf (.builtin id) = pure (.type "method_descriptor")) (hm : MtR X id r) (ho : PE X o to) (ha : PA X (e :: es) t)
    (hbase : attributeBase o name X.env (eval o X.env) = eval o X.env := by rfl)
    (hfew : ((backTo cpos (starEach (e :: es) X.env)).all (fun x => !x.1) && (backToKw cpos (keywordEach [] X.env)).all (fun x => x.1.isSome)
      && decide ((e :: es).length + ([] : List Keyword).length + (if ([] : List Keyword).isEmpty then 0 else 1) < 30)) = true := by rfl)
    (hline : (apos.endLine == cpos.line) = true := by rfl) (hs : starEach (e :: es) X.env = (false, eval e X.env) :: starEach es X.env := by rfl) (hplain : (backTo cpos (starEach es X.env)).any (·.1) = false := by rfl) :
    PE X (.Call (.Attribute o name apos) (e :: es) [] cpos) (tBM X.K T r to t) := by
  intro pins s σ H Q I h
  refine wpAny_Call_method_late hbase hfew hline rfl (thn (ho pins s σ H _ I h) fun v s1 ⟨x, H1, I1, r1, ty, q1⟩ => ?_)
  obtain ⟨h1, h2⟩ := tyV_is I1 r1 ty
  refine ⟨T, id, pa, slot, hty, h1, h2, ?_⟩
  have hA := ha cpos pins s1 σ H1 _ I1 q1
  rw [hs] at hA ⊢
  refine Calls.callWith_builtin (by show (false || (backTo cpos (starEach es X.env)).any (·.1)) = false; rw [hplain] <;> rfl) (Calls.evalArgs_plain ?_)
  exact thn hA fun us s2 ⟨vs, H2, I2, r2, q2⟩ => hm pins s2 σ H2 x vs v us Q I2 r1 r2 q2
end
end L2
namespace L2
open PySem PySem.Spec PyProof.Rows
def MtM (X : Cx) (id : String) (r : V → List V → Hp → VK → Prop) : Prop :=
  ∀ (pins : List (Addr × Obj)) (s : Shared) (σ : St) (H : Hp) (x : V) (xs : List V) (v : Value) (us : List Value) (Q : VK), Inv X pins σ H s → RelV x v → Vals xs us → r x xs H Q →
    wpAny (model X.prog X.w) X.A (call (.builtin id) (v :: us)) (EP X pins σ Q) X.xe s
theorem Vals.one : ∀ {x : V} {us : List Value}, Vals [x] us → ∃ u, us = [u] ∧ RelV x u
  | _, _, .cons r .nil => ⟨_, rfl, r⟩
theorem Vals.zero : ∀ {us : List Value}, Vals [] us → us = []
  | _, .nil => rfl
theorem Vals.rep {xs : List V} {us : List Value} (h : Vals xs us) : ∀ k : Nat, Vals (List.replicate k xs).flatten (List.replicate k us).flatten
  | 0 => .nil
  | k + 1 => by
    rw [List.replicate_succ, List.replicate_succ, List.flatten_cons, List.flatten_cons]
    exact Vals.append h (Vals.rep h k)
theorem foldl_rep (its : List Value) : ∀ (k : Nat) (acc : List Value),
    List.foldl (fun x1 x2 => x1 ++ x2) acc.toArray (List.replicate k its.toArray) = (acc ++ (List.replicate k its).flatten).toArray
  | 0, acc => by simp
  | k + 1, acc => by
    have e : acc.toArray ++ its.toArray = (acc ++ its).toArray := by simp
    have e2 : (acc ++ its) ++ (List.replicate k its).flatten = acc ++ (List.replicate (k + 1) its).flatten := by
      rw [List.replicate_succ, List.flatten_cons, List.append_assoc]
    rw [← e2, ← foldl_rep its k (acc ++ its), ← e, List.replicate_succ, List.foldl_cons]
section
variable {X : Cx} {pins : List (Addr × Obj)} {σ : St} {H : Hp} {s : Shared} {l b : Addr} {xs ys zs : List V}
theorem Inv.lset {its its' : List Value} {n : Nat} {f : Array Value → Array Value} {t' : Nat} (I : Inv X pins σ H s) (hH : H l = some (.lst xs))
    (e : s.heap.get? l = some { cls := .type "list", data := .seq its.toArray n }) (hf : f its.toArray = its'.toArray) (hv : Vals ys its') (hz : ys.length ≤ sizeLine) :
    Inv X pins σ (upd H l (.lst ys)) { s with heap := s.heap.update l (Obj.mapSeq f), toks := t' } := by
  have q := PySem.IsL.update e f
  rw [hf] at q
  refine I.write (x := l) (e := l) (by rw [hH]; exact trivial) (.inl rfl) (fun b' u hb hu => (Heap.get?_update_other s.heap (Obj.mapSeq f) (Ne.symm hb)).trans hu) ⟨_, q⟩ ?_
  exact ⟨hz, its', _, hv, q⟩
theorem Inv.lnew {its : List Value} {t' : Nat} (I : Inv X pins σ H s) (hv : Vals ys its) (hz : ys.length ≤ sizeLine) :
    Inv X pins σ (upd H s.heap.objs.size (.lst ys)) { s with heap := s.heap.push { cls := .type "list", data := .seq its.toArray }, toks := t' } :=
  I.laid (fun _ _ q => Heap.get?_push_of_some _ q) (Nat.le_refl _) ⟨hz, its, 0, hv, Heap.get?_push_size _ rfl⟩
theorem Inv.fresh (I : Inv X pins σ H s) : H s.heap.objs.size = none := I.hok.fresh (Nat.le_refl _)
theorem Inv.lstM (I : Inv X pins σ H s) (hH : H l = some (.lst xs)) : xs.length ≤ sizeLine ∧ ∃ (its : List Value) (n : Nat), Vals xs its ∧ xs.length = its.length ∧ s.heap.get? l = some { cls := .type "list", data := .seq its.toArray n } := by
  obtain ⟨z, its, n, r, e⟩ := I.hok l _ hH
  exact ⟨z, its, n, r, r.length, e⟩
theorem notLongL {n : Nat} (h : n ≤ sizeLine) : Builtin.List.listTooLong n = false := by
  unfold Builtin.List.listTooLong
  exact decide_eq_false (by omega)
end
section
variable {X : Cx}
def rAppend : V → List V → Hp → VK → Prop := fun x vs H Q => ∃ l xs y, x = .ref l ∧ vs = [y] ∧ H l = some (.lst xs) ∧ xs.length < sizeLine ∧ Q .non (upd H l (.lst (xs ++ [y])))
theorem mt_append : MtM X "list.append" rAppend := by
  intro pins s σ H x vs v us Q I rx rv h
  obtain ⟨l, xs, y, rfl, rfl, hH, hz, q⟩ := h
  cases rx
  obtain ⟨u, rfl, ru⟩ := rv.one
  obtain ⟨z, its, n, r, hl, e⟩ := I.lstM hH
  refine call_meets F.slot_list_append ⟨_, e, rfl⟩ F.entry_list_append (F.args_list_append_2 _ _) (PySem.list_append l its.toArray n u (by rw [List.size_toArray]; omega)) ⟨e, ?_⟩
  refine ⟨.non, _, I.lset (its' := its ++ [u]) hH e (by simp) (r.append (.cons ru .nil)) ?_, rfl, q⟩
  rw [List.length_append, List.length_singleton]
  omega
def rClear : V → List V → Hp → VK → Prop := fun x vs H Q => ∃ l xs, x = .ref l ∧ vs = [] ∧ H l = some (.lst xs) ∧ Q .non (upd H l (.lst []))
theorem mt_clear : MtM X "list.clear" rClear := by
  intro pins s σ H x vs v us Q I rx rv h
  obtain ⟨l, xs, rfl, rfl, hH, q⟩ := h
  cases rx
  have hus := rv.zero
  subst hus
  obtain ⟨z, its, n, r, hl, e⟩ := I.lstM hH
  refine call_meets F.slot_list_clear ⟨_, e, rfl⟩ F.entry_list_clear (F.args_list_clear_1 _) (AutoSeq1.list_clear_list_0 l its.toArray n (by rw [List.size_toArray]; omega)) ⟨e, ?_⟩
  exact ⟨.non, _, I.lset (its' := []) (ys := []) hH e rfl .nil (Nat.zero_le _), rfl, q⟩
def rCat : R2 := fun x y H Q => ∃ l b xs zs, x = .ref l ∧ y = .ref b ∧ H l = some (.lst xs) ∧ H b = some (.lst zs) ∧ xs.length + zs.length ≤ sizeLine ∧ ∀ p, H p = none → Q (.ref p) (upd H p (.lst (xs ++ zs)))
theorem op_cat : OpR X (binaryOp .Add) rCat := by
  intro pins s σ H x y v u Q I rx ry h
  obtain ⟨l, b, xs, zs, rfl, rfl, hH, hB, hz, q⟩ := h
  cases rx
  cases ry
  obtain ⟨z, its, n, r, hl, e⟩ := I.lstM hH
  obtain ⟨z2, its2, n2, r2, hl2, e2⟩ := I.lstM hB
  refine PySem.P.add_list e e2 ?_ (by rw [List.size_toArray, List.size_toArray]; omega)
  have ea : its.toArray ++ its2.toArray = (its ++ its2).toArray := by simp
  rw [ea]
  exact ⟨.ref _, _, I.lnew (t' := s.toks) (r.append r2) (by rw [List.length_append]; omega), rfl, q _ I.fresh⟩
def rRep : R2 := fun x y H Q => ∃ l k xs, x = .ref l ∧ y = .int k ∧ H l = some (.lst xs) ∧ -(2 ^ 63) ≤ k ∧ k < 2 ^ 63 ∧ xs.length * k.toNat ≤ sizeLine ∧
  ∀ p, H p = none → Q (.ref p) (upd H p (.lst (List.replicate k.toNat xs).flatten))
theorem len_rep {α : Type} (xs : List α) (k : Nat) : (List.replicate k xs).flatten.length = k * xs.length := by
  induction k with
  | zero => simp
  | succ k ih => rw [List.replicate_succ, List.flatten_cons, List.length_append, ih, Nat.succ_mul, Nat.add_comm]
theorem op_rep : OpR X (binaryOp .Mult) rRep := by
  intro pins s σ H x y v u Q I rx ry h
  obtain ⟨l, k, xs, rfl, rfl, hH, h1, h2, hz, q⟩ := h
  cases rx
  obtain ⟨t, rfl⟩ := ry
  obtain ⟨z, its, n, r, hl, e⟩ := I.lstM hH
  have hlen : its.toArray.size * k.toNat ≤ sizeLine := by rw [List.size_toArray, ← hl]; exact hz
  have hcap : ¬ its.toArray.size * k.toNat > (2 ^ 63 - 1) / 8 := by
    have : (sizeLine : Nat) ≤ (2 ^ 63 - 1) / 8 := by decide
    omega
  have hfit : ¬ (!Builtin.List.listFitsIndex k) = true := by
    rw [fitsIndex_both h1 h2]
    exact Bool.false_ne_true
  have hlong : ¬ Builtin.List.listTooLong (its.toArray.size * k.toNat) = true := by
    rw [notLongL hlen]
    exact Bool.false_ne_true
  have hnew : List.foldl (fun x1 x2 => x1 ++ x2) #[] (List.replicate (if its.toArray.isEmpty = true then 0 else k.toNat) its.toArray) = (List.replicate k.toNat its).flatten.toArray := by
    have f0 : ∀ m : Nat, List.foldl (fun x1 x2 => x1 ++ x2) #[] (List.replicate m its.toArray) = (List.replicate m its).flatten.toArray := fun m => by
      have := foldl_rep its m []
      rw [List.nil_append] at this
      exact this
    rw [f0]
    cases its with
    | nil => simp
    | cons a r' => rw [if_neg (by simp)]
  refine wpAny_binaryOp_repeat_ref (T := "list") (U := "int") (by decide) ⟨_, e, rfl⟩ (fun s' => typeIs_int s' k t) noFill_list_mul F.fills_int_mul F.slot_int_rmul repeat_list F.slot_int_index.lookup
    (call_meets F.slot_int_rmul (typeIs_int s k t) F.entry_int_rmul (F.args_int_rmul_2 _ _) (int___rmul___int_list k t l its.toArray n)
      ⟨e, rfl, ⟨_, e, rfl⟩, call_meets F.slot_list_mul ⟨_, e, rfl⟩ F.entry_list_mul (F.args_list_mul_2 _ _) (AutoListH.list___mul___list_int_3 l its.toArray n k t hfit hcap hlong) ⟨e, ?_⟩⟩)
  rw [hnew]
  exact ⟨.ref _, _, I.lnew (t' := s.toks) (r.rep k.toNat) (by rw [len_rep, Nat.mul_comm]; exact hz), rfl, q _ I.fresh⟩
end
section
variable {prog : Program} {w : World} {A : Around} {E : Value → Shared → Prop} {s : Shared}
set_option maxRecDepth 100000 in
end
section
variable {X : Cx}
end
end L2
namespace Att
open PySem PySem.W PySem.Calls PyProof.Rows
theorem ints_of_wellAll {P : Params} {h : Heap} : ∀ (ns : List Int) (vs : List Value), WellAll P h vs (ns.map WData.int) → IntsAre vs ns := by
  intro ns
  induction ns with
  | nil =>
    intro vs w
    rw [List.map_nil] at w
    cases w
    exact .nil
  | cons n ns ih =>
    intro vs w
    rw [List.map_cons] at w
    cases w with
    | cons a b =>
      cases a
      exact .cons _ _ (ih _ b)
theorem script_of {l : OpenLaw} {n : Nat} (hn : l.most = some n) {P : Params} {h : Heap} {args : List WData} {vals : List Value}
    (hpre : l.row.toRowW.claim.pre args = true) (hwl : WellAll P h vals args) :
    ∃ a vs ns, vals = [Value.ref a] ∧ args = [WData.list (ns.map WData.int)] ∧ h.get? a = some { cls := .type "list", data := .seq vs.toArray } ∧ IntsAre vs ns ∧ ns.length ≤ n := by
  have hsh : WShape.hasAll [] args [.list .int] = true := (pre_splitW hpre).1
  have hc : l.pre.holds [] { args := args } = true := (pre_splitW hpre).2
  obtain ⟨d, r, rfl, h1, h2⟩ := hasAllW_cons hsh
  obtain rfl := hasAllW_nil h2
  obtain ⟨xs, rfl, h3⟩ := hasW_list h1
  obtain ⟨ns, rfl⟩ := items_int h3
  have hlen : ns.length ≤ n := by
    unfold OpenLaw.pre at hc
    have h4 : (WTm.not (.lt (.lit (.int (n : Int))) (.len (.arg 0)))).holds [] { args := [.list (ns.map .int)] } = true := by
      have h4 := (holds_andW hc).1
      rw [hn] at h4
      exact h4
    have h5 := condW_of h4 (w_not (w_lt w_lit (w_len_list (w_arg rfl))))
    rw [List.length_map] at h5
    refine Nat.le_of_not_lt fun q => ?_
    have q' : (n : Int) < ((ns.length : Nat) : Int) := by omega
    first
      | (rw [decide_eq_true q'] at h5; exact absurd h5 (by decide))
      | (simp at h5; omega)
  cases hwl with
  | cons w1 w2 =>
    cases w2
    cases w1 with
    | list ho hall => exact ⟨_, _, ns, rfl, rfl, ho, ints_of_wellAll ns _ hall, hlen⟩
theorem post_true (l : OpenLaw) (args : List WData) : l.row.toRowW.claim.post args (.bool true) args = true :=
  postW_of (r := l.row.toRowW) (X := (true == true))
    (show WShape.has [] (.bool true) .bool = true by first | rfl | decide | simp [WShape.has, WShape.arms, WShape.armsAll])
    (show (WTm.eq .res (.lit (.bool true))).value [] { args := args, res := some (.bool true), after := args } = some (.bool (true == true)) from w_eq_bool (w_res rfl) w_lit) rfl
theorem attach_call {l : OpenLaw} {n : Nat} {q : Program} {loose : List Str} {XP : (Str → Option Value) → Heap → Prop} {YP : World → Heap → Prop} {d : DefRec}
    (hn : l.most = some n) (hdf : d.params.defaults = [])
    (call : ∀ (w : World) (s₀ s₁ : Shared) (mg mb : Str → Option Value) (fa : Addr) (o : Obj) (pm cd doc : Value) (a : Addr) (vs : List Value) (ns : List Int),
      Ground q loose [] XP w s₀ mg mb s₁.heap → YP w s₁.heap →
      s₁.heap.get? fa = some o → o.data = .func (docDef d.name d.params d.body d.scope pm cd doc) → s₁.heap.CodeRec cd d.name → mg d.name = some (.ref fa) →
      s₁.heap.get? a = some { cls := .type "list", data := .seq vs.toArray } → IntsAre vs ns → ns.length ≤ n → s₁.gens = #[] →
      codeAny (model l.prog w) callerA (.call (.ref fa) ⟨[.ref a], []⟩) (fun r s' => r = .ok (.ret (.bool true)) ∧ OldK s₁.heap s'.heap ∧ s'.os = s₁.os ∧ AllBare s'.gens) s₁) :
    WalkO q loose XP YP l.row.toRowW d [] (fun f vs => PySem.call f vs) := by
  intro w s₀ s₁ mg mb G Y fa o pm cd doc dV kV ho hd hcd hD hmg hg args vals as hpre hlay hrd hwl hlo
  obtain rfl : dV = .none := Dflts.none hD hdf
  obtain rfl : kV = .none := Dflts.noKw hD
  obtain ⟨a, vs, ns, rfl, rfl, hobj, hints, hlen⟩ := script_of hn hpre hwl
  refine enter_call (codeAny_mono (call w s₀ s₁ mg mb fa o pm cd doc a vs ns G Y ho (fd_plain hd) hcd hmg hobj hints hlen hg) fun r s' hq => ?_)
  obtain ⟨rfl, h2, h3, h4⟩ := hq
  exact ⟨.inl ⟨.bool true, .bool true, [], rfl, fun _ => rfl, .bool true, post_true l _, fun _ => ⟨List.Pairwise.nil, fun _ hm => (nomatch hm)⟩⟩, h2, h3, h4⟩
section
variable {prog : Program} {w : World} {A : Around} {E : Value → Shared → Prop} {s : Shared} {K : Frag}
end
end Att
namespace L2
open PySem PySem.Spec PyProof.Rows
theorem vals_ints : ∀ {vs : List Value} {ns : List Int}, IntsAre vs ns → Vals (ns.map V.int) vs
  | _, _, .nil => .nil
  | _, _, .cons n t h => .cons ⟨t, rfl⟩ (vals_ints h)
def Only (H : Hp) : Prop := ∀ b, H b = none ∨ ∃ o xs, H b = some (.frz o (.lst xs))
theorem law_call {P : Program} {w : World} {K : PySem.W.Frag} {mg mb : Str → Option Value} {CX : CXT} {k : Nat} {fa a : Addr} {fd : FuncData} {x : Str} {sp : Sp} {s₁ : Shared} {vs : List Value} {ns : List Int}
    (KX : K.In s₁.heap) (hns : s₁.heap.Ns mainGlobals mg) (hb : s₁.heap.Ns builtinsNs mb) (hbb : ∀ x : Str, x ≠ "__name__" → mb x = bootBuiltins x) (hlim : s₁.heap.NoLimit) (hg : s₁.gens = #[])
    (ha : s₁.heap.get? a = some { cls := .type "list", data := .seq vs.toArray }) (hi : IntsAre vs ns) (hl : ns.length ≤ sizeLine) (hr : Room k callerA)
    (F : ∀ base : Heap, K.In base → base.Ns mainGlobals mg → FnOk P w K mg base CX k fa fd [x] sp) (hbind : ∀ (s : Shared) (u : Value), BindsTo s fd ⟨[u], []⟩ [(x, u)])
    (hsp : ∀ H : Hp, Only H → SqL K H a (ns.map V.int) → sp [.ref a] H (fun v _ => v = .bl true) fun _ _ _ => False)
    (hCX : ∀ H e s', CX [] H s₁ (fun _ _ _ => False) e s' → False) :
    codeAny (model P w) callerA (.call (.ref fa) ⟨[.ref a], []⟩) (fun r s' => r = .ok (.ret (.bool true)) ∧ OldK s₁.heap s'.heap ∧ s'.os = s₁.os ∧ AllBare s'.gens) s₁ := by
  have rv := vals_ints hi
  have lenV := hi.length
  -- from an abstract heap in which nothing but the script may be tracked
  have core : ∀ H : Hp, Only H → SqL K H a (ns.map V.int) → HOk P w H s₁.heap → (∀ b, H b ≠ none → b = a) → (H a ≠ none → K.lookup a = none) →
      codeAny (model P w) callerA (.call (.ref fa) ⟨[.ref a], []⟩) (fun r s' => r = .ok (.ret (.bool true)) ∧ OldK s₁.heap s'.heap ∧ s'.os = s₁.os ∧ AllBare s'.gens) s₁ := by
    intro H hO hS hok hA hK
    have base_of : ∀ {b : Addr} {o : Obj}, s₁.heap.get? b = some o → H b = none → (hidT s₁.heap H).get? b = some o := fun e n => hidT_get e n
    have noA : ∀ {b : Addr} {o : Obj} {es : Array DictEntry} {ep : Nat}, s₁.heap.get? b = some o → o.data = .dict es ep → H b = none := fun {b o es ep} e d => by
      cases q : H b with
      | none => rfl
      | some u =>
        have e' : b = a := hA b (by rw [q]; simp)
        subst e'
        rw [ha] at e; cases e
        have d' : Data.seq vs.toArray _ = Data.dict es ep := d
        cases d'
    have nsK : ∀ {b : Addr} {m : Str → Option Value}, s₁.heap.Ns b m → (hidT s₁.heap H).Ns b m := fun {b m} ⟨o, es, ep, e, d, r⟩ => ⟨o, es, ep, base_of e (noA e d), d, r⟩
    have hKb : K.In (hidT s₁.heap H) := fun b o e => base_of (KX b o e) (by
      cases q : H b with
      | none => rfl
      | some u =>
        have e' : b = a := hA b (by rw [q]; simp)
        subst e'
        rw [hK (by rw [q]; simp)] at e; cases e)
    have hM : Mod K mg (hidT s₁.heap H) := ⟨hKb, nsK hns, ⟨mb, nsK hb, hbb⟩, let ⟨mc, h1, h2⟩ := hlim; ⟨mc, nsK h1, h2⟩⟩
    have e0 : Env0 P w K mg (hidT s₁.heap H) callerA [] s₁ H := ⟨rfl, hM, fun b o e => of_hidT e, Nat.le_of_eq (hidT_size _ _), trivial, fun b hb => absurd (show b ∈ ([] : List Addr) from hb) (by simp), hok, .of_eq hg⟩
    refine codeAny_mono ((F _ hKb (nsK hns)).run callerA [] s₁ H ⟨[.ref a], []⟩ [.ref a] [.ref a] _ _ hr e0 (hbind s₁ (.ref a)) (.cons rfl .nil) (hsp H hO hS)) fun r s' h => ?_
    cases r with
    | error e => exact (hCX H e s' h).elim
    | ok fl =>
      cases fl with
      | next => exact False.elim h
      | brk => exact False.elim h
      | cont => exact False.elim h
      | ret u =>
        obtain ⟨v, H', os, bare, un, hok', r', q⟩ := h
        have q' : v = .bl true := q
        subst q'
        obtain rfl : u = Value.bool true := r'
        refine ⟨rfl, OldK.of_keep fun b o e => ?_, os, bare⟩
        cases q : H b with
        | none => exact un.keep b o e q (by intro z; exact absurd (show b ∈ ([] : List Addr) from z) (by simp)) (by simp)
        | some u =>
          rcases hO b with z | ⟨ob, xs, z⟩
          · rw [q] at z; cases z
          · have z2 := un.frzs b ob _ z
            obtain ⟨e1, _⟩ := hok b _ z
            obtain ⟨e2, _⟩ := hok' b _ z2
            rw [e] at e1; cases e1
            exact e2
  cases hk : K.lookup a with
  | some o =>
    -- the script is one of the module's own objects
    have e := KX a o hk
    rw [ha] at e
    cases e
    refine core (fun _ => none) (fun _ => .inl rfl) (.inr ⟨_, vs.toArray, _, hk, rfl, rfl, rfl, by rw [List.size_toArray, lenV]; exact hl, by simpa using rv⟩) (fun b u z => by have z' : (none : Option HO) = some u := z; cases z') (fun b z => absurd rfl z) fun z => absurd rfl z
  | none =>
    refine core (fun b => if b = a then some (.frz { cls := .type "list", data := .seq vs.toArray } (.lst (ns.map V.int))) else none) (fun b => ?_) (.inl (.inr ⟨{ cls := .type "list", data := .seq vs.toArray }, if_pos rfl⟩)) (fun b u z => ?_) (fun b z => ?_) fun _ => hk
    · by_cases hb : b = a
      · exact .inr ⟨_, _, if_pos hb⟩
      · exact .inl (if_neg hb)
    · by_cases hb : b = a
      · have z' := (if_pos hb).symm.trans z
        cases z'
        subst hb
        exact ⟨ha, by rw [List.length_map]; exact hl, vs, _, rv, ha⟩
      · have z' := (if_neg hb).symm.trans z
        cases z'
    · by_cases hb : b = a
      · exact hb
      · exact absurd (if_neg hb) z
end L2
namespace L2
open PySem PySem.Spec PyProof.Rows
theorem walk_of {l : PySem.W.OpenLaw} {n k : Nat} {q : Program} {loose : List Str} {XP : (Str → Option Value) → Heap → Prop} {YP : World → Heap → Prop} {d : DefRec} {K : Params → PySem.W.Frag} {CX : World → CXT} {sp : World → Sp} {x : Str}
    (hn : l.most = some n) (hn2 : n ≤ sizeLine) (hdf : d.params.defaults = []) (hr : Room k callerA)
    (hY : ∀ (w : World) (h : Heap), YP w h → (K w.params).In h)
    (F : ∀ (w : World) (mg : Str → Option Value) (fa : Addr) (h : Heap), (K w.params).In h → h.Ns mainGlobals mg → mg d.name = some (.ref fa) →
      ∃ fd : FuncData, (∀ (s : Shared) (u : Value), BindsTo s fd ⟨[u], []⟩ [(x, u)]) ∧
        ∀ base : Heap, (K w.params).In base → base.Ns mainGlobals mg → FnOk l.prog w (K w.params) mg base (CX w) k fa fd [x] (sp w))
    (hsp : ∀ (w : World) (H : Hp) (a : Addr) (ns : List Int), ns.length ≤ n → Only H → SqL (K w.params) H a (ns.map V.int) → sp w [.ref a] H (fun v _ => v = .bl true) fun _ _ _ => False)
    (hCX : ∀ (w : World) (H : Hp) (s : Shared) (e : Value) (s' : Shared), CX w [] H s (fun _ _ _ => False) e s' → False) :
    PySem.W.WalkO q loose XP YP l.row.toRowW d [] (fun f vs => PySem.call f vs) := by
  refine Att.attach_call hn hdf fun w s₀ s₁ mg mb fa o pm cd doc a vs ns G Y ho hd hcd hmg hobj hints hlen hg => ?_
  have KX := hY w _ Y
  obtain ⟨fd, hb, hF⟩ := F w mg fa _ KX G.T.g hmg
  exact law_call KX G.T.g G.T.b G.T.builtins G.T.nolimit hg hobj hints (Nat.le_trans hlen hn2) hr hF hb (fun H hO hS => hsp w H a ns hlen hO hS) fun H e s' => hCX w H s₁ e s'
end L2
namespace L2
open PySem PySem.Spec PyProof.Rows
def inClass (s : Stmt) (j : Nat) : Stmt := match s with
  | .ClassDef _ _ _ body _ _ _ _ _ _ _ => body.getD j (.Pass ⟨0, 0, 0, 0⟩)
  | _ => .Pass ⟨0, 0, 0, 0⟩
def defArgs (s : Stmt) : Arguments := match s with
  | .FunctionDef _ a _ _ _ _ _ _ _ _ => a
  | _ => { posonlyargs := [], args := [], vararg := none, kwonlyargs := [], kw_defaults := [], kwarg := none, defaults := [] }
def defBody (s : Stmt) : List Stmt := match s with
  | .FunctionDef _ _ b _ _ _ _ _ _ _ => b
  | _ => []
def defScope (s : Stmt) : Scope := match s with
  | .FunctionDef _ _ _ _ _ _ sc _ _ _ => sc
  | _ => { kind := .function, names := [], isGenerator := false, isCoroutine := false }
abbrev CX0 : CXT := fun _ _ _ _ _ _ => False
abbrev E0 : XK := fun _ _ _ => False
theorem pass0 {X : Cx} : Passes CX0 X E0 := fun _ _ _ _ _ _ _ h => h.elim
structure Fun (K : PySem.W.Frag) (x qual : Str) (st : Stmt) (f : Addr) (fd : FuncData) : Prop where
  ex : ∃ (oc : Value) (od : Option Addr) (kV doc pm : Value) (an : Option Addr) (cdv ct : Value) (osl : Array (Option Value)),
    fd = PySem.W.fnOf x qual (defArgs st) (defBody st) (defScope st) .none kV doc pm an cdv ct ∧ K.lookup f = some ⟨oc, od, .func fd, osl⟩ ∧ PySem.W.codeIn K cdv qual = true
  kp : PySem.W.keepIn K (.ref f) = true
section
variable {P : Program} {w : World} {K : PySem.W.Frag} {mg : Str → Option Value} {base : Heap}
theorem Fun.ok {x qual : Str} {st : Stmt} {f : Addr} {fd : FuncData} {N ps : List Str} {k : Nat} {sp : Sp} (F : Fun K x qual st f fd) (S : FnScope N ps (defScope st)) (len : ∀ vs H Q E, sp vs H Q E → vs.length = ps.length)
    (hbody : ∀ (cdv : Value) (A : Around) (outer : List Env) (s : Shared) (H : Hp) (vs : List V) (Q : VK) (E : XK), Room k (A.deeper (envOfC qual (defScope st) s.heap.objs.size f cdv)) → sp vs H Q E →
      ∃ t, PSs (cxOf CX0 P w K mg base N qual (defScope st) f cdv A outer s H E).nox (defBody st) t ∧ t { nx := fun _ H' => Q .non H', rt := Q } (start N vs) H) : FnOk P w K mg base CX0 (k + 1) f fd ps sp := by
  obtain ⟨oc, od, kV, doc, pm, an, cdv, ct, osl, rfl, lk, hcd⟩ := F.ex
  refine fn_of lk hcd S len fun A outer s H vs Q E hr hsp => ?_
  obtain ⟨t, h, q⟩ := hbody cdv A outer s H vs Q E hr hsp
  exact ⟨t, h.nox, q⟩
theorem Fun.binds {x qual : Str} {st : Stmt} {f : Addr} {fd : FuncData} {ps : List Str} (F : Fun K x qual st f fd)
    (h : ∀ (kV doc pm : Value) (an : Option Addr) (cdv ct : Value) (us : List Value), us.length = ps.length → bindArgs (PySem.W.fnOf x qual (defArgs st) (defBody st) (defScope st) .none kV doc pm an cdv ct) ⟨us, []⟩ = pure (ps.zip us)) : Binds K fd ps [] := by
  obtain ⟨oc, od, kV, doc, pm, an, cdv, ct, osl, rfl, lk, hcd⟩ := F.ex
  exact .all (h kV doc pm an cdv ct)
theorem fun_mk {x qual : Str} {st : Stmt} {f : Addr} {oc : Value} {od an : Option Addr} {osl : Array (Option Value)} {kV doc pm cdv ct : Value} (l : K.lookup f = some ⟨oc, od, .func (PySem.W.fnOf x qual (defArgs st) (defBody st) (defScope st) .none kV doc pm an cdv ct), osl⟩)
    (c : PySem.W.codeIn K cdv qual = true) (k : PySem.W.keepIn K (.ref f) = true) : Fun K x qual st f (PySem.W.fnOf x qual (defArgs st) (defBody st) (defScope st) .none kV doc pm an cdv ct) := ⟨⟨oc, od, kV, doc, pm, an, cdv, ct, osl, rfl, l, c⟩, k⟩
end
theorem hu_of {A : Around} {k : Nat} (hr : Room k A) : A.units + 1 < cLine := Nat.lt_of_le_of_lt (Nat.add_le_add_left (by decide : 1 ≤ 64) _) hr.units
theorem small1000 {n : Nat} (h : n ≤ 1000) : n < sizeLine := Nat.lt_of_le_of_lt h (by decide)
section
variable {X : Cx}
theorem pv (i : Nat) {x : Str} {pos : Pos} (hN : X.N[i]? = some x := by rfl) (hv : Vis X.env.scope x := by first | exact Or.inl rfl | exact Or.inr (Or.inl rfl) | exact Or.inr (Or.inr rfl)) (hd : (x == ("__debug__" : Str)) = false := by decide)
    (hcd : (x == ("__classdict__" : Str)) = false := by decide) : PE X (.Name x pos) (tVar i) := pe_var hN hv hd hcd
end
theorem iteF {A B : Prop} (h : B) : if false = true then A else B := by
  rw [if_neg Bool.false_ne_true]
  exact h
theorem iteT {A B : Prop} (h : A) : if true = true then A else B := by
  rw [if_pos rfl]
  exact h
theorem ite2 {c A B : Prop} [Decidable c] (h1 : c → A) (h2 : ¬ c → B) : if c then A else B := by
  by_cases h : c
  · rw [if_pos h]
    exact h1 h
  · rw [if_neg h]
    exact h2 h
theorem iteNS {c A B : Prop} [Decidable c] (hc : c) (h : B) : if (!decide c) = true then A else B := by
  rw [decide_eq_true hc]
  exact iteF h
def Same (H H' : Hp) : Prop := ∀ b o, H b = some o → H' b = some o
theorem Same.refl (H : Hp) : Same H H := fun _ _ h => h
theorem Same.trans {H H1 H2 : Hp} (a : Same H H1) (b : Same H1 H2) : Same H H2 := fun c o h => b c o (a c o h)
theorem Same.free {H H' : Hp} (e : Same H H') {l : Addr} (h : H' l = Option.none) : H l = Option.none := by
  cases q : H l with
  | none => rfl
  | some o =>
    rw [e l o q] at h
    cases h
theorem Same.seq {K : PySem.W.Frag} {H H' : Hp} {a : Addr} {xs : List V} (e : Same H H') (h : SqL K H a xs) : SqL K H' a xs := by
  rcases h with (h | ⟨o, h⟩) | h
  · exact .inl (.inl (e _ _ h))
  · exact .inl (.inr ⟨o, e _ _ h⟩)
  · exact .inr h
end L2
namespace L2
open PySem PySem.Spec PyProof.Rows
def CellsIn (cells : List (Str × Addr)) : List (Str × Addr) → Prop
  | [] => True
  | p :: r => cells.lookup p.1 = some p.2 ∧ CellsIn cells r
theorem CellsIn.look {cells : List (Str × Addr)} : ∀ {cl : List (Str × Addr)}, CellsIn cells cl → ∀ (x : Str) (c : Addr), cl.lookup x = some c → cells.lookup x = some c
  | [], _, x, c, h => by simp at h
  | (n, a) :: r, hh, x, c, h => by
    rw [List.lookup_cons] at h
    cases e : x == n with
    | true =>
      rw [e] at h
      have e2 : x = n := eq_of_beq e
      have e3 : a = c := Option.some.inj h
      rw [e2, ← e3]
      exact hh.1
    | false =>
      rw [e] at h
      exact CellsIn.look hh.2 x c h
theorem relabel_back {env : Env} : ∀ {names : List (Str × NameKind)} {x : Str} {k : NameKind},
    (names.map fun (n, k) => if (k == NameKind.free && env.scope.kind == .function && env.kindOf n == some .cell) then (n, NameKind.cell) else (n, k)).lookup x = some k →
    ∃ k0, (x, k0) ∈ names ∧ (k = k0 ∨ k0 = .free)
  | [], _, _, h => by simp at h
  | (n, k0) :: r, x, k, h => by
    have h : List.lookup x ((if (k0 == NameKind.free && env.scope.kind == .function && env.kindOf n == some .cell) = true then (n, NameKind.cell) else (n, k0)) :: (r.map fun (n, k) => if (k == NameKind.free && env.scope.kind == .function && env.kindOf n == some .cell) then (n, NameKind.cell) else (n, k))) = some k := h
    by_cases hc : (k0 == NameKind.free && env.scope.kind == .function && env.kindOf n == some .cell) = true
    · rw [if_pos hc, List.lookup_cons] at h
      cases e : x == n with
      | true =>
        have e2 : x = n := eq_of_beq e
        rw [Bool.and_eq_true, Bool.and_eq_true] at hc
        have e3 : k0 = .free := eq_of_beq hc.1.1
        exact ⟨k0, by rw [e2]; exact List.mem_cons_self, .inr e3⟩
      | false =>
        rw [e] at h
        obtain ⟨k1, m, q⟩ := relabel_back (names := r) (x := x) (k := k) h
        exact ⟨k1, List.mem_cons_of_mem _ m, q⟩
    · rw [if_neg hc, List.lookup_cons] at h
      cases e : x == n with
      | true =>
        rw [e] at h
        have e2 : x = n := eq_of_beq e
        have e3 : k0 = k := Option.some.inj h
        exact ⟨k0, by rw [e2]; exact List.mem_cons_self, .inl e3.symm⟩
      | false =>
        rw [e] at h
        obtain ⟨k1, m, q⟩ := relabel_back (names := r) (x := x) (k := k) h
        exact ⟨k1, List.mem_cons_of_mem _ m, q⟩
structure FreeOk (X : Cx) (scope : Scope) (cl : List (Str × Addr)) (y : Str) (j : Nat) : Prop where
  ix : X.N[j]? = some y
  out : X.env.kindOf y = some .cell ∨ X.env.kindOf y = some .free
  inn : (relabel scope X.env).names.lookup y = some .cell ∨ (relabel scope X.env).names.lookup y = some .free
  cl : (cl.lookup y).isSome = true
def FreesOk (X : Cx) (scope : Scope) (cl : List (Str × Addr)) : List (Str × Nat) → Prop
  | [] => True
  | p :: r => FreeOk X scope cl p.1 p.2 ∧ FreesOk X scope cl r
theorem FreesOk.get {X : Cx} {scope : Scope} {cl : List (Str × Addr)} : ∀ {fr : List (Str × Nat)} {k : Nat} {p : Str × Nat}, FreesOk X scope cl fr → fr[k]? = some p → FreeOk X scope cl p.1 p.2
  | [], k, p, _, h => by simp at h
  | q :: r, 0, p, hh, h => by
    have e : q = p := by simpa using h
    rw [← e]
    exact hh.1
  | q :: r, k + 1, p, hh, h => FreesOk.get (fr := r) (k := k) hh.2 (by simpa using h)
structure CompScope (X : Cx) (scope : Scope) (cl : List (Str × Addr)) (x : Str) (fr : List (Str × Nat)) : Prop where
  clos : closureFor scope X.env = pure cl
  sub : CellsIn X.env.cells cl
  kind : scope.kind = .function
  names : ∀ y ∈ scope.names, y.2 = .local → scope.names.lookup y.1 = some .local
  lx : scope.names.lookup x = some .local
  ncell : ∀ y ∈ scope.names, y.2 ≠ .cell
  has : (scope.names.all fun y => !(y.2 == .free) || (cl.lookup y.1).isSome) = true
  frs : FreesOk X scope cl fr
  nd : (x :: fr.map (·.1)).Nodup
def fvals (σ : St) (fr : List (Str × Nat)) : St := fr.map fun p => (σ[p.2]?).join
def cxComp (X : Cx) (x : Str) (fr : List (Str × Nat)) (scope : Scope) (cl : List (Str × Addr)) (C : Addr) (s : Shared) (H : Hp) (fp : List Addr) : Cx where
  prog := X.prog
  w := X.w
  K := X.K
  mg := X.mg
  base := X.base
  A := X.A
  N := x :: fr.map (·.1)
  s₀ := s
  H₀ := H
  env := compEnvC scope cl C X.env
  outer := X.stack
  stack := X.stack
  ex := fp
  fn := fun _ => false
  calm := X.calm
  pn := []
  xe := fun _ _ => False
section
variable {X : Cx} {scope : Scope} {cl : List (Str × Addr)} {x : Str} {fr : List (Str × Nat)} {pins : List (Addr × Obj)} {σ : St} {H : Hp} {s : Shared}
theorem comp_inv (S : CompScope X scope cl x fr) {h₁ : Heap} {C : Addr} {m : Str → Option Value} {fp : List Addr} {tk : Nat} (I : Inv X pins σ H s) (hC : C = s.heap.objs.size) (hf : ∀ b ∈ fp, FpOk X pins H b) (hlt : ∀ b ∈ fp, b < s.heap.objs.size)
    (old : ∀ b o, s.heap.get? b = some o → h₁.get? b = some o) (hn : h₁.Ns C m) : Inv (cxComp X x fr scope cl C s H fp) [] (none :: fvals σ fr) H { s with heap := h₁, toks := tk } := by
  have look := S.sub.look
  refine ⟨⟨I.ok.mod, S.kind, I.ok.glob, I.ok.blt, by show s.heap.objs.size ≤ C; rw [hC]; exact Nat.le_refl _, fun y z c h1 h2 => I.ok.inj y z c (look y c h1) (look z c h2), fun y hy => ?_, fun y c h => ?_, I.ok.hd, I.ok.frames, .inl rfl, fun b hb => ⟨?_, fun y c h => ?_⟩,
      I.bs, Nat.le_trans I.ok.bsz I.sz, fun b o e hb => ?_, fun b hb hb2 => ?_, I.stack, I.stkFree⟩,
    rfl, I.bare, Un.kept old, ⟨m, hn, fun i y v h1 h2 h3 => ?_⟩, fun y c h => ?_, ?_, fun y c h => I.freeC y c (look y c h), fun p hp => absurd (show p ∈ ([] : List (Addr × Obj)) from hp) (by simp), I.hok.kept old, ?_⟩
  · have hy : (relabel scope X.env).names.lookup y = some .cell ∨ (relabel scope X.env).names.lookup y = some .free := hy
    have fin : ∀ {k : NameKind}, (relabel scope X.env).names.lookup y = some k → (k = .cell ∨ k = .free) → ∃ c, cl.lookup y = some c := fun {k} e hk => by
      obtain ⟨k0, hm, q⟩ := relabel_back (env := X.env) e
      have hk0 : k0 = .free := by
        rcases q with q | q
        · rcases hk with z | z
          · exact absurd (q.symm.trans z) (S.ncell _ hm)
          · exact q.symm.trans z
        · exact q
      have hq := List.all_eq_true.mp S.has _ hm
      rw [hk0] at hq
      exact Option.isSome_iff_exists.mp (by simpa using hq)
    rcases hy with e | e
    · exact fin e (.inl rfl)
    · exact fin e (.inr rfl)
  · exact absurd (show false = true from h) Bool.false_ne_true
  · show b ≠ C
    exact fun z => absurd (hlt b hb) (by rw [show b = C from z, hC]; exact Nat.lt_irrefl _)
  · exact (hf b hb).2.2.2.2.1 y c (look y c h)
  · obtain ⟨_, _, _, z, _⟩ := hf b hb
    rcases z with z | z
    · exact I.ok.noex b o e z
    · have h1 := Heap.lt_size e
      have h2 := I.ok.bsz
      exact absurd (Nat.lt_of_lt_of_le h1 (Nat.le_trans h2 z)) (Nat.lt_irrefl _)
  · have z := I.stkSub b hb2
    rcases List.mem_cons.mp z with z | z
    · exact (hf b hb).2.1 z
    · exact (hf b hb).2.2.1 z
  · cases i with
    | zero => exact absurd (show some (none : Option V) = some (some v) from h2) (by simp)
    | succ k =>
      have h1 : (fr.map (·.1))[k]? = some y := h1
      have h2 : (fr.map fun p => (σ[p.2]?).join)[k]? = some (some v) := h2
      rw [List.getElem?_map] at h1 h2
      cases e : fr[k]? with
      | none => rw [e] at h1; cases h1
      | some p =>
        rw [e] at h1 h2
        have e1 : p.1 = y := Option.some.inj h1
        have e2 : (σ[p.2]?).join = some v := Option.some.inj h2
        have F := S.frs.get e
        rw [e1] at F
        have e3 : σ[p.2]? = some (some v) := by
          cases q : σ[p.2]? with
          | none => rw [q] at e2; cases e2
          | some o => rw [q] at e2; exact congrArg some e2
        obtain ⟨m0, _, hl⟩ := I.loc
        have vis : Vis X.env.scope y := by
          rcases F.out with z | z
          · exact .inr (.inl z)
          · exact .inr (.inr z)
        obtain ⟨u, r, l⟩ := hl p.2 y v F.ix e3 vis
        refine ⟨u, r, .inr ⟨F.inn, ?_⟩⟩
        obtain ⟨c, hc⟩ := Option.isSome_iff_exists.mp F.cl
        refine ⟨c, hc, ?_⟩
        rcases l with ⟨k1, _⟩ | ⟨_, c', e', z⟩
        · rcases F.out with q | q
          · rw [q] at k1; cases k1
          · rw [q] at k1; cases k1
        · have e4 := look y c hc
          rw [e'] at e4
          cases e4
          obtain ⟨o, ho, hd⟩ := z
          exact ⟨o, old _ _ ho, hd⟩
  · obtain ⟨v, o, ho, hd⟩ := I.cell y c (look y c h)
    exact ⟨v, o, old _ _ ho, hd⟩
  · show H C = none
    rw [hC]
    exact I.hok.fresh (Nat.le_refl _)
  · show (none :: fvals σ fr).length = (x :: fr.map (·.1)).length
    simp [fvals]
end
section
variable {prog : Program} {w : World} {A : Around} {R : Result → Shared → Prop} {s : Shared}
theorem codeAny_compLoop_go {elt target iter : Expr} {ifs : List Expr} {scope : Scope} {pos : Pos} {it acc : Value} {env : Env} (I : Nat → Shared → Prop)
    (turn : ∀ n s, I n s → wpAny (model prog w) A (pyNext it) (fun r s₁ => match r with
      | none => R (.ok .next) s₁
      | some v => wpAny (model prog w) A (letOwnedTupleGo target it v) (fun _ s₀ => wpAny (model prog w) A (assign target env v) (fun _ s₂ =>
          wpAny (model prog w) A (forIn ifs true fun c r => if r = true then do let ok ← isTrue c env (eval c env); pure (ForInStep.yield ok) else pure (ForInStep.yield r)) (fun ok s₃ =>
            if ok = true then wpAny (model prog w) A (eval elt env) (fun x s₄ =>
              wpAny (model prog w) A (call (.builtin "list.append") [acc, x]) (fun _ s₅ => ∃ m, m < n ∧ I m s₅) (notedBy (model prog w) A env fun e s' => R (.error e) s') s₄) (notedBy (model prog w) A env fun e s' => R (.error e) s') s₃
            else ∃ m, m < n ∧ I m s₃) (notedBy (model prog w) A env fun e s' => R (.error e) s') s₂) (notedBy (model prog w) A env fun e s' => R (.error e) s') s₀) (notedBy (model prog w) A env fun e s' => R (.error e) s') s₁) (notedBy (model prog w) A env fun e s' => R (.error e) s') s)
    (n : Nat) (h : I n s) : codeAny (model prog w) A (.compLoop (.ListComp elt [⟨target, iter, ifs, 0⟩] scope pos) 0 it acc env) R s := by
  refine codeAny_loop rfl I (fun n s hI => ?_) n h
  show wpAny _ A ((compTurn (.ListComp elt [⟨target, iter, ifs, 0⟩] scope pos) 0 it acc env).onRaise (fun x => do noteFrame x env; theTreesLotGoes x)) _ _ s
  refine wpAny_noted ?_
  rw [compTurn_list]
  refine wpAny_bind (wpAny_standAt (wpAny_bind (wpAny_mono (turn n s hI) (fun r s₁ h₁ => ?_) fun _ _ h' => h')))
  cases r with
  | none => exact wpAny_pure h₁
  | some v =>
    refine wpAny_bind (wpAny_mono h₁ (fun _ s₀ h₀ => ?_) fun _ _ h' => h')
    refine wpAny_bind (wpAny_mono h₀ (fun _ s₂ h₂ => wpAny_bind (wpAny_mono h₂ (fun ok s₃ h₃ => ?_) fun _ _ h' => h')) fun _ _ h' => h')
    cases ok with
    | false => exact wpAny_pure ⟨rfl, h₃⟩
    | true =>
      exact wpAny_bind (wpAny_bind (wpAny_mono h₃ (fun x s₄ h₄ => wpAny_bind (wpAny_mono h₄ (fun _ s₅ h₅ => wpAny_pure (wpAny_pure ⟨rfl, h₅⟩)) fun _ _ h' => h')) fun _ _ h' => h'))
end
def PTL (X : Cx) (ifs : List Expr) (t : TT) : Prop :=
  ∀ (pins : List (Addr × Obj)) (s : Shared) (σ : St) (H : Hp) (Q : Bool → Hp → Prop), Inv X pins σ H s → t σ H Q →
    wpAny (model X.prog X.w) X.A (forIn ifs true fun c r => if r = true then do let ok ← isTrue c X.env (eval c X.env); pure (ForInStep.yield ok) else pure (ForInStep.yield r)) (TP X pins σ Q) X.xe s
def tYes : TT := fun _ H Q => Q true H
theorem ptl_nil {X : Cx} : PTL X [] tYes := fun _ _ _ H _ I h => wpAny_tests_nil ⟨H, I, h⟩
def CompW (J : It) (tt : TT) (te : TE) (fv : St) (D : Addr) (H : Hp) (Q : VK) : Prop :=
  ∃ W : Nat → Nat → List V → Hp → Prop, (∃ m, W 0 m [] (upd H D (.lst []))) ∧ ∀ i m ys H, W i m ys H →
    (J.stop i H ∧ Q (.ref D) H) ∨ (J.go i H ∧ ∃ N : List V → Hp → Prop, (∀ ys' H', N ys' H' → ∃ m', m' < m ∧ W (i + 1) m' ys' H') ∧
      ∀ v H', J.yld i H v H' → tt (some v :: fv) H' fun c H1 => if c = true then te (some v :: fv) H1 fun y H3 => H3 D = some (.lst ys) ∧ ys.length < sizeLine ∧ N (ys ++ [y]) (upd H3 D (.lst (ys ++ [y]))) else N ys H1)
section
variable {X : Cx} {elt iter : Expr} {x : Str} {px pos : Pos} {ifs : List Expr} {scope : Scope} {cl : List (Str × Addr)} {fr : List (Str × Nat)} {tt : TT} {te : TE} {pins : List (Addr × Obj)} {σ : St}
theorem comp_core {H2 : Hp} {s2 : Shared} {it : Addr} {fp : List Addr} {tn : Nat → Heap → Prop} {J : It} {Q : VK} {RR : Value → Addr → Result → Shared → Prop} {E : Value → Shared → Prop}
    (hc : X.calm = true) (S : CompScope X scope cl x fr)
    (ht : ∀ C s H fp, PTL (cxComp X x fr scope cl C s H fp) ifs tt) (he : ∀ C s H fp, PE (cxComp X x fr scope cl C s H fp) elt te)
    (I2 : Inv X pins σ H2 s2) (T : Turn X.prog X.w X.K (.Name x px) J fp it tn) (st2 : tn 0 s2.heap) (f2 : ∀ b ∈ fp, FpOk X pins H2 b)
    (hw : ∀ D, H2 D = none → CompW J tt te (fvals σ fr) D H2 Q)
    (hR : ∀ D C s1 H1 m, Inv X pins σ H1 s1 → s1.heap.Ns C m → H1 C = none → C ≠ X.env.locals → X.s₀.heap.objs.size ≤ C → (∀ y c, X.env.cells.lookup y = some c → c ≠ C) → (∀ p ∈ X.pn ++ pins, p.1 ≠ C) → Q (.ref D) H1 → RR (.ref D) C (.ok .next) s1) :
    wpAny (model X.prog X.w) X.A (newList []) (fun acc s₃ => wpAny (model X.prog X.w) X.A (newFunctionEnv scope X.env.globals cl [] X.env.qual none .none (some X.env)) (fun cenv s₄ =>
      codeAny (model X.prog X.w) X.A (.compStart (.ListComp elt [⟨.Name x px, iter, ifs, 0⟩] scope pos) 0 (.ref it) acc { cenv with scope := relabel scope X.env }) (RR acc cenv.locals) s₄) E s₃) E s2 := by
  refine wpAny_newObj_type (wpAny_newFunctionEnv S.ncell (by intro y hy; simp at hy) (fun h₁ hns₁ hsb₁ => ?_) S.kind)
  dsimp only at hns₁ hsb₁ ⊢
  have I3 : Inv X pins σ (upd H2 s2.heap.objs.size (.lst [])) { s2 with heap := s2.heap.push { cls := .type "list", dict := none, data := .seq ([] : List Value).toArray } } :=
    I2.laid (t' := s2.toks) (fun b u e => Heap.get?_push_of_some _ e) (Nat.le_refl _) ⟨Nat.zero_le _, [], 0, .nil, Heap.get?_push_size _ rfl⟩
  have hDn : H2 s2.heap.objs.size = none := I2.hok.fresh (Nat.le_refl _)
  obtain ⟨W, ⟨m0, w0⟩, turn⟩ := hw s2.heap.objs.size hDn
  have oldf : ∀ b ∈ fp, b < s2.heap.objs.size := fun b hb => by
    obtain ⟨o, e, _⟩ := T.obj _ _ st2 b hb
    exact Heap.lt_size e
  generalize hH2 : s2.heap.push { cls := .type "list", dict := none, data := .seq ([] : List Value).toArray } = G2 at hns₁ hsb₁ I3 ⊢
  have hC : G2.objs.size = s2.heap.objs.size + 1 := by rw [← hH2, Heap.size_push]
  have old : ∀ b o, G2.get? b = some o → h₁.get? b = some o := fun b o e => hsb₁.extBut b o (Nat.ne_of_lt (Heap.lt_size e)) (Heap.get?_push_of_some _ e)
  have up : ∀ b o, s2.heap.get? b = some o → G2.get? b = some o := fun b o e => hH2 ▸ Heap.get?_push_of_some _ e
  have f3 : ∀ b ∈ fp, FpOk X pins (upd H2 s2.heap.objs.size (.lst [])) b := fun b hb => by
    have := oldf b hb
    exact ⟨by rw [upd_ne (Nat.ne_of_lt this)]; exact (f2 b hb).1, (f2 b hb).2⟩
  have lt3 : ∀ b ∈ fp, b < G2.objs.size := fun b hb => by
    rw [hC]
    exact Nat.lt_succ_of_lt (oldf b hb)
  have st4 : tn 0 h₁ := T.keep _ _ _ st2 fun b hb o e => old b o (up b o e)
  have I4 : Inv (cxComp X x fr scope cl G2.objs.size { s2 with heap := G2 } (upd H2 s2.heap.objs.size (.lst [])) fp) [] (none :: fvals σ fr) (upd H2 s2.heap.objs.size (.lst [])) { s2 with heap := h₁, toks := s2.toks + ([] : List (Str × Value)).length } :=
    comp_inv (tk := s2.toks + ([] : List (Str × Value)).length) S I3 rfl f3 lt3 old hns₁
  have loop : ∀ s₃ : Shared, s₃ = { s2 with heap := h₁, toks := s2.toks + ([] : List (Str × Value)).length } →
      codeAny (model X.prog X.w) X.A (.compLoop (.ListComp elt [⟨.Name x px, iter, ifs, 0⟩] scope pos) 0 (.ref it) (.ref s2.heap.objs.size) (compEnvC scope cl G2.objs.size X.env)) (RR (.ref s2.heap.objs.size) G2.objs.size) s₃ := by
    rintro s₃ rfl
    refine codeAny_compLoop_go (fun k s' => ∃ i ys H' v0, Inv (cxComp X x fr scope cl G2.objs.size { s2 with heap := G2 } (upd H2 s2.heap.objs.size (.lst [])) fp) [] (v0 :: fvals σ fr) H' s' ∧ tn i s'.heap ∧ (∀ b ∈ fp, H' b = none) ∧ W i k ys H') ?_ m0
      ⟨0, [], _, none, I4, st4, fun b hb => (f3 b hb).1, w0⟩
    rintro n s5 ⟨i, ys, H5, v0, I5, st5, fr5, w5⟩
    have stat : ∀ {H' : Hp}, (∀ b ∈ fp, H' b = none) → ∀ b ∈ fp, FpOk (cxComp X x fr scope cl G2.objs.size { s2 with heap := G2 } (upd H2 s2.heap.objs.size (.lst [])) fp) [] H' b := fun {H'} hn b hb =>
      ⟨hn b hb, (I5.ok.exf b hb).1, I5.ok.exfs b hb, .inl hb, (I5.ok.exf b hb).2, fun p hp => absurd (show p ∈ ([] : List (Addr × Obj)) from hp) (by simp)⟩
    rcases turn i n ys H5 w5 with ⟨stop, qn⟩ | ⟨go, N, hN, step⟩
    · refine thn (T.done (cxComp X x fr scope cl G2.objs.size { s2 with heap := G2 } (upd H2 s2.heap.objs.size (.lst [])) fp) rfl rfl rfl hc i [] s5 _ H5 _ I5 (stat fr5) st5 stop) fun r s6 ⟨hr, I6⟩ => ?_
      subst hr
      obtain ⟨m, hnC, _⟩ := I6.loc
      have I7 : Inv X pins σ H5 s6 := I3.call' (ch := fp) I6.os I6.base I6.hok I6.bare fun b hb => ⟨(f2 b hb).2.2.2.1, (f2 b hb).2.1, (f2 b hb).2.2.2.2.1, (f2 b hb).2.2.2.2.2⟩
      refine hR _ _ s6 H5 m I7 hnC I6.free ?_ ?_ (fun y c e z => ?_) (fun p hp z => ?_) qn
      · exact Nat.ne_of_gt I3.lt
      · exact I3.sz
      · obtain ⟨v, q⟩ := I3.cell y c e
        exact absurd q.lt (by rw [z]; exact Nat.lt_irrefl _)
      · exact absurd (Heap.lt_size (I3.pin p hp).1) (by rw [z]; exact Nat.lt_irrefl _)
    · refine thn (T.item (cxComp X x fr scope cl G2.objs.size { s2 with heap := G2 } (upd H2 s2.heap.objs.size (.lst [])) fp) rfl rfl rfl hc i [] s5 _ H5 _ I5 (stat fr5) st5 go) fun r s6 ⟨u, hr, h6⟩ => ?_
      subst hr
      refine thn h6 fun _ s7 ⟨v, H7, I7, r7, y7, st7, fr7⟩ => ?_
      have I7' := I7.pinned (stat fr7) (T.obj _ _ st7)
      have lxr : (relabel scope X.env).names.lookup x = some .local := lookup_relabel_local S.lx
      refine wpAny_assign_Name (store_ok (X := cxComp X x fr scope cl G2.objs.size { s2 with heap := G2 } (upd H2 s2.heap.objs.size (.lst [])) fp) (i := 0) I7' S.nd rfl (.inl lxr) r7 (fun s8 I8 => ?_) (.inr lxr))
      have I8 : Inv (cxComp X x fr scope cl G2.objs.size { s2 with heap := G2 } (upd H2 s2.heap.objs.size (.lst [])) fp) ([] ++ pinsAt fp s7.heap) (some v :: fvals σ fr) H7 s8 := I8
      have again : ∀ {v1 : Option V} {H9 : Hp} {s9 : Shared} {ys9 : List V}, Inv (cxComp X x fr scope cl G2.objs.size { s2 with heap := G2 } (upd H2 s2.heap.objs.size (.lst [])) fp) ([] ++ pinsAt fp s7.heap) (v1 :: fvals σ fr) H9 s9 → N ys9 H9 →
          ∃ m, m < n ∧ ∃ i ys H' v0, Inv (cxComp X x fr scope cl G2.objs.size { s2 with heap := G2 } (upd H2 s2.heap.objs.size (.lst [])) fp) [] (v0 :: fvals σ fr) H' s9 ∧ tn i s9.heap ∧ (∀ b ∈ fp, H' b = none) ∧ W i m ys H' := fun {v1 H9 s9 ys9} I9 n9 => by
        obtain ⟨m', hm, w9⟩ := hN ys9 H9 n9
        refine ⟨m', hm, i + 1, ys9, H9, v1, I9.unpinned, T.keep _ _ _ st7 fun b hb o e => (I9.pin (b, o) (List.mem_append_right _ (List.mem_append_right _ (mem_pinsAt hb e)))).1, fun b hb => ?_, w9⟩
        obtain ⟨o, e, d⟩ := T.obj _ _ st7 b hb
        exact (I9.pin (b, o) (List.mem_append_right _ (List.mem_append_right _ (mem_pinsAt hb e)))).2.1
      refine wpAny_mono (ht _ _ _ _ _ s8 _ H7 _ I8 (step v H7 y7)) (fun ok s9 ⟨H9, I9, q9⟩ => ?_) fun _ _ z => False.elim z
      cases ok with
      | false =>
        rw [if_neg Bool.false_ne_true]
        rw [if_neg Bool.false_ne_true] at q9
        exact again I9 q9
      | true =>
        rw [if_pos rfl]
        rw [if_pos rfl] at q9
        refine wpAny_mono (he _ _ _ _ _ s9 _ H9 _ I9 q9) (fun u1 s10 ⟨y, H10, I10, r10, hD, hz, n10⟩ => ?_) fun _ _ z => False.elim z
        refine wpAny_mono (mt_append (X := cxComp X x fr scope cl G2.objs.size { s2 with heap := G2 } (upd H2 s2.heap.objs.size (.lst [])) fp) _ s10 _ H10 (.ref s2.heap.objs.size) [y] _ [u1] (fun _ H' => N (ys ++ [y]) H') I10 rfl (.cons r10 .nil) ⟨_, ys, y, rfl, rfl, hD, hz, n10⟩) (fun _ s11 ⟨_, H11, I11, _, q11⟩ => ?_) fun _ _ z => False.elim z
        exact again I11 q11
  exact codeAny_compStart_list (loop _ rfl) (T.self _ 0 _ _ _ st4 (loop _ rfl))
def tComp (wi : TI) (fr : List (Str × Nat)) (tt : TT) (te : TE) : TE := fun σ H Q => wi σ H fun J H1 => ∀ D, H1 D = none → CompW J tt te (fvals σ fr) D H1 Q
theorem pe_comp {wi : TI} (hc : X.calm = true) (S : CompScope X scope cl x fr) (hi : PI X (.Name x px) iter wi)
    (ht : ∀ C s H fp, PTL (cxComp X x fr scope cl C s H fp) ifs tt) (he : ∀ C s H fp, PE (cxComp X x fr scope cl C s H fp) elt te)
    (hs : ∀ x, foldedSetIterable iter X.env x = pure x := by intro _; rfl) : PE X (.ListComp elt [⟨.Name x px, iter, ifs, 0⟩] scope pos) (tComp wi fr tt te) := by
  intro pins s σ H Q I h
  rw [eval_ListComp]
  refine wpAny_comprehension_free (use := none) rfl hs S.clos S.kind S.names (thn (hi pins s σ H _ I h) fun v s1 h1 => thn h1 fun itv s2 h2 => ?_)
  obtain ⟨it, fp, tn, J, H2, e, I2, T, st2, f2, hw⟩ := h2
  subst e
  refine comp_core (Q := Q) (RR := fun acc C => compPost (model X.prog X.w) X.A X.xe none (EP X pins σ Q) acc C) hc S ht he I2 T st2 f2 hw ?_
  intro D C s1 H1 m I1 hn f0 f1 f3 f4 f5 q
  refine ⟨m, hn, fun h' hs' => ?_⟩
  exact ⟨.ref D, H1, I1.turned (t' := s1.toks) (fun b o hb e => hs'.extBut b o hb e) f0 f1 (.inr f3) f4 f5, rfl, q⟩
end
theorem comp_list {K : PySem.W.Frag} {a : Addr} {xs : List V} {tt : TT} {te : TE} {fv : St} {D : Addr} {H : Hp} {Q : VK} (Pv : Nat → List V → Hp → Prop) (h0 : Pv 0 [] (upd H D (.lst []))) (hl : ∀ i ys H, i ≤ xs.length → Pv i ys H → SqL K H a xs)
    (hs : ∀ i v ys H, xs[i]? = some v → Pv i ys H → tt (some v :: fv) H fun c H1 => if c = true then te (some v :: fv) H1 fun y H3 => H3 D = some (.lst ys) ∧ ys.length < sizeLine ∧ Pv (i + 1) (ys ++ [y]) (upd H3 D (.lst (ys ++ [y]))) else Pv (i + 1) ys H1)
    (hd : ∀ ys H, Pv xs.length ys H → Q (.ref D) H) : CompW (Itl K a) tt te fv D H Q := by
  refine ⟨fun i m ys H => m = xs.length - i ∧ i ≤ xs.length ∧ Pv i ys H, ⟨xs.length, by simp, Nat.zero_le _, h0⟩, ?_⟩
  rintro i m ys H ⟨rfl, hi, p⟩
  have q := hl i ys H hi p
  by_cases hlt : i < xs.length
  · refine .inr ⟨⟨xs, xs[i], q, by simp [hlt]⟩, Pv (i + 1), fun ys' H' p' => ⟨xs.length - (i + 1), by omega, rfl, hlt, p'⟩, fun x H' y => ?_⟩
    obtain ⟨e, y⟩ := y
    subst e
    exact hs i x ys _ (y xs q) p
  · have e : i = xs.length := by omega
    subst e
    exact .inl ⟨⟨xs, q, Nat.le_refl _⟩, hd ys H p⟩
theorem comp_tup {K : PySem.W.Frag} {a : Addr} {xs : List V} {tt : TT} {te : TE} {fv : St} {D : Addr} {H : Hp} {Q : VK} (Pv : Nat → List V → Hp → Prop) (h0 : Pv 0 [] (upd H D (.lst []))) (hl : ∀ i ys H, i ≤ xs.length → Pv i ys H → SqT K H a xs)
    (hs : ∀ i v ys H, xs[i]? = some v → Pv i ys H → tt (some v :: fv) H fun c H1 => if c = true then te (some v :: fv) H1 fun y H3 => H3 D = some (.lst ys) ∧ ys.length < sizeLine ∧ Pv (i + 1) (ys ++ [y]) (upd H3 D (.lst (ys ++ [y]))) else Pv (i + 1) ys H1)
    (hd : ∀ ys H, Pv xs.length ys H → Q (.ref D) H) : CompW (Itt K a) tt te fv D H Q := by
  refine ⟨fun i m ys H => m = xs.length - i ∧ i ≤ xs.length ∧ Pv i ys H, ⟨xs.length, by simp, Nat.zero_le _, h0⟩, ?_⟩
  rintro i m ys H ⟨rfl, hi, p⟩
  have q := hl i ys H hi p
  by_cases hlt : i < xs.length
  · refine .inr ⟨⟨xs, xs[i], q, by simp [hlt]⟩, Pv (i + 1), fun ys' H' p' => ⟨xs.length - (i + 1), by omega, rfl, hlt, p'⟩, fun x H' y => ?_⟩
    obtain ⟨e, y⟩ := y
    subst e
    exact hs i x ys _ (y xs q) p
  · have e : i = xs.length := by omega
    subst e
    exact .inl ⟨⟨xs, q, Nat.le_refl _⟩, hd ys H p⟩
theorem comp_range {lo : Int} {n : Nat} {tt : TT} {te : TE} {fv : St} {D : Addr} {H : Hp} {Q : VK} (Pv : Nat → List V → Hp → Prop) (h0 : Pv 0 [] (upd H D (.lst [])))
    (hs : ∀ i ys H, i < n → Pv i ys H → tt (some (.int (lo + i)) :: fv) H fun c H1 => if c = true then te (some (.int (lo + i)) :: fv) H1 fun y H3 => H3 D = some (.lst ys) ∧ ys.length < sizeLine ∧ Pv (i + 1) (ys ++ [y]) (upd H3 D (.lst (ys ++ [y]))) else Pv (i + 1) ys H1)
    (hd : ∀ ys H, Pv n ys H → Q (.ref D) H) : CompW (Itr lo n) tt te fv D H Q := by
  refine ⟨fun i m ys H => m = n - i ∧ i ≤ n ∧ Pv i ys H, ⟨n, by simp, Nat.zero_le _, h0⟩, ?_⟩
  rintro i m ys H ⟨rfl, hi, p⟩
  by_cases hlt : i < n
  · refine .inr ⟨hlt, Pv (i + 1), fun ys' H' p' => ⟨n - (i + 1), by omega, rfl, hlt, p'⟩, fun x H' y => ?_⟩
    obtain ⟨e, y⟩ := y
    subst e y
    exact hs i ys _ hlt p
  · have e : i = n := by omega
    subst e
    exact .inl ⟨Nat.le_refl _, hd ys H p⟩
def iSeq (K : PySem.W.Frag) (tl : TE) : TI := fun σ H R => tl σ H fun x H1 => ∃ a, x = .ref a ∧ ((∃ xs, SqL K H1 a xs) ∧ R (Itl K a) H1 ∨ (∃ xs, SqT K H1 a xs) ∧ R (Itt K a) H1)
theorem pi_seq {X : Cx} {tg l : Expr} {tl : TE} (hl : PE X l tl) : PI X tg l (iSeq X.K tl) := by
  intro pins s σ H R I h
  refine thn (hl pins s σ H _ I h) fun v s1 ⟨x, H1, I1, r1, q1⟩ => ?_
  obtain ⟨a, e, q1⟩ := q1
  subst e
  cases r1
  rcases q1 with ⟨⟨xs, hq⟩, q⟩ | ⟨⟨xs, hq⟩, q⟩
  · obtain ⟨its, rv, p, hz⟩ := I1.list hq
    refine wpAny_pyIter_list p.isList ?_
    refine ⟨s1.heap.objs.size, [s1.heap.objs.size], _, _, H1, rfl, I1.kept (t' := s1.toks) fun b o e => Heap.get?_push_of_some _ e, turn_list a _, ⟨_, Heap.get?_push_size _ rfl, rfl, rfl⟩, fun b hb => ?_, q⟩
    have e : b = s1.heap.objs.size := by simpa using hb
    subst e
    exact I1.fpOk (Nat.le_refl _) (I1.hok.fresh (Nat.le_refl _))
  · obtain ⟨its, rv, p, hz⟩ := I1.tuple hq
    refine wpAny_pyIter_tuple (show s1.heap.IsTuple a its.toArray from p) ?_
    refine ⟨s1.heap.objs.size, [s1.heap.objs.size], _, _, H1, rfl, I1.kept (t' := s1.toks) fun b o e => Heap.get?_push_of_some _ e, turn_tuple a _, ⟨_, Heap.get?_push_size _ rfl, rfl, rfl⟩, fun b hb => ?_, q⟩
    have e : b = s1.heap.objs.size := by simpa using hb
    subst e
    exact I1.fpOk (Nat.le_refl _) (I1.hok.fresh (Nat.le_refl _))
end L2
namespace L2
open PySem PySem.Spec PyProof.Rows
theorem vals_of_get : ∀ {xs : List V} {us : List Value}, xs.length = us.length → (∀ (i : Nat) (x : V) (u : Value), xs[i]? = some x → us[i]? = some u → RelV x u) → Vals xs us
  | [], [], _, _ => .nil
  | [], _ :: _, h, _ => by simp at h
  | _ :: _, [], h, _ => by simp at h
  | x :: xs, u :: us, h, k => .cons (k 0 x u rfl rfl) (vals_of_get (by simpa using h) fun i y w e1 e2 => k (i + 1) y w (by simpa using e1) (by simpa using e2))
theorem vals_bools : ∀ {bs : List Bool} {us : List Value}, Vals (bs.map V.bl) us → us = bs.map Value.bool
  | [], _, .nil => rfl
  | b :: bs, _, .cons r t => by
    have e1 : _ = Value.bool b := r
    rw [e1, vals_bools t]
    rfl
def upto (n : Nat) : List Int := (List.range n).map fun i : Nat => (i : Int)
theorem upto_length (n : Nat) : (upto n).length = n := by simp [upto]
theorem upto_get {n i : Nat} (h : i < n) : (upto n)[i]? = some (i : Int) := by
  unfold upto
  rw [List.getElem?_map, List.getElem?_range h]
  rfl
theorem any_getD (bs : List Bool) : (List.range bs.length).any (fun i => bs.getD i false) = bs.any id := by
  rw [Bool.eq_iff_iff, List.any_eq_true, List.any_eq_true]
  constructor
  · rintro ⟨i, hi, hb⟩
    rw [List.mem_range] at hi
    have e : bs.getD i false = bs[i] := by rw [List.getD_eq_getElem?_getD, List.getElem?_eq_getElem hi]; rfl
    rw [e] at hb
    exact ⟨bs[i], List.getElem_mem hi, hb⟩
  · rintro ⟨b, hb, e⟩
    obtain ⟨i, hi, rfl⟩ := List.mem_iff_getElem.mp hb
    refine ⟨i, List.mem_range.mpr hi, ?_⟩
    rw [List.getD_eq_getElem?_getD, List.getElem?_eq_getElem hi]
    exact e
theorem all_getD (bs : List Bool) : (List.range bs.length).all (fun i => bs.getD i false) = bs.all id := by
  rw [Bool.eq_iff_iff, List.all_eq_true, List.all_eq_true]
  constructor
  · intro h b hb
    obtain ⟨i, hi, rfl⟩ := List.mem_iff_getElem.mp hb
    have q := h i (List.mem_range.mpr hi)
    rw [List.getD_eq_getElem?_getD, List.getElem?_eq_getElem hi] at q
    exact q
  · intro h i hi
    rw [List.mem_range] at hi
    rw [List.getD_eq_getElem?_getD, List.getElem?_eq_getElem hi]
    exact h _ (List.getElem_mem hi)
theorem all_eq_ints : ∀ {ns ms : List Int}, ns.length = ms.length → (List.range ns.length).all (fun j => ns.getD j 0 == ms.getD j 0) = decide (ns = ms) := by
  intro ns ms hl
  rw [Bool.eq_iff_iff, List.all_eq_true, decide_eq_true_iff]
  constructor
  · intro h
    refine List.ext_getElem hl fun i h1 h2 => ?_
    have q := h i (List.mem_range.mpr h1)
    rw [List.getD_eq_getElem?_getD, List.getD_eq_getElem?_getD, List.getElem?_eq_getElem h1, List.getElem?_eq_getElem h2] at q
    exact eq_of_beq q
  · rintro rfl i _
    exact beq_self_eq_true _
section
variable {X : Cx}
def rAny (K : PySem.W.Frag) : List V → Hp → VK → Prop := fun xs H Q => ∃ (p : Addr) (bs : List Bool), xs = [.ref p] ∧ SqL K H p (bs.map V.bl) ∧ Q (.bl (bs.any id)) H
def rAll (K : PySem.W.Frag) : List V → Hp → VK → Prop := fun xs H Q => ∃ (p : Addr) (bs : List Bool), xs = [.ref p] ∧ SqL K H p (bs.map V.bl) ∧ Q (.bl (bs.all id)) H
theorem call_any_bools (hc : X.calm = true) : CallR X (.builtin "any") (rAny X.K) := by
  intro pins s σ H xs us Q I r h
  obtain ⟨p, bs, rfl, hq, q⟩ := h
  obtain ⟨u, rfl, rx⟩ := vals1 r
  cases rx
  obtain ⟨its, r', pl, hz⟩ := I.list hq
  have e := vals_bools r'
  subst e
  have hl := pl.isList
  have hlt : p < s.heap.objs.size := by obtain ⟨_, e, _⟩ := hl; exact Heap.lt_size e
  refine call_any_walk (wpAny_pyIter_list hl ⟨s.heap.objs.size, _, _, _, _, _, fun i => bs.getD i false, rfl, Walks.list (show X.A.in1.handled = none from I.ok.hd hc) s.heap.objs.size p (Nat.ne_of_lt hlt) (bs.map Value.bool).toArray, ⟨⟨_, Heap.get?_push_size _ rfl, rfl, rfl⟩, hl.push _⟩, ?_, fun h' tk hk => ?_⟩)
  · intro i v s' Q' E' hP hQ
    have hP' : (bs.map Value.bool)[i]? = some v := by simpa using hP
    rw [List.getElem?_map] at hP'
    cases e : bs[i]? with
    | none => rw [e] at hP'; cases hP'
    | some b =>
      rw [e] at hP'
      have ev : Value.bool b = v := Option.some.inj hP'
      subst ev
      refine wpAny_truthy_bool ?_
      have e2 : bs.getD i false = b := by rw [List.getD_eq_getElem?_getD, e]; rfl
      have hQ' : Q' (bs.getD i false) s' := hQ
      rw [e2] at hQ'
      exact hQ'
  · refine ⟨.bl (bs.any id), H, I.kept (t' := tk) (fun b o e => hk b o (by simpa using Nat.ne_of_lt (Heap.lt_size e)) (Heap.get?_push_of_some _ e)), ?_, q⟩
    show Value.bool _ = Value.bool _
    have e : (bs.map Value.bool).toArray.size = bs.length := by simp
    rw [e, any_getD]
theorem call_all_bools (hc : X.calm = true) : CallR X (.builtin "all") (rAll X.K) := by
  intro pins s σ H xs us Q I r h
  obtain ⟨p, bs, rfl, hq, q⟩ := h
  obtain ⟨u, rfl, rx⟩ := vals1 r
  cases rx
  obtain ⟨its, r', pl, hz⟩ := I.list hq
  have e := vals_bools r'
  subst e
  have hl := pl.isList
  have hlt : p < s.heap.objs.size := by obtain ⟨_, e, _⟩ := hl; exact Heap.lt_size e
  refine call_all_walk (wpAny_pyIter_list hl ⟨s.heap.objs.size, _, _, _, _, _, fun i => bs.getD i false, rfl, Walks.list (show X.A.in1.handled = none from I.ok.hd hc) s.heap.objs.size p (Nat.ne_of_lt hlt) (bs.map Value.bool).toArray, ⟨⟨_, Heap.get?_push_size _ rfl, rfl, rfl⟩, hl.push _⟩, ?_, fun h' tk hk => ?_⟩)
  · intro i v s' Q' E' hP hQ
    have hP' : (bs.map Value.bool)[i]? = some v := by simpa using hP
    rw [List.getElem?_map] at hP'
    cases e : bs[i]? with
    | none => rw [e] at hP'; cases hP'
    | some b =>
      rw [e] at hP'
      have ev : Value.bool b = v := Option.some.inj hP'
      subst ev
      refine wpAny_truthy_bool ?_
      have e2 : bs.getD i false = b := by rw [List.getD_eq_getElem?_getD, e]; rfl
      have hQ' : Q' (bs.getD i false) s' := hQ
      rw [e2] at hQ'
      exact hQ'
  · refine ⟨.bl (bs.all id), H, I.kept (t' := tk) (fun b o e => hk b o (by simpa using Nat.ne_of_lt (Heap.lt_size e)) (Heap.get?_push_of_some _ e)), ?_, q⟩
    show Value.bool _ = Value.bool _
    have e : (bs.map Value.bool).toArray.size = bs.length := by simp
    rw [e, all_getD]
def rIsi (K : PySem.W.Frag) : List V → Hp → VK → Prop := fun xs H Q => ∃ (x : V) (t : Value) (c : String) (b : Bool), xs = [x, .ty c] ∧ TyOf K H x t ∧ PySem.W.kitOne K t (.type c) = some b ∧ Q (.bl b) H
theorem call_isinst : CallR X (.builtin "isinstance") (rIsi X.K) := by
  intro pins s σ H xs us Q I r h
  obtain ⟨x, t, c, b, rfl, ty, e, q⟩ := h
  obtain ⟨u, w', rfl, rx, ry⟩ := vals2 r
  cases ry
  exact isinst_ok I rx ty e fun tk => ⟨.bl b, H, I.tok tk, rfl, q⟩
theorem sorted_seq {prog : Program} {w : World} {A : Around} {E : Value → Shared → Prop} {s : Shared} {l : Addr} {T : String} {o : Obj} {its : List Value} {n : Nat} {ns : List Int} {Q : Value → Shared → Prop} (hT : T = "list" ∨ T = "tuple")
    (ho : s.heap.get? l = some o) (hc : o.cls = .type T) (hd : o.data = .seq its.toArray n) (hI : IntsAre its ns) (h64 : its.length < 64) (hsz : its.toArray.size ≤ sizeLine)
    (h : ∀ (h1 h' : Heap) (out : Array Value) (ns' : List Int) (e : Nat), (∀ b o, s.heap.get? b = some o → h1.get? b = some o) → (∀ b o, h1.get? b = some o → h'.get? b = some o) → h'.get? h1.objs.size = some (seqObj "list" out e) → IntsAre out.toList ns' → ns'.Perm ns → ns'.Pairwise (· ≤ ·) → Q (.ref h1.objs.size) { s with heap := h' }) :
    wpAny (model prog w) A (call (.builtin "sorted") [.ref l]) Q E s := by
  refine Calls.call_function_entry kind_sorted plain_sorted entry_sorted (args_sorted1 _) ?_
  unfold Builtin.«sorted»
  refine wpAny_bind (m := checkCount "sorted" 1 1 _) (wpAny_pure ?_)
  refine wpAny_bind (wpAny_collect_seq l hT ho hc hd (fun h1 kp => ?_) hsz)
  refine wpAny_bind (wpAny_newList ?_)
  have e1 : its.toArray.toList = its := by simp
  rw [e1]
  have hoL : (h1.push (seqObj "list" its.toArray 0)).get? h1.objs.size = some (seqObj "list" its.toArray 0) := Heap.get?_push_size _ rfl
  show wpAny _ _ _ _ _ { s with heap := h1.push (seqObj "list" its.toArray 0) }
  refine wpAny_bind (wpAny_holding (wpAny_call_entry slot_list_sort ⟨_, hoL, rfl⟩ entry_list_sort (list_sort_tree hoL hI h64 fun out ns' a1 a2 a3 => ⟨_, rfl, ?_⟩) (args_list_sort _)))
  obtain ⟨e, he⟩ := sortedHeap_at (out := out) hoL
  exact wpAny_pure ⟨_, rfl, h h1 _ out ns' e kp (fun b ob hb => by
    have hlt := Heap.lt_size hb
    rw [sortedHeap_old (Nat.ne_of_lt hlt) (by rw [size_push']; exact Nat.lt_succ_of_lt hlt), Heap.get?_push_ne _ _ _ (Nat.ne_of_lt hlt)]
    exact hb) he a1 a2 a3⟩
def rSorted (K : PySem.W.Frag) : List V → Hp → VK → Prop := fun xs H Q => ∃ (p : Addr) (ns : List Int), xs = [.ref p] ∧ (SqL K H p (ns.map V.int) ∨ SqT K H p (ns.map V.int)) ∧ ns.length < 64 ∧
    ∀ (l : Addr) (ns' : List Int), H l = none → ns'.Perm ns → ns'.Pairwise (· ≤ ·) → Q (.ref l) (upd H l (.lst (ns'.map V.int)))
theorem call_sorted : CallR X (.builtin "sorted") (rSorted X.K) := by
  intro pins s σ H xs us Q I r h
  obtain ⟨p, ns, rfl, hq, h64, q⟩ := h
  obtain ⟨u, rfl, rx⟩ := vals1 r
  cases rx
  have fin : ∀ (h1 h' : Heap) (out : Array Value) (ns' : List Int) (e : Nat), (∀ b o, s.heap.get? b = some o → h1.get? b = some o) → (∀ b o, h1.get? b = some o → h'.get? b = some o) → h'.get? h1.objs.size = some (seqObj "list" out e) → IntsAre out.toList ns' → ns'.Perm ns → ns'.Pairwise (· ≤ ·) →
      EP X pins σ Q (.ref h1.objs.size) { s with heap := h' } := fun h1 h' out ns' e kp kp2 he a1 a2 a3 => by
    have I1 : Inv X pins σ H { s with heap := h1 } := I.kept (t' := s.toks) kp
    refine ⟨.ref h1.objs.size, _, I1.laid (t' := s.toks) (o := .lst (ns'.map V.int)) kp2 (Nat.le_refl _) ⟨?_, out.toList, e, vals_ints a1, by simpa [seqObj] using he⟩, rfl, q _ ns' (I1.hok.fresh (Nat.le_refl _)) a2 a3⟩
    rw [List.length_map, a2.length_eq]
    exact Nat.le_of_lt (small1000 (by omega))
  rcases hq with hq | hq
  · obtain ⟨its, r', pl, hz⟩ := I.list hq
    obtain ⟨o, n, ho, hc, _, hd⟩ := pl
    have hl := r'.length
    rw [List.length_map] at hl
    rw [List.length_map] at hz
    exact sorted_seq (.inl rfl) ho hc hd (intsAre_of r') (by omega) (by rw [List.size_toArray]; omega) fin
  · obtain ⟨its, r', pl, hz⟩ := I.tuple hq
    obtain ⟨o, ho, hc, n, hd⟩ := pl
    have hl := r'.length
    rw [List.length_map] at hl
    rw [List.length_map] at hz
    exact sorted_seq (.inr rfl) ho hc hd (intsAre_of r') (by omega) (by rw [List.size_toArray]; omega) fin
def rRange1 : List V → Hp → VK → Prop := fun xs H Q => ∃ j : Int, xs = [.int j] ∧ ∀ p : Addr, H p = none → Q (.ref p) (upd H p (.rng 0 j))
def rListRng : List V → Hp → VK → Prop := fun xs H Q => ∃ (p : Addr) (n : Nat), xs = [.ref p] ∧ H p = some (.rng 0 (n : Int)) ∧ n ≤ 1000 ∧ ∀ l : Addr, H l = none → Q (.ref l) (upd H l (.lst ((upto n).map V.int)))
def rLen (K : PySem.W.Frag) : List V → Hp → VK → Prop := fun xs H Q => ∃ (p : Addr) (ys : List V), xs = [.ref p] ∧ (SqL K H p ys ∨ SqT K H p ys) ∧ Q (.int ys.length) H
theorem call_len_r : CallR X (.builtin "len") (rLen X.K) := call_len_seq
theorem call_range1 : CallR X (.type "range") rRange1 := by
  intro pins s σ H xs us Q I r h
  obtain ⟨j, rfl, q⟩ := h
  obtain ⟨u, rfl, t, rfl⟩ := vals1 r
  exact call_range_1 ⟨.ref s.heap.objs.size, _, I.laid (o := .rng 0 j) (fun b o e => Heap.get?_push_of_some _ e) (Nat.le_refl _) ⟨_, _, _, Heap.get?_push_size _ rfl⟩, rfl, q _ (I.hok.fresh (Nat.le_refl _))⟩
theorem call_list_rng (hc : X.calm = true) : CallR X (.type "list") rListRng := by
  intro pins s σ H xs us Q I r h
  obtain ⟨p, n, rfl, hp, hn, q⟩ := h
  obtain ⟨u, rfl, rx⟩ := vals1 r
  cases rx
  obtain ⟨t, u, v, ho⟩ := I.hok p _ hp
  refine call_list_range (I.ok.hd hc) ho (small_one (by omega) (by omega) (by omega) (by omega)) (n := n) (by rw [rangeSize_one]; split <;> omega) (by omega) fun h' tk acc' c' hk hS' hacc => ?_
  refine ⟨.ref s.heap.objs.size, _, I.laid (t' := tk) (o := .lst ((upto n).map V.int)) hk (Nat.le_refl _) ⟨?_, acc'.toList, c', ?_, by simpa using hS'⟩, rfl, q _ (I.hok.fresh (Nat.le_refl _))⟩
  · rw [List.length_map, upto_length]
    exact Nat.le_of_lt (small1000 hn)
  · refine vals_of_get (by rw [List.length_map, upto_length]; simp [hacc.1]) fun i x u e1 e2 => ?_
    obtain ⟨t', rfl⟩ := hacc.2 i u (by simpa using e2)
    have hi : i < n := by
      have := (List.getElem?_eq_some_iff.mp e1).1
      rw [List.length_map, upto_length] at this
      exact this
    rw [List.getElem?_map, upto_get hi] at e1
    have e3 : V.int (i : Int) = x := Option.some.inj e1
    subst e3
    exact ⟨t', by rw [show (0 : Int) + (i : Int) * 1 = (i : Int) by omega]⟩
theorem ints_at {ns : List Int} {its : List Value} (r : Vals (ns.map V.int) its) {j : Nat} (h : j < its.length) : ∃ t, its[j] = .int (ns.getD j 0) t := by
  have hl := r.length
  rw [List.length_map] at hl
  have hj : j < ns.length := by omega
  obtain ⟨u, hu, t, rfl⟩ := r.get (i := j) (x := .int ns[j]) (by rw [List.getElem?_map, List.getElem?_eq_getElem hj]; rfl)
  refine ⟨t, ?_⟩
  rw [List.getElem?_eq_getElem h] at hu
  rw [Option.some.inj hu, List.getD_eq_getElem?_getD, List.getElem?_eq_getElem hj]
  rfl
def rEqL (K : PySem.W.Frag) (neg : Bool) : R2 := fun x y H Q => ∃ (p q : Addr) (ns ms : List Int), x = .ref p ∧ y = .ref q ∧ SqL K H p (ns.map V.int) ∧ SqL K H q (ms.map V.int) ∧ Q (.bl (if neg = true then !decide (ns = ms) else decide (ns = ms))) H
theorem op_eqL (hu : X.A.units < cLine) : OpR X (compareOp .Eq) (rEqL X.K false) := by
  intro pins s σ H x y v u Q I rx ry h
  obtain ⟨p, q, ns, ms, rfl, rfl, h1, h2, k⟩ := h
  cases rx
  cases ry
  obtain ⟨its, r1, p1, z1⟩ := I.list h1
  obtain ⟨its2, r2, p2, z2⟩ := I.list h2
  have l1 := r1.length
  have l2 := r2.length
  rw [List.length_map] at l1 l2
  by_cases hl : ns.length = ms.length
  · refine SeqAt.eq_listAt (e := fun j => ns.getD j 0 == ms.getD j 0) p1.isList p2.isList (by simp; omega) hu (fun j h1 h2 => ?_) (fin_bl I k ?_)
    · obtain ⟨t, e1⟩ := ints_at r1 (j := j) (by simpa using h1)
      obtain ⟨t', e2⟩ := ints_at r2 (j := j) (by simpa using h2)
      have e1' : its.toArray[j] = .int (ns.getD j 0) t := by simpa using e1
      have e2' : its2.toArray[j] = .int (ms.getD j 0) t' := by simpa using e2
      rw [e1', e2']
      exact SeqAt.EqAt.int_int _ _ _ _
    · rw [if_neg Bool.false_ne_true, List.size_toArray, ← l1, all_eq_ints hl]
  · refine SeqAt.eq_list_lengthsAt p1.isList p2.isList (by simp; omega) hu (fin_bl I k ?_)
    rw [if_neg Bool.false_ne_true]
    exact decide_eq_false fun e => hl (by rw [e])
theorem seq_mid {t u : TS} {D : Ends} {σ : St} {H : Hp} (M : St → Hp → Prop) (h1 : ∀ nx : St → Hp → Prop, (∀ σ H, M σ H → nx σ H) → t { D with nx := nx } σ H) (h2 : ∀ σ H, M σ H → u D σ H) : tSeq t u D σ H := h1 _ h2
theorem pe_ty {x : Str} {T : String} {pos : Pos} (hg : Gl X x) (hm : X.mg x = none) (hv : bootBuiltins x = some (.type T)) (hn : x ≠ "__name__" := by decide) (hd : (x == ("__debug__" : Str)) = false := by decide) : PE X (.Name x pos) (tC (.ty T)) := pe_bltn hg hm hv rfl hn hd
end
end L2
namespace L2
open PySem PySem.Spec PyProof.Rows
def HasFn (P : Program) (w : World) (K : PySem.W.Frag) (mg : Str → Option Value) (base : Heap) (k : Nat) (x : Str) (ps : List Str) (sp : Sp) : Prop :=
  ∃ f fd, FnOk P w K mg base CX0 k f fd ps sp ∧ Binds K fd ps [] ∧ PySem.W.keepIn K (.ref f) = true ∧ mg x = some (.ref f)
section
variable {P : Program} {w : World} {K : PySem.W.Frag} {mg : Str → Option Value} {base : Heap} {X : Cx} {k j : Nat} {sp : Sp} {x : Str} {ps : List Str}
theorem pe_fn {p pos : Pos} {e : Expr} {es : List Expr} {t : TA} (h : HasFn X.prog X.w X.K X.mg X.base k x ps sp) (hr : Room j X.A) (hj : k ≤ j) (hg : Gl X x) (ha : PA X (e :: es) t)
    (hdb : (x == ("__debug__" : Str)) = false := by decide) (he : starEach (e :: es) X.env = (false, eval e X.env) :: starEach es X.env := by rfl) (hpl : (backTo pos (starEach es X.env)).any (·.1) = false := by rfl) :
    PE X (.Call (.Name x p) (e :: es) [] pos) (tCall sp [] E0 t) := by
  obtain ⟨f, fd, F, b, kp, m⟩ := h
  exact pe_call F (hr.mono hj) hg m kp b .nil pass0 ha hdb he hpl
theorem same_new {H : Hp} {p : Addr} (h : H p = none) (o : HO) : Same H (upd H p o) := fun b u q => by rw [upd_ne (ne_of_none q h)]; exact q
theorem Same.sqt {H H' : Hp} {a : Addr} {xs : List V} (e : Same H H') (h : SqT K H a xs) : SqT K H' a xs := by
  rcases h with (h | ⟨o, h⟩) | h
  · exact .inl (.inl (e _ _ h))
  · exact .inl (.inr ⟨o, e _ _ h⟩)
  · exact .inr h
theorem ix_listK {X : Cx} {K : PySem.W.Frag} (h : X.K = K) : IxR X (rIxL K) := h ▸ ix_list
theorem ix_tupK {X : Cx} {K : PySem.W.Frag} (h : X.K = K) : IxR X (rIxT K) := h ▸ ix_tup
theorem isinstK {X : Cx} {K : PySem.W.Frag} (h : X.K = K) : CallR X (.builtin "isinstance") (rIsi K) := h ▸ call_isinst
theorem lenK {X : Cx} {K : PySem.W.Frag} (h : X.K = K) : CallR X (.builtin "len") (rLen K) := h ▸ call_len_r
theorem yesT {σ : St} {H : Hp} {Q : Bool → Hp → Prop} (h : Q true H) : tYes σ H Q := h
theorem nextE {n : St → Hp → Prop} {rt : VK} {bk ct : St → Hp → Prop} {σ : St} {H : Hp} (h : n σ H) : tNext ⟨n, rt, bk, ct⟩ σ H := h
theorem if_mid {c : TT} {a b u : TS} {D : Ends} {σ : St} {H : Hp} (M : St → Hp → Prop) (h1 : ∀ nx : St → Hp → Prop, (∀ σ H, M σ H → nx σ H) → tIfS c a b { D with nx := nx } σ H) (h2 : ∀ σ H, M σ H → u D σ H) : tSeq (tIfS c a b) u D σ H := h1 _ h2
theorem mod_bd (x : Int) {m : Int} (h0 : 0 < m) (h1 : m ≤ 2 ^ 62) : -(2 ^ 64) < x % m ∧ x % m < 2 ^ 64 := by
  have a := Int.emod_nonneg x (Int.ne_of_gt h0)
  have b := Int.emod_lt_of_pos x h0
  omega
theorem atI_in {ns : List Int} {i : Int} (h0 : 0 ≤ i) (h1 : i < ns.length) : atI (ns.map V.int) i = some (.int (ns.getD i.toNat 0)) := by
  have hi : i.toNat < ns.length := by omega
  have e : i = ((i.toNat : Nat) : Int) := by omega
  rw [e]
  refine atI_nat ?_
  rw [List.getElem?_map, List.getD_eq_getElem?_getD, Int.toNat_natCast, List.getElem?_eq_getElem hi]
  rfl
theorem get_int {ns : List Int} {i : Nat} {y : V} (h : (ns.map V.int)[i]? = some y) : ∃ z, y = .int z ∧ ns[i]? = some z := by
  rw [List.getElem?_map] at h
  cases e : ns[i]? with
  | none => rw [e] at h; cases h
  | some z => rw [e] at h; exact ⟨z, (Option.some.inj h).symm, rfl⟩
theorem snoc_int (ns : List Int) (z : Int) : ns.map V.int ++ [V.int z] = (ns ++ [z]).map V.int := by simp
theorem cut_ints (ns : List Int) (lo hi : Option Int) : ∃ ms : List Int, cutV (ns.map V.int) lo hi = ms.map V.int := by
  refine ⟨(ns.drop (HT.sIx ns.length 0 lo)).take (HT.sIx ns.length ns.length hi - HT.sIx ns.length 0 lo), ?_⟩
  unfold cutV
  rw [List.length_map, List.map_take, List.map_drop]
end
theorem bt_abs : bootBuiltins "abs" = some (.builtin "abs") := by decide +kernel
theorem bt_any : bootBuiltins "any" = some (.builtin "any") := by decide +kernel
theorem bt_all : bootBuiltins "all" = some (.builtin "all") := by decide +kernel
theorem bt_len : bootBuiltins "len" = some (.builtin "len") := by decide +kernel
theorem bt_sorted : bootBuiltins "sorted" = some (.builtin "sorted") := by decide +kernel
theorem bt_isinstance : bootBuiltins "isinstance" = some (.builtin "isinstance") := by decide +kernel
theorem bt_list : bootBuiltins "list" = some (.type "list") := by decide +kernel
theorem bt_tuple : bootBuiltins "tuple" = some (.type "tuple") := by decide +kernel
theorem bt_range : bootBuiltins "range" = some (.type "range") := by decide +kernel
theorem bt_bool : bootBuiltins "bool" = some (.type "bool") := by decide +kernel
theorem bt_int : bootBuiltins "int" = some (.type "int") := by decide +kernel
theorem bt_str : bootBuiltins "str" = some (.type "str") := by decide +kernel
def Bd (d p : Int) : Prop := 0 ≤ d ∧ d < p
def spDraws (K : PySem.W.Frag) : Sp := fun vs H Q _ => ∃ (c : Int) (a : Addr) (ps : List Int), vs = [.int c, .ref a] ∧ SqL K H a (ps.map V.int) ∧ (∀ p ∈ ps, 0 < p ∧ p < 1073741824) ∧ ps.length ≤ 60 ∧
  ∀ (l : Addr) (ds : List Int) (H' : Hp), H l = none → Same H H' → H' l = some (.lst (ds.map V.int)) → Paired Bd ds ps → Q (.ref l) H'
end L2
namespace L2
open PySem PySem.Spec PyProof.Rows
def XRec (h : Heap) (a C : Addr) (d : Option Addr) (vs : Array Value) : Prop := ∃ oe : Obj, h.get? a = some oe ∧ oe.cls = .ref C ∧ oe.dict = d ∧ oe.data = .fields vs ∧ 1 < vs.size
def xo (a C : Addr) (d : Option Addr) : HO := .ext fun h => ∃ vs, XRec h a C d vs
def xn (a C : Addr) (d : Option Addr) : HO := .ext fun h => ∃ vs, XRec h a C d vs ∧ vs[1]? = some Value.none
theorem XRec.keep {h1 h2 : Heap} {a C : Addr} {d : Option Addr} {vs : Array Value} (x : XRec h1 a C d vs) (k : ∀ o, h1.get? a = some o → h2.get? a = some o) : XRec h2 a C d vs := by
  obtain ⟨oe, e, r⟩ := x
  exact ⟨oe, k _ e, r⟩
theorem xo_ok {P : Program} {w : World} {H : Hp} {h : Heap} {a C : Addr} {d : Option Addr} {vs : Array Value} (x : XRec h a C d vs) : ObjOk P w H h a (xo a C d) :=
  ⟨⟨vs, x⟩, let ⟨oe, e, _⟩ := x; ⟨oe, e⟩, fun _ _ ⟨ws, y⟩ k => ⟨ws, y.keep k⟩⟩
theorem xn_ok {P : Program} {w : World} {H : Hp} {h : Heap} {a C : Addr} {d : Option Addr} {vs : Array Value} (x : XRec h a C d vs) (z : vs[1]? = some Value.none) : ObjOk P w H h a (xn a C d) :=
  ⟨⟨vs, x, z⟩, let ⟨oe, e, _⟩ := x; ⟨oe, e⟩, fun _ _ ⟨ws, y, q⟩ k => ⟨ws, y.keep k, q⟩⟩
theorem xo_get {P : Program} {w : World} {H : Hp} {h : Heap} {a C : Addr} {d : Option Addr} (ok : HOk P w H h) (e : H a = some (xo a C d)) : ∃ vs, XRec h a C d vs := (ok a _ e).1
theorem xn_get {P : Program} {w : World} {H : Hp} {h : Heap} {a C : Addr} {d : Option Addr} (ok : HOk P w H h) (e : H a = some (xn a C d)) : ∃ vs, XRec h a C d vs ∧ vs[1]? = some Value.none := (ok a _ e).1
def Fly (lo : Nat) (H : Hp) (h : Heap) (vs : Array Value) : Prop :=
  vs[1]? = some Value.none ∨ ∃ T oT ts, vs[1]? = some (Value.ref T) ∧ lo ≤ T ∧ H T = none ∧ h.get? T = some oT ∧ oT.data = .fields ts ∧ ts[3]? = some Value.none
def CXe (P : Program) (w : World) : CXT := fun outer H s E e s' => ∃ (a C d : Addr) (H' : Hp) (vs : Array Value), e = .ref a ∧ s.heap.objs.size ≤ a ∧ s'.os = s.os ∧ AllBare s'.gens ∧ Un (frs outer) [] H H' s.heap s'.heap ∧ HOk P w H' s'.heap ∧
  H' a = some (xo a C (some d)) ∧ XRec s'.heap a C (some d) vs ∧ Fly s.heap.objs.size H' s'.heap vs ∧ E (.ref C) (some d) H'
section
variable {M : Model} {A : Around} {Er : Value → Shared → Prop} {s : Shared}
theorem entry_off {base : Heap} {env : Env} {outer : List Env} {L e : Addr} {oe : Obj} {vs : Array Value} {head : Value} {b0 : Bool} {Q : Unit → Shared → Prop}
    (fr : A.frames = some (env :: outer)) (fun_ : s.heap.FunFrames base (env :: outer)) (hL : env.frame = some L) (at_ : s.heap.get? e = some oe) (dat : oe.data = .fields vs) (sz : 1 < vs.size)
    (k : ∀ h' T ts, (∀ b o, b ≠ e → b ∉ frs (env :: outer) → s.heap.get? b = some o → h'.get? b = some o) → (∀ b o, b ∈ frs (env :: outer) → s.heap.get? b = some o → ∃ sl, h'.get? b = some { o with slots := sl }) →
      h'.get? e = some { oe with data := .fields (vs.setIfInBounds 1 (.ref T)) } → s.heap.objs.size ≤ T → T ≠ e → h'.get? T = some { cls := .type "traceback", dict := none, data := .fields ts } → ts[3]? = some Value.none → Q () { s with heap := h' }) :
    wpAny M A (do let fo ← frameOf env; let pl ← entryPlaceOf L b0; let en ← EntryCells.newEntry head fo .none (rawInt L) .none pl; setField (.ref e) 1 en) (fun _ s2 => wpAny M A (setFlight (.ref e) none) Q Er s2) Er s := by
  have out : e ∉ frs (env :: outer) := fun z => by
    obtain ⟨_, o, q, nf⟩ := fun_.mem z
    rw [at_] at q
    cases q
    exact nf vs dat
  refine wpAny_bind (wpAny_frameOf_fun fr fun_ hL fun h1 so => wpAny_bind (wpAny_entryPlaceOf fun pl ip => ?_))
  unfold EntryCells.newEntry newFields
  refine wpAny_bind (wpAny_newObj_type ?_ (ip.sizeOk5 _ _ _ _ _))
  generalize hts : ([head, Value.ref L, Value.none, rawInt L, Value.none] ++ (if pl.isEmpty = true then List.replicate 6 Value.none else pl)).toArray = ts0
  have l3 : 3 < ts0.size := by
    rw [← hts, List.size_toArray, List.length_append]
    simp only [List.length_cons, List.length_nil]
    omega
  have e1 : h1.get? e = some oe := (so.2.1 e out).trans at_
  have lt : e < h1.objs.size := Heap.lt_size e1
  have e2 := Heap.get?_push_of_some { cls := .type "traceback", dict := none, data := .fields ts0 } e1
  refine wpAny_setField e2 dat sz ?_
  have d3 := Obj.data_mapFields dat (·.setIfInBounds 1 (Value.ref h1.objs.size))
  have e3 := Heap.get?_update_self (Obj.mapFields (·.setIfInBounds 1 (Value.ref h1.objs.size))) e2 (Obj.isFreed_of_fields d3)
  have t3 := (Heap.get?_update_other (h1.push { cls := .type "traceback", dict := none, data := .fields ts0 }) (Obj.mapFields (·.setIfInBounds 1 (Value.ref h1.objs.size))) (Nat.ne_of_lt lt)).trans (Heap.get?_push_size h1 rfl)
  unfold setFlight
  refine wpAny_bind (wpAny_field e3 d3 (x := .ref h1.objs.size) (by simp [sz]) ?_)
  rw [if_pos (by simp)]
  refine wpAny_setField t3 rfl l3 (k _ h1.objs.size (ts0.setIfInBounds 3 Value.none) ?_ ?_ ?_ (Nat.le_of_eq so.1.symm) (Nat.ne_of_gt lt) ?_ (by simp [l3]))
  · intro b o hb hf hg
    have g1 : h1.get? b = some o := (so.2.1 b hf).trans hg
    rw [Heap.get?_update_other _ _ (Nat.ne_of_gt (Heap.lt_size g1)), Heap.get?_update_other _ _ (Ne.symm hb)]
    exact Heap.get?_push_of_some _ g1
  · intro b o hf hg
    obtain ⟨sl, g1⟩ := so.2.2 b o hg
    have hb : b ≠ e := fun z => out (z ▸ hf)
    refine ⟨sl, ?_⟩
    rw [Heap.get?_update_other _ _ (Nat.ne_of_gt (Heap.lt_size g1)), Heap.get?_update_other _ _ (Ne.symm hb)]
    exact Heap.get?_push_of_some _ g1
  · rw [Heap.get?_update_other _ _ (Nat.ne_of_gt lt), e3]
    obtain ⟨c, dd, da, sl⟩ := oe
    cases dat
    rfl
  · exact Heap.get?_update_self _ t3 (Obj.isFreed_of_fields (Obj.data_mapFields rfl _))
end
section
variable {P : Program} {w : World} {A : Around} {Er : Value → Shared → Prop}
theorem cx_note {base : Heap} {env : Env} {outer : List Env} {L : Addr} {H1 : Hp} {s1 s' : Shared} {E : XK} {e : Value} {Q : Unit → Shared → Prop}
    (fr : A.frames = some (env :: outer)) (fun_ : s1.heap.FunFrames base (env :: outer)) (free : ∀ b ∈ frs (env :: outer), H1 b = none) (hL : env.frame = some L) (cx : CXe P w (env :: outer) H1 s1 E e s')
    (k : ∀ s3, CXe P w (env :: outer) H1 s1 E e s3 → Q () s3) :
    wpAny (model P w) A (noteFrame e env) (fun _ s2 => wpAny (model P w) A (setFlight e none) Q Er s2) Er s' := by
  obtain ⟨a, C, d, H', vs, rfl, lo, os, bare, un, hok, ha, xr, fl, q⟩ := cx
  obtain ⟨oe, at_, cls, dic, dat, sz⟩ := xr
  have nx : ∀ b : Addr, b ∉ ([] : List Addr) := fun b z => absurd z (by simp)
  have fun2 : s'.heap.FunFrames base (env :: outer) := by
    have all : ∀ l : List Env, (∀ b ∈ frs l, b ∈ frs (env :: outer)) → s1.heap.FunFrames base l → s'.heap.FunFrames base l := by
      intro l
      induction l with
      | nil => exact fun _ _ => trivial
      | cons x r ih =>
        rintro hs ⟨kd, ⟨L', o, f', n', g', nf⟩, rest⟩
        have mem : L' ∈ frs (x :: r) := by
          unfold frs
          rw [List.filterMap_cons, f']
          exact List.mem_cons_self
        obtain ⟨sl, g2⟩ := un.slot L' o g' (free L' (hs _ mem)) (hs _ mem) (nx _)
        refine ⟨kd, ⟨L', _, f', n', g2, nf⟩, ih (fun b hb => hs b ?_) rest⟩
        unfold frs at hb ⊢
        rw [List.filterMap_cons, f']
        exact List.mem_cons_of_mem _ hb
    exact all _ (fun _ z => z) fun_
  have newA : s1.heap.get? a = none := Heap.get?_none_of_le lo
  have frO : ∀ b ∈ frs (env :: outer), ∃ o, s'.heap.get? b = some o ∧ ∀ ws, o.data ≠ .fields ws := fun b hb => (fun2.mem hb).2
  have frN : ∀ b ∈ frs (env :: outer), H' b = none := fun b hb => by
    obtain ⟨_, o, g', _⟩ := fun_.mem hb
    exact un.free b o g' (free b hb) (nx _)
  have frS : ∀ b ∈ frs (env :: outer), b < s1.heap.objs.size := fun b hb => let ⟨_, o, g', _⟩ := fun_.mem hb; Heap.lt_size g'
  -- what is wanted of any such end
  have fin : ∀ (h' : Heap) (T : Addr) (ts : Array Value), (∀ b o, b ≠ a → b ∉ frs (env :: outer) → s1.heap.objs.size ≤ b ∨ H' b ≠ none ∨ s'.heap.get? b = some o → s'.heap.get? b = some o → (H' b ≠ none ∨ b < s1.heap.objs.size) → h'.get? b = some o) →
      (∀ b o, b ∈ frs (env :: outer) → s'.heap.get? b = some o → ∃ sl, h'.get? b = some { o with slots := sl }) → h'.get? a = some { oe with data := .fields (vs.setIfInBounds 1 (.ref T)) } →
      s'.heap.objs.size ≤ T → T ≠ a → h'.get? T = some { cls := .type "traceback", dict := none, data := .fields ts } → ts[3]? = some Value.none → CXe P w (env :: outer) H1 s1 E (.ref a) { s' with heap := h' } := by
    intro h' T ts kp sl ea lT neT eT t3
    have kp1 : ∀ b o, b ≠ a → b ∉ frs (env :: outer) → s'.heap.get? b = some o → (H' b ≠ none ∨ b < s1.heap.objs.size) → h'.get? b = some o := fun b o h1 h2 h3 h4 => kp b o h1 h2 (.inr (.inr h3)) h3 h4
    have szs : s1.heap.objs.size ≤ s'.heap.objs.size := Nat.le_trans lo (Nat.le_of_lt (Heap.lt_size at_))
    have nT : H' T = none := hok.fresh lT
    have xr' : XRec h' a C (some d) (vs.setIfInBounds 1 (.ref T)) := ⟨_, ea, cls, dic, rfl, by rw [Array.size_setIfInBounds]; exact sz⟩
    have hok' : HOk P w H' h' := by
      intro b o hb
      by_cases e1 : b = a
      · subst e1
        rw [ha] at hb
        cases hb
        exact xo_ok xr'
      · have nf : b ∉ frs (env :: outer) := fun z => by rw [frN b z] at hb; cases hb
        have own : ∀ c, H' c = some (.own b) → c ≠ a := fun c hc z => by rw [z, ha] at hc; cases hc
        refine (hok b o hb).stay (fun c u hc g => ?_) (fun c hc => hc) (fun c xs hc => hc)
        rcases hc with rfl | hc
        · exact kp1 _ u e1 nf g (.inl (by rw [hb]; simp))
        · exact kp1 c u (own c hc) (fun z => by rw [frN c z] at hc; cases hc) g (.inl (by rw [hc]; simp))
    refine ⟨a, C, d, H', _, rfl, lo, os, bare, ⟨fun b o g' n' f' x' => ?_, fun b o g' n' f' x' => ?_, un.free, fun b o g' x' => ?_, un.tups, un.frzs, un.tbls⟩, hok', ha, xr', .inr ⟨T, _, ts, by simp [sz], Nat.le_trans szs lT, nT, eT, rfl, t3⟩, q⟩
    · have g2 := un.keep b o g' n' f' x'
      exact kp1 b o (fun z => by rw [z, newA] at g'; cases g') f' g2 (.inr (Heap.lt_size g'))
    · obtain ⟨s0, g2⟩ := un.slot b o g' n' f' x'
      obtain ⟨s2, g3⟩ := sl b _ f' g2
      exact ⟨s2, g3⟩
    · obtain ⟨o', g2⟩ := un.there b o g' x'
      have hb : b ≠ a := fun z => by rw [z, newA] at g'; cases g'
      by_cases f' : b ∈ frs (env :: outer)
      · obtain ⟨s2, g3⟩ := sl b _ f' g2
        exact ⟨_, g3⟩
      · exact ⟨o', kp1 b o' hb f' g2 (.inr (Heap.lt_size g'))⟩
  have hE : (env.frame = some L) := hL
  unfold noteFrame
  simp only [hE]
  refine wpAny_bind ?_
  rcases fl with z | ⟨T0, oT, ts0, z, lT, nT0, g0, d0, t0⟩
  · refine wpAny_field at_ dat z ?_
    rw [if_neg (by decide)]
    refine entry_off fr fun2 hL at_ dat sz fun h' T ts k1 k2 k3 k4 k5 k6 k7 => k _ (fin h' T ts (fun b o h1 h2 _ h3 _ => k1 b o h1 h2 h3) k2 k3 k4 k5 k6 k7)
  · refine wpAny_field at_ dat z ?_
    rw [if_pos (by simp)]
    have nea : T0 ≠ a := fun y => by rw [y, ha] at nT0; cases nT0
    refine wpAny_bind (wpAny_field g0 d0 t0 ?_)
    rw [if_neg (by simp [rawInt])]
    refine wpAny_bind (wpAny_setField g0 d0 (Array.getElem?_eq_some_iff.mp t0).1 ?_)
    have oth : ∀ b, b ≠ T0 → (s'.heap.update T0 (Obj.mapFields (·.setIfInBounds 3 Value.none))).get? b = s'.heap.get? b := fun b hb => Heap.get?_update_other _ _ (Ne.symm hb)
    have fT : T0 ∉ frs (env :: outer) := fun y => by
      obtain ⟨o, g', nf⟩ := frO T0 y
      rw [g0] at g'
      cases g'
      exact nf _ d0
    have szu : (s'.heap.update T0 (Obj.mapFields (·.setIfInBounds 3 Value.none))).objs.size = s'.heap.objs.size := Heap.size_after_update ..
    refine entry_off (s := { s' with heap := s'.heap.update T0 (Obj.mapFields (·.setIfInBounds 3 Value.none)) }) fr (fun2.of_keeps fun b o g' nf => ⟨o, (oth b fun y => by rw [y, g0] at g'; cases g'; exact nf _ d0).trans g', rfl⟩) hL ((oth a (Ne.symm nea)).trans at_) dat sz
      fun h' T ts k1 k2 k3 k4 k5 k6 k7 => k _ (fin h' T ts (fun b o h1 h2 _ h3 h4 => ?_) (fun b o h1 h2 => ?_) k3 (by rw [← szu]; exact k4) k5 k6 k7)
    · have nb : b ≠ T0 := fun y => by
        subst y
        rcases h4 with h4 | h4
        · exact h4 nT0
        · exact absurd lT (Nat.not_le.mpr h4)
      exact k1 b o h1 h2 ((oth b nb).trans h3)
    · exact k2 b o h1 ((oth b fun y => fT (y ▸ h1)).trans h2)
end
end L2
namespace L2
open PySem PySem.Spec PyProof.Rows
theorem Fly.mono {lo lo' : Nat} {H : Hp} {h : Heap} {vs : Array Value} (f : Fly lo H h vs) (l : lo' ≤ lo) : Fly lo' H h vs := by
  rcases f with z | ⟨T, oT, ts, h1, h2, r⟩
  · exact .inl z
  · exact .inr ⟨T, oT, ts, h1, Nat.le_trans l h2, r⟩
def PassX (X : Cx) (E : St → XK) : Prop := ∀ (pins : List (Addr × Obj)) (σ : St) (H : Hp) (s : Shared) (e : Value) (s' : Shared), Inv X pins σ H s → CXe X.prog X.w X.stack H s (E σ) e s' → X.xe e s'
theorem Inv.caught {X : Cx} {pins : List (Addr × Obj)} {σ : St} {H1 : Hp} {s1 s3 : Shared} {E : XK} {e : Value} (I : Inv X pins σ H1 s1) (cx : CXe X.prog X.w X.stack H1 s1 E e s3) :
    ∃ (a C d : Addr) (H' : Hp) (vs : Array Value), e = .ref a ∧ s1.heap.objs.size ≤ a ∧ Inv X pins σ H' s3 ∧ H' a = some (xo a C (some d)) ∧ XRec s3.heap a C (some d) vs ∧ Fly s1.heap.objs.size H' s3.heap vs ∧ E (.ref C) (some d) H' := by
  obtain ⟨a, C, d, H', vs, rfl, lo, os, bare, un, hok, ha, xr, fl, q⟩ := cx
  exact ⟨a, C, d, H', vs, rfl, lo, I.call' (ch := []) os un hok bare (fun b z => absurd z (by simp)), ha, xr, fl, q⟩
section
variable {P : Program} {w : World} {K : PySem.W.Frag} {mg : Str → Option Value} {base : Heap} {N : List Str} {qual : Str} {scope : Scope} {f : Addr} {cd : Value} {A : Around} {outer : List Env} {s : Shared} {H : Hp} {E : XK}
theorem passF : PassX (cxOf (CXe P w) P w K mg base N qual scope f cd A outer s H E) (fun _ => E) := by
  intro pins σ H1 s1 e s' I cx
  show wpAny (model P w) _ (leaving _ e) _ _ s'
  unfold leaving
  refine wpAny_bind (cx_note (base := base) I.ok.frames I.stack I.stkFree rfl cx fun s3 c3 => ?_)
  obtain ⟨a, C, d, H', vs, rfl, lo, J, ha, xr, fl, q⟩ := I.caught c3
  have sz : s.heap.objs.size ≤ s1.heap.objs.size := I.sz
  exact ⟨a, C, d, H', vs, rfl, Nat.le_trans sz lo, J.os, J.bare, J.base, J.hok, ha, xr, fl.mono sz, q⟩
theorem ownF : PassesOwn (model P w) (cxOf (CXe P w) P w K mg base N qual scope f cd A outer s H E).A (cxOf (CXe P w) P w K mg base N qual scope f cd A outer s H E).env (cxOf (CXe P w) P w K mg base N qual scope f cd A outer s H E).xe :=
  fun e s' h => PassesOwn.leaving (Q₁ := fun e s'' => CXe P w outer H s E e s'') e s' h
end
def tCallX (sp : Sp) (dvs : List V) (E : St → XK) (t : TA) : TE := fun σ H Q => t σ H fun vs H1 => sp (vs ++ dvs) H1 Q (E σ)
def HasX (P : Program) (w : World) (K : PySem.W.Frag) (mg : Str → Option Value) (base : Heap) (k : Nat) (x : Str) (ps : List Str) (sp : Sp) : Prop :=
  ∃ f fd, FnOk P w K mg base (CXe P w) k f fd ps sp ∧ Binds K fd ps [] ∧ PySem.W.keepIn K (.ref f) = true ∧ mg x = some (.ref f)
section
variable {X : Cx} {k j : Nat} {f C : Addr} {fd : FuncData} {ps : List Str} {sp : Sp} {dvs : List V} {ds : List Value} {E : St → XK} {x m : Str} {p pos apos : Pos} {e o : Expr} {es : List Expr} {ta : TE} {t : TA}
theorem run_fnX {pins : List (Addr × Obj)} {σ : St} {H : Hp} {s : Shared} {Q : VK} {us : List Value} {vs : List V} (F : FnOk X.prog X.w X.K X.mg X.base (CXe X.prog X.w) k f fd ps sp) (hr : Room k X.A) (hb : Binds X.K fd ps ds) (hd : Vals dvs ds) (hx : PassX X E)
    (I : Inv X pins σ H s) (r : Vals vs us) (h : sp (vs ++ dvs) H Q (E σ)) : wpAny (model X.prog X.w) X.A (call (.ref f) us) (EP X pins σ Q) X.xe s := by
  have r2 : Vals (vs ++ dvs) (us ++ ds) := r.append hd
  have hl : (us ++ ds).length = ps.length := by rw [← r2.length]; exact F.len _ _ _ _ h
  refine wpAny_call (codeAny_mono (F.run X.A X.stack s H ⟨us, []⟩ (us ++ ds) (vs ++ dvs) Q (E σ) hr I.env0 (hb s us I.kIn hl) r2 h) fun r s' hq => ?_)
  cases r with
  | error e => exact hx pins σ H s e s' I hq
  | ok fl => cases fl <;> first | exact I.after hq | exact False.elim hq
theorem pe_fnX (h : HasX X.prog X.w X.K X.mg X.base k x ps sp) (hr : Room j X.A) (hj : k ≤ j) (hx : PassX X E) (hg : Gl X x) (ha : PA X (e :: es) t)
    (hdb : (x == ("__debug__" : Str)) = false := by decide) (he : starEach (e :: es) X.env = (false, eval e X.env) :: starEach es X.env := by rfl) (hpl : (backTo pos (starEach es X.env)).any (·.1) = false := by rfl) :
    PE X (.Call (.Name x p) (e :: es) [] pos) (tCallX sp [] E t) := by
  obtain ⟨f, fd, F, b, kp, hm⟩ := h
  intro pins s σ H Q I h
  refine wpAny_Call_Name_kw (ld_glob I hg hm ?_ hdb)
  refine PySem.W.callWith_K (h₀ := X.base) I.ok.mod.kin kp (thn (ha pos pins s σ H _ I h) fun us s1 ⟨vs, H1, I1, r, q⟩ => ⟨I1.kIn, ?_⟩) he hpl
  exact run_fnX F (hr.mono hj) b .nil hx I1 r q
def tMethX (C : Addr) (m : Str) (sp : Sp) (E : St → XK) (ta : TE) (t : TA) : TE := fun σ H Q => ta σ H fun x H1 => ∃ a dx fs, x = .ref a ∧ H1 a = some (.ins C dx fs) ∧ fs.lookup m = none ∧ t σ H1 fun vs H2 => sp (x :: (vs ++ [])) H2 Q (E σ)
theorem pe_methX {pl : Sem Bool} (he : PE X o ta) (c : Cls X.K C) (hm : Meth X.K C m f) (F : FnOk X.prog X.w X.K X.mg X.base (CXe X.prog X.w) k f fd ps sp) (hr : Room k X.A) (hb : Binds X.K fd ps []) (hx : PassX X E) (ha : PA X (e :: es) t)
    (hst : starEach (e :: es) X.env = (false, eval e X.env) :: starEach es X.env := by rfl) (hpl : (backTo pos (starEach es X.env)).any (·.1) = false := by rfl)
    (ht : eval (.Call (.Attribute o m apos) (e :: es) [] pos) X.env = (do
      let ov ← eval o X.env
      standAt apos.atName
      let (f, first) ← holding [ov] (getMethod ov m pl)
      callWith pos f first (backTo pos (starEach (e :: es) X.env)) (backToKw pos (keywordEach [] X.env))) := by rfl) :
    PE X (.Call (.Attribute o m apos) (e :: es) [] pos) (tMethX C m sp E ta t) := by
  intro pins s σ H Q I h
  refine PySem.W.methodCall_KW (pl := pl) (thn (he pins s σ H _ I h) fun u s1 ⟨x, H1, I1, rx, a, dx, fs, ex, ea, l, q⟩ => ?_) ht
  subst ex
  obtain rfl : u = Value.ref a := rx
  refine getmeth_ok I1 ea c hm l ?_
  refine PySem.W.callWith_K (first := [.ref a]) (h₀ := X.base) I.ok.mod.kin hm.kp (thn (ha pos pins s1 σ H1 _ I1 q) fun us s2 ⟨vs, H2, I2, r, q2⟩ => ⟨I2.kIn, ?_⟩) hst hpl
  exact run_fnX (us := .ref a :: us) (vs := .ref a :: vs) F hr hb .nil hx I2 (.cons rfl r) q2
end
section
variable {P : Program} {w : World} {K : PySem.W.Frag} {mg : Str → Option Value} {base : Heap}
theorem Fun.okX {x qual : Str} {st : Stmt} {f : Addr} {fd : FuncData} {N ps : List Str} {k : Nat} {sp : Sp} (F : Fun K x qual st f fd) (S : FnScope N ps (defScope st)) (len : ∀ vs H Q E, sp vs H Q E → vs.length = ps.length)
    (hbody : ∀ (cdv : Value) (A : Around) (outer : List Env) (s : Shared) (H : Hp) (vs : List V) (Q : VK) (E : XK), Room k (A.deeper (envOfC qual (defScope st) s.heap.objs.size f cdv)) → sp vs H Q E →
      ∃ t, PSs (cxOf (CXe P w) P w K mg base N qual (defScope st) f cdv A outer s H E) (defBody st) t ∧ t { nx := fun _ H' => Q .non H', rt := Q } (start N vs) H) : FnOk P w K mg base (CXe P w) (k + 1) f fd ps sp := by
  obtain ⟨oc, od, kV, doc, pm, an, cdv, ct, osl, rfl, lk, hcd⟩ := F.ex
  exact fn_of lk hcd S len fun A outer s H vs Q E hr hsp => hbody cdv A outer s H vs Q E hr hsp
end
structure XCls (K : PySem.W.Frag) (C f : Addr) : Prop where
  rec_ : ∃ (nm q : Str) (N : Addr) (bs bm : List Value) (sn : List Str) (sub : List Value) (ab : Bool) (col : Option Bool) (dd : Option Addr) (k0 k1 k2 k3 k5 : Option Value),
    K.lookup C = some (excClassObj nm q C N bs bm true sn sub ab col dd k0 k1 k2 k3 k5 "ValueError.__new__")
  isV : PySem.W.mroIn K C (.type "ValueError") = some true
  isB : PySem.W.mroIn K C (.type "BaseException") = some true
  noA : PySem.W.mroIn K C (.type "AttributeError") = some false
  noN : PySem.W.mroIn K C (.type "NameError") = some false
  init : PySem.W.findIn K (.ref C) "__init__" = some (some (.ref f))
  fn : PySem.W.isFn K (.ref f) = true
  kp : PySem.W.keepIn K (.ref C) = true
theorem mro_has {K : PySem.W.Frag} {C : Addr} {nm q : Str} {N : Addr} {bs bm : List Value} {hd : Bool} {sn : List Str} {sub : List Value} {ab : Bool} {col : Option Bool} {dd : Option Addr} {k0 k1 k2 k3 k5 : Option Value} {nid : String} {v : Value} {b : Bool}
    (l : K.lookup C = some (excClassObj nm q C N bs bm hd sn sub ab col dd k0 k1 k2 k3 k5 nid)) (h : PySem.W.mroIn K C v = some b) : (Value.ref C :: bm).contains v = b := by
  unfold PySem.W.mroIn PySem.W.clsIn at h
  rw [l] at h
  simpa using h
section
variable {prog : Program} {w : World} {A : Around} {E : Value → Shared → Prop} {h : Heap} {g : Array GenState} {d : Drawn} {t : Nat} {os : OsState}
variable {nm q : Str} {C N : Addr} {bs bm : List Value} {hdct : Bool} {sn : List Str} {sub : List Value} {ab : Bool} {col : Option Bool} {dd : Option Addr} {k0 k1 k2 k3 k5 : Option Value}
local macro_rules | `(tactic| walk_at "vlu") => `(tactic| exact PySem.F.excBase_ValueError)
theorem new_check {M : Model} {rest : List Value} {Q : Unit → Shared → Prop} (kc : h.get? C = some (excClassObj nm q C N bs bm hdct sn sub ab col dd k0 k1 k2 k3 k5 "ValueError.__new__")) (isV : (Value.ref C :: bm).contains (.type "ValueError") = true)
    (z : Q () ⟨h, g, d, t, os⟩) : wpAny M A (checkBuiltinCall "ValueError.__new__" ⟨.ref C :: rest, []⟩) Q E ⟨h, g, d, t, os⟩ := by
  have G := PySem.F.excBase_ValueError
  have star := G.noStar
  simp only [checkBuiltinCall, G.newKind, G.newSplit, G.newRow]
  repeat (first | refine wpAny_loadPart_at kc ?_ | (refine wpAny_isSubtype_exc kc ?_; rw [isV]) | refine wpAny_staticBase_exc kc ?_ | refine wpAny_madeBy_exc kc ?_ | simp only [bne_self_eq_false, Bool.false_eq_true, if_false] | wp_step)
  exact z
theorem new_code {R : Result → Shared → Prop} {rest : List Value} (kc : h.get? C = some (excClassObj nm q C N bs bm hdct sn sub ab col dd k0 k1 k2 k3 k5 "ValueError.__new__")) (isV : (Value.ref C :: bm).contains (.type "ValueError") = true)
    (noA : (Value.ref C :: bm).contains (.type "AttributeError") = false) (noN : (Value.ref C :: bm).contains (.type "NameError") = false)
    (z : R (.ok (.ret (.ref (h.objs.size + 1)))) ⟨(h.push { cls := .type "tuple", data := .seq rest.toArray }).push { cls := .ref C, data := .fields #[.ref h.objs.size, .none, .none, .none, .bool false, .none] }, g, d, t, os⟩) (lim : rest.length ≤ sizeLine) :
    codeAny (model prog w) A (.builtin "ValueError.__new__" ⟨.ref C :: rest, []⟩) R ⟨h, g, d, t, os⟩ := by
  have G := PySem.F.excBase_ValueError
  have ends := G.ends
  refine codeAny_builtinAt G.entry ?_
  unfold Builtin.«BaseException.__new__»
  refine PySem.wpAt_bind ?_
  show PySem.wpAt _ _ _ (stack >>= _) _ _ _
  refine PySem.wpAt_bind (PySem.wpAt_stack fun p below => PySem.wpAt_of_wpAny ?_)
  wp_walk
  refine PySem.wpAt_of_wpAny ?_
  rw [G.owner]
  repeat (first | with_reducible refine wpAny_madeHere_exc G.canon kc ?_ | with_reducible refine wpAny_loadPart_at kc ?_ | (with_reducible refine wpAny_isSubtype_exc kc ?_; first | rw [isV] | rw [noA] | rw [noN]) | wp_step)
  show R _ _
  rw [Heap.size_push]
  exact z
theorem exc_tree {rest : List Value} {fI : Addr} {Q : Fin → Shared → Prop} (kc : h.get? C = some (excClassObj nm q C N bs bm hdct sn sub ab col dd k0 k1 k2 k3 k5 "ValueError.__new__")) (isV : (Value.ref C :: bm).contains (.type "ValueError") = true)
    (noA : (Value.ref C :: bm).contains (.type "AttributeError") = false) (noN : (Value.ref C :: bm).contains (.type "NameError") = false)
    (li : PySem.W.Looks (model prog w) h (typeLookup (.ref C) "__init__") (some (.ref fI))) (lt : PySem.W.Looks (model prog w) h (typeOf (.ref fI)) (.type "function"))
    (z : wpAny (model prog w) A (call (.ref fI) (.ref (h.objs.size + 1) :: rest)) (fun r s' => r = .none ∧ Q (.done (.ret (.ref (h.objs.size + 1)))) s') E
      ⟨(h.push { cls := .type "tuple", data := .seq rest.toArray }).push { cls := .ref C, data := .fields #[.ref h.objs.size, .none, .none, .none, .bool false, .none] }, g, d, t, os⟩) (lim : rest.length ≤ sizeLine) :
    wpAny (model prog w) A (Builtin.«type.__call__» ⟨.ref C :: rest, []⟩) Q E ⟨h, g, d, t, os⟩ := by
  have G := PySem.F.excBase_ValueError
  repeat (first | with_reducible refine wpAny_loadPart_at kc ?_ | with_reducible refine wpAny_madeBy_exc kc ?_ | wp_step)
  refine codeAny_call_builtin_code (Code.quiet_builtin _ G.quiet) (new_check kc isV (new_code kc isV noA noN ?_ lim))
  show wpAny _ _ _ _ _ _
  have up : ∀ b o, h.get? b = some o → ((h.push { cls := .type "tuple", data := .seq rest.toArray }).push { cls := .ref C, data := .fields #[.ref h.objs.size, .none, .none, .none, .bool false, .none] }).get? b = some o :=
    fun b o e => Heap.get?_push_of_some _ (Heap.get?_push_of_some _ e)
  have kc1 := up _ _ kc
  have here : ((h.push { cls := .type "tuple", data := .seq rest.toArray }).push { cls := .ref C, data := .fields #[.ref h.objs.size, .none, .none, .none, .bool false, .none] }).get? (h.objs.size + 1) =
      some { cls := .ref C, data := .fields #[.ref h.objs.size, .none, .none, .none, .bool false, .none] } := by heap_get
  have self_ : (Value.ref C :: bm).contains (.ref C) = true := by simp
  unfold isInstance
  repeat (first | with_reducible refine wpAny_loadPart_at here ?_ | (with_reducible refine wpAny_isSubtype_exc kc1 ?_; rw [self_]) | wp_step)
  show wpAny _ _ (typeLookup (.ref C) _) _ _ _
  refine (li.keeps up) _ _ _ _ (fun _ _ e => e) ?_
  refine wpAny_holding (wpAny_bind ?_)
  unfold bindSpecial
  refine wpAny_bind ((lt.keeps up) _ _ _ _ (fun _ _ e => e) ?_)
  rw [if_pos (by decide)]
  refine wpAny_pure (wpAny_bind (wpAny_mono z (fun r s' hr => ?_) fun _ _ x => x))
  obtain ⟨rfl, hQ⟩ := hr
  wp_walk
  exact hQ
theorem exc_call {rest : List Value} {fI : Addr} {Q : Value → Shared → Prop} (kc : h.get? C = some (excClassObj nm q C N bs bm hdct sn sub ab col dd k0 k1 k2 k3 k5 "ValueError.__new__")) (isV : (Value.ref C :: bm).contains (.type "ValueError") = true)
    (noA : (Value.ref C :: bm).contains (.type "AttributeError") = false) (noN : (Value.ref C :: bm).contains (.type "NameError") = false)
    (li : PySem.W.Looks (model prog w) h (typeLookup (.ref C) "__init__") (some (.ref fI))) (lt : PySem.W.Looks (model prog w) h (typeOf (.ref fI)) (.type "function"))
    (z : wpAny (model prog w) (A.under (.builtin "type.__call__" ⟨.ref C :: rest, []⟩)) (call (.ref fI) (.ref (h.objs.size + 1) :: rest)) (fun r s' => r = .none ∧ Q (.ref (h.objs.size + 1)) s') E
      ⟨(h.push { cls := .type "tuple", data := .seq rest.toArray }).push { cls := .ref C, data := .fields #[.ref h.objs.size, .none, .none, .none, .bool false, .none] }, g, d, t, os⟩) (lim : rest.length ≤ sizeLine) :
    wpAny (model prog w) A (call (.ref C) rest) Q E ⟨h, g, d, t, os⟩ := by
  have f1 := tc_lookup
  have f2 := tc_bind (.ref C)
  have ty : (⟨h, g, d, t, os⟩ : Shared).TypeIs (.ref C) "type" := ⟨_, kc, rfl⟩
  refine wpAny_call (codeAny_of_tree ?_)
  show wpAny _ _ (callAny (.ref C) _) _ _ _
  repeat (any_goals (first | assumption | with_reducible refine wpAny_loadPart_at kc ?_ | wp_step))
  refine ⟨rfl, ?_⟩
  exact codeAny_call_builtin_at (Code.quiet_builtin _ (by decide +kernel)) entry_typeCall (wpAny_check_type_call_sub kc (exc_tree kc isV noA noN li lt z lim))
end
end L2
namespace L2
open PySem PySem.Spec PyProof.Rows
open PySem.W (Looks InstAt looks_findIn looks_typeIn looks_clsIn looks_mroIn looks_find findObj findIn mroIn clsIn)
abbrev vMro : List Value := [.type "ValueError", .type "Exception", .type "BaseException", .type "object"]
structure XAt (K : PySem.W.Frag) (C : Addr) : Prop where
  rec_ : ∃ (nm q : Str) (N : Addr) (bs : List Value) (cs : List Addr) (sn : List Str) (sub : List Value) (ab : Bool) (col : Option Bool) (dd : Option Addr) (k0 k1 k2 k3 k5 : Option Value),
    K.lookup C = some (excClassObj nm q C N bs (cs.map Value.ref ++ vMro) true sn sub ab col dd k0 k1 k2 k3 k5 "ValueError.__new__")
  ga : findIn K (.ref C) "__getattribute__" = some (some (.builtin "BaseException.__getattribute__"))
  gh : findIn K (.ref C) "__getattr__" = some none
  sa : findIn K (.ref C) "__setattr__" = some (some (.builtin "object.__setattr__"))
  cl : findIn K (.ref C) "__class__" = some (some (.builtin "object.__class__"))
  cg : PySem.W.specialIn K (.builtin "object.__class__") "__get__" = some (some (.builtin "getset_descriptor.__get__"))
  ct : PySem.W.takesIn K (.builtin "object.__class__") = some true
theorem has_v (C : Addr) (cs : List Addr) (v : Value) (h : vMro.contains v = true) : (Value.ref C :: (cs.map Value.ref ++ vMro)).contains v = true := by
  rw [List.contains_iff_mem] at h ⊢
  exact List.mem_cons_of_mem _ (List.mem_append_right _ h)
theorem has_not (C : Addr) (cs : List Addr) (n : String) (h : vMro.contains (.type n) = false) : (Value.ref C :: (cs.map Value.ref ++ vMro)).contains (.type n) = false := by
  rw [Bool.eq_false_iff] at h ⊢
  intro z
  rw [List.contains_iff_mem] at z
  refine h (List.contains_iff_mem.mpr ?_)
  rcases List.mem_cons.mp z with z | z
  · cases z
  · rcases List.mem_append.mp z with z | z
    · obtain ⟨a, _, e⟩ := List.mem_map.mp z
      cases e
    · exact z
theorem XAt.mro {K : PySem.W.Frag} {C : Addr} (x : XAt K C) (v : Value) (h : vMro.contains v = true) : mroIn K C v = some true := by
  obtain ⟨nm, q, N, bs, cs, sn, sub, ab, col, dd, k0, k1, k2, k3, k5, l⟩ := x.rec_
  unfold PySem.W.mroIn PySem.W.clsIn
  rw [l]
  show some ((Value.ref C :: (cs.map Value.ref ++ vMro)).contains v) = some true
  rw [has_v C cs v h]
theorem XAt.hd {K : PySem.W.Frag} {C : Addr} (x : XAt K C) : PySem.W.hasDictIn K C = true := by
  obtain ⟨nm, q, N, bs, cs, sn, sub, ab, col, dd, k0, k1, k2, k3, k5, l⟩ := x.rec_
  unfold PySem.W.hasDictIn PySem.W.clsIn
  rw [l]
  rfl
theorem XRec.inst {h : Heap} {a C d : Addr} {vs : Array Value} {od : Obj} (x : XRec h a C (some d) vs) (e : h.get? d = some od) : ∃ ox, InstAt h a ox C (some od) := by
  obtain ⟨oe, e1, e2, e3, e4, _⟩ := x
  refine ⟨oe, e1, e2, ?_, ?_⟩
  · unfold PySem.W.notCls
    rw [e4]
  · rw [e3]
    exact e
theorem XRec.inst0 {h : Heap} {a C : Addr} {vs : Array Value} (x : XRec h a C none vs) : ∃ ox, InstAt h a ox C none := by
  obtain ⟨oe, e1, e2, e3, e4, _⟩ := x
  refine ⟨oe, e1, e2, ?_, ?_⟩
  · unfold PySem.W.notCls
    rw [e4]
  · rw [e3]
    trivial
section
variable {prog : Program} {w : World} {A : Around} {E : Value → Shared → Prop} {s : Shared} {K : PySem.W.Frag} {x C : Addr} {ox : Obj} {od : Option Obj} {name : Str}
theorem ga_run {tk : Tok} {R : Result → Shared → Prop} (KX : K.In s.heap) (I : InstAt s.heap x ox C od) (X : XAt K C)
    (k : wpAny (model prog w) A.in1 (Builtin.«object.__getattribute__» ⟨[.ref x, .str name tk], []⟩) (fun fin s' => match fin with | .done f => R (.ok f) s' | .again c' => c'.quiet = true ∧ codeAny (model prog w) A c' R s') (fun e s' => R (.error e) s') s) :
    codeAny (model prog w) A (.call (.builtin "BaseException.__getattribute__") ⟨[.ref x, .str name tk], []⟩) R s := by
  have G := PySem.F.attr_ValueError
  have isB : Looks (model prog w) s.heap (isInstance (.ref x) (.type "BaseException")) true := (I.type).andThen (looks_mroIn KX (X.mro _ (by decide)))
  exact codeAny_call_builtin G.ga.plain PySem.F.entry_bexc_ga (PySem.W.check_slot (i := "BaseException.__getattribute__") (owner := "BaseException") (n := "__getattribute__") (by decide +kernel) (by decide +kernel) isB (PySem.F.args_bexc_ga _ _) k)
theorem by_own {tk : Tok} {fill expr : Bool} {Q : Value → Shared → Prop} (KX : K.In s.heap) (I : InstAt s.heap x ox C od) (X : XAt K C)
    (k : codeAny (model prog w) A (.call (.builtin "BaseException.__getattribute__") ⟨[.ref x, .str name tk], []⟩) (fun r s' => match r with | .ok (.ret v) => PySem.W.handedIn v = true ∧ Q v s' | _ => False) s) :
    wpAny (model prog w) A (getAttrBy (.ref x) (.str name tk) fill expr) Q E s := by
  have L0 := I.type (M := model prog w)
  have L1 := looks_findIn (M := model prog w) KX X.ga
  have L2 := looks_findIn (M := model prog w) KX X.gh
  unfold getAttrBy
  refine wpAny_holding (wpAny_bind (L0.here (wpAny_bind (L1.here ?_))))
  show wpAny _ _ (if (onTheHeap (Value.ref C) && Value.builtin "BaseException.__getattribute__" == Value.builtin "object.__getattribute__") = true then _ else getAttrByItsOwn (.ref x) (.str name tk) (.ref C) (.builtin "BaseException.__getattribute__") fill expr) _ _ _
  rw [if_neg (by rw [show (Value.builtin "BaseException.__getattribute__" == Value.builtin "object.__getattribute__") = false from by decide +kernel, Bool.and_false]; exact Bool.false_ne_true)]
  unfold getAttrByItsOwn
  have L3 : Looks (model prog w) s.heap (hookBefore (.ref C)) none := L2
  refine wpAny_bind (L3.here (wpAny_bind (wpAny_attempt (wpAny_holding ?_))))
  unfold callGetattribute
  rw [if_neg (by cases expr <;> exact Bool.false_ne_true)]
  unfold boundAndCalled
  rw [PySem.F.attr_ValueError.ga.bind]
  refine wpAny_bind (wpAny_pure (wpAny_call (codeAny_mono k fun r s' z => ?_)))
  cases r with
  | error e => exact z.elim
  | ok f =>
    cases f with
    | ret v =>
      obtain ⟨z1, z2⟩ := z
      show wpAny _ _ (handedOut v) _ _ _
      rw [PySem.W.handedOut_of z1]
      exact wpAny_pure z2
    | next => exact z.elim
    | brk => exact z.elim
    | cont => exact z.elim
theorem getx {expr : Bool} {v : Value} {Q : Value → Shared → Prop} (KX : K.In s.heap) (I : InstAt s.heap x ox C od) (X : XAt K C) (hf : findObj K C od name = some (.value v)) (hh : PySem.W.handedIn v = true) (q : Q v { s with toks := s.toks + 1 }) :
    wpAny (model prog w) A (getAttr (.ref x) name expr) Q E s := by
  unfold getAttr
  refine wpAny_bind (wpAny_mkText (by_own (s := { s with toks := s.toks + 1 }) KX I X (ga_run (s := { s with toks := s.toks + 1 }) KX I X ?_)))
  obtain ⟨h0, g, d, t, os⟩ := s
  have L0 := I.type (M := model prog w)
  have L1 := looks_find (M := model prog w) KX I hf
  refine wpAny_bind (wpAny_pure (wpAny_bind (wpAny_pure (wpAny_bind (L0.at (wpAny_bind (L1.at ?_)))))))
  exact wpAny_pure (And.intro hh q)
theorem getx_class {od : Obj} {Q : Option Value → Shared → Prop} (KX : K.In s.heap) (I : InstAt s.heap x ox C (some od)) (X : XAt K C) (q : Q (some (.ref C)) { s with toks := s.toks + 1 }) : wpAny (model prog w) A (getAttr? (.ref x) "__class__") Q E s := by
  have hf : findObj K C (some od) "__class__" = some (.bind (.builtin "getset_descriptor.__get__") (.builtin "object.__class__")) := PySem.W.findObj_data (by obtain ⟨cd, hc, _⟩ := PySem.W.any_some X.hd; rw [hc]; rfl) X.cl X.cg X.ct
  unfold getAttr? getAttrBy?
  refine wpAny_bind (wpAny_mkText (wpAny_bind (wpAny_attempt (by_own (s := { s with toks := s.toks + 1 }) KX I X (ga_run (s := { s with toks := s.toks + 1 }) KX I X ?_)))))
  have L0 := I.type (M := model prog w)
  have L1 := looks_find (M := model prog w) KX I hf
  refine wpAny_bind (wpAny_pure (wpAny_bind (wpAny_pure (wpAny_bind (L0.here (s := { s with toks := s.toks + 1 }) (wpAny_bind (L1.here (s := { s with toks := s.toks + 1 }) ?_)))))))
  show wpAny _ _ (holding [Value.builtin "object.__class__"] (call (.builtin "getset_descriptor.__get__") [.builtin "object.__class__", .ref x, .ref C]) >>= ret) _ _ _
  refine wpAny_bind (wpAny_holding (wpAny_call (PySem.W.class_get (s := { s with toks := s.toks + 1 }) (ox := ox) (od := some od) KX I (X.mro _ (by decide)) ?_)))
  exact wpAny_pure ⟨rfl, wpAny_pure q⟩
theorem kitx_exc {od : Obj} (X : XAt K C) : PySem.W.KitX K (.ref x) (.ref C) (fun h => ∃ ox, InstAt h x ox C (some od)) where
  ty := fun _ _ _ ⟨_, I⟩ => I.type
  it := fun _ _ KX _ => by
    obtain ⟨nm, q, N, bs, cs, sn, sub, ab, col, dd, k0, k1, k2, k3, k5, l⟩ := X.rec_
    intro A' Q' E' s' k q
    unfold isType loadHead
    exact wpAny_bind (wpAny_loadPart (k _ _ (KX _ _ l)) (wpAny_pure q))
  ne := fun h tp dd0 its n sl KX e => by
    obtain ⟨nm, q, N, bs, cs, sn, sub, ab, col, dd, k0, k1, k2, k3, k5, l⟩ := X.rec_
    refine Bool.eq_false_iff.mpr fun z => ?_
    have z : C = tp := Value.ref.inj (beq_iff_eq.mp z)
    subst z
    have y := congrArg Obj.cls (Option.some.inj ((KX _ _ l).symm.trans e))
    exact absurd (Value.type.inj y) (by decide)
  ca := fun KX ⟨_, I⟩ k => getx_class KX I X k
theorem refuse_exc (self : Value) : ∀ cs : List Addr, refuseLoop self "__setattr__" (cs.map Value.ref ++ vMro) = pure ()
  | [] => PySem.F.store_ValueError.passes self
  | c :: r => by
    show refuseLoop self "__setattr__" (.ref c :: (r.map Value.ref ++ vMro)) = pure ()
    rw [refuseLoop_ref]
    exact refuse_exc self r
theorem setx {v : Value} {Q : Unit → Shared → Prop} (KX : K.In s.heap) (I : InstAt s.heap x ox C od) (X : XAt K C) (na : findIn K (.ref C) name = some none)
    (k : wpAny (model prog w) A.in1 (Builtin.ObjectAttr.storeInOwnDict (.ref x) (.ref C) (.str name s.toks) name v false) (fun fin s' => fin = PySem.Fin.done (.ret .none) ∧ Q () s') (fun _ _ => False) { s with toks := s.toks + 1 }) :
    wpAny (model prog w) A (setAttr (.ref x) name v) Q E s := by
  have SF := PySem.F.store_object
  refine PySem.W.set_plain KX I X.sa ?_
  have sub : Looks (model prog w) s.heap (isInstance (.ref x) (.type "object")) true := I.type.andThen (looks_mroIn KX (X.mro _ (by decide)))
  refine codeAny_call_builtin SF.slot.plain SF.entry (@PySem.W.check_slot (model prog w) _ _ { s with toks := s.toks + 1 } "object.__setattr__" "object" "__setattr__" (.ref x) [.str name s.toks, v] [] _ SF.kind SF.split sub (SF.args (.ref x) (.str name s.toks) v) ?_)
  obtain ⟨nm, q, N, bs, cs, sn, sb, ab, col, dd, k0, k1, k2, k3, k5, l⟩ := X.rec_
  have hm : Looks (model prog w) s.heap (mroOf (.ref C)) (.ref C :: (cs.map Value.ref ++ vMro)) := (looks_clsIn KX (by unfold PySem.W.clsIn; rw [l])).andThen .now
  rw [PySem.W.osa_eq, refuse_eq]
  refine wpAny_bind (wpAny_bind (I.type.here (s := { s with toks := s.toks + 1 }) (wpAny_bind (hm.here (s := { s with toks := s.toks + 1 }) ?_))))
  rw [refuseLoop_ref, refuse_exc]
  refine wpAny_pure (wpAny_bind (I.type.here (s := { s with toks := s.toks + 1 }) (wpAny_bind ((looks_findIn KX na).here (s := { s with toks := s.toks + 1 }) (wpAny_bind (wpAny_pure ?_))))))
  refine wpAny_mono k (fun fin s' z => ?_) fun _ _ z => z.elim
  obtain ⟨rfl, z⟩ := z
  exact z
end
end L2
namespace L2
open PySem PySem.Spec PyProof.Rows
open PySem.W (Looks InstAt looks_findIn looks_typeIn looks_clsIn looks_mroIn looks_find findObj findIn mroIn clsIn)
def xq (d : Addr) (fs : List (Str × V)) : HO := .ext fun h => ∃ mA, h.Ns1 d mA ∧ (∀ f, RelO (fs.lookup f) (mA f)) ∧ PySem.Within mA (fs.map (·.1))
theorem xq_ok {P : Program} {w : World} {H : Hp} {h : Heap} {d : Addr} {fs : List (Str × V)} {mA : Str → Option Value} (n : h.Ns1 d mA) (r : ∀ f, RelO (fs.lookup f) (mA f)) (wi : PySem.Within mA (fs.map (·.1))) : ObjOk P w H h d (xq d fs) :=
  ⟨⟨mA, n, r, wi⟩, let ⟨o, _, _, e, _⟩ := n; ⟨o, e⟩, fun _ _ ⟨m, y, q⟩ k => ⟨m, y.at k, q⟩⟩
theorem xq_get {P : Program} {w : World} {H : Hp} {h : Heap} {d : Addr} {fs : List (Str × V)} (ok : HOk P w H h) (e : H d = some (xq d fs)) : ∃ mA, h.Ns1 d mA ∧ (∀ f, RelO (fs.lookup f) (mA f)) ∧ PySem.Within mA (fs.map (·.1)) := (ok d _ e).1
theorem put_rel {f : Str} {y : V} {u : Value} {fs : List (Str × V)} {mA : Str → Option Value} (ry : RelV y u) (r : ∀ g, RelO (fs.lookup g) (mA g)) : ∀ g, RelO ((putF f y fs).lookup g) (if g = f then some u else mA g) := fun g => by
  rw [lookup_putF]
  by_cases q : g = f
  · rw [if_pos q, if_pos q]; exact ry
  · rw [if_neg q, if_neg q]; exact r g
theorem put_within {f : Str} {y : V} {u : Value} {fs : List (Str × V)} {mA : Str → Option Value} (wi : PySem.Within mA (fs.map (·.1))) : PySem.Within (fun g => if g = f then some u else mA g) ((putF f y fs).map (·.1)) := fun g hg => by
  by_cases q : g = f
  · rw [q]; exact (keys_putF f y fs).1
  · refine (keys_putF f y fs).2 g (wi g fun z => hg ?_)
    show (if g = f then some u else mA g) = none
    rw [if_neg q]; exact z
section
variable {prog : Program} {w : World} {A : Around} {E : Value → Shared → Prop} {s : Shared} {K : PySem.W.Frag} {x C : Addr} {name : Str} {nV v : Value} {b : Bool} {tk : Tok}
theorem store_has {ox : Obj} {d : Addr} {mA : Str → Option Value} {ns : List Str} {Q : PySem.Fin → Shared → Prop} (KX : K.In s.heap) (X : XAt K C) (hx : s.heap.get? x = some ox) (hc : ox.cls = .ref C) (hd : ox.dict = some d) (n : s.heap.Ns1 d mA) (wi : PySem.Within mA ns) (sz : ns.length < sizeLine)
    (k : ∀ h' tk', h'.Ns1 d (fun y => if y = name then some v else mA y) → Heap.SameBut d s.heap h' → Q (.done (.ret .none)) { s with heap := h', toks := tk' }) :
    wpAny (model prog w) A (Builtin.ObjectAttr.storeInOwnDict (.ref x) (.ref C) (.str name tk) name v b) Q E s := by
  obtain ⟨oc, odi, oda, osl⟩ := ox
  dsimp only at hc hd
  subst hc hd
  obtain ⟨cd, hcd, hh⟩ := PySem.W.any_some X.hd
  refine wpAny_bind (wpAny_pure (wpAny_bind (wpAny_bind (wpAny_loadPart hx (wpAny_bind ((looks_clsIn KX hcd).here ?_))))))
  rw [hh]
  refine wpAny_pure (a := some d) (wpAny_bind (wpAny_pure (wpAny_bind (wpAny_nsSet1 n fun h' n2 s2 => ?_))))
  obtain ⟨oD, esD, epD, hoD, hdD, hcD⟩ := n2.count (PySem.Within.cons name v wi)
  refine wpAny_bind (wpAny_lookBehind hoD (by rw [hdD]; exact pastItsLine_dict (Nat.le_trans hcD (by rw [List.length_cons]; omega))) ?_)
  exact wpAny_pure (k _ _ n2 s2)
theorem store_new {ox : Obj} {vs : Array Value} {Q : PySem.Fin → Shared → Prop} (KX : K.In s.heap) (X : XAt K C) (hx : s.heap.get? x = some ox) (hc : ox.cls = .ref C) (hd : ox.dict = none) (hf : ox.data = .fields vs)
    (k : ∀ h' tk', h'.Ns1 s.heap.objs.size (fun y => if y = name then some v else none) → h'.get? x = some { ox with dict := some s.heap.objs.size } → (∀ c o, c ≠ x → s.heap.get? c = some o → h'.get? c = some o) → Q (.done (.ret .none)) { s with heap := h', toks := tk' }) :
    wpAny (model prog w) A (Builtin.ObjectAttr.storeInOwnDict (.ref x) (.ref C) (.str name tk) name v b) Q E s := by
  obtain ⟨oc, odi, oda, osl⟩ := ox
  dsimp only at hc hd hf
  subst hc hd hf
  obtain ⟨cd, hcd, hh⟩ := PySem.W.any_some X.hd
  refine wpAny_bind (wpAny_pure (wpAny_bind (wpAny_bind (wpAny_loadPart hx (wpAny_bind ((looks_clsIn KX hcd).here ?_))))))
  rw [hh]
  have xs : x ≠ s.heap.objs.size := Nat.ne_of_lt (Heap.lt_size hx)
  have hx1 : (s.heap.push { cls := .type "dict", data := .dict #[] }).get? x = some ⟨.ref C, none, .fields vs, osl⟩ := Heap.get?_push_of_some _ hx
  refine wpAny_bind (wpAny_alloc' (wpAny_bind (wpAny_update' hx1 ?_)))
  refine wpAny_pure (a := some s.heap.objs.size) ?_
  have gd : ((s.heap.push { cls := .type "dict", data := .dict #[] }).update x fun o => { o with dict := some s.heap.objs.size }).get? s.heap.objs.size = some { cls := .type "dict", data := .dict #[] } :=
    (Heap.get?_update_ne _ _ _ _ xs.symm).trans (Heap.get?_push_at rfl rfl)
  have nd : ((s.heap.push { cls := .type "dict", data := .dict #[] }).update x fun o => { o with dict := some s.heap.objs.size }).Ns s.heap.objs.size (fun _ => none) := ⟨_, #[], _, gd, rfl, fun e he => absurd he (by simp), fun _ => rfl⟩
  refine wpAny_bind (wpAny_pure (wpAny_bind (wpAny_nsSet1 (Heap.Ns1.of_empty nd) fun h' n2 s2 => ?_)))
  obtain ⟨oD, esD, epD, hoD, hdD, hcD⟩ := n2.count (PySem.Within.cons name v PySem.Within.nil)
  refine wpAny_bind (wpAny_lookBehind hoD (by rw [hdD]; exact pastItsLine_dict (Nat.le_trans hcD (by rw [List.length_cons, List.length_nil, sizeLine_eq]; omega))) ?_)
  refine wpAny_pure (k _ _ n2 ?_ fun c o hc hg => ?_)
  · exact (s2.2 x xs).trans (Heap.get?_update_self _ hx1 rfl)
  · exact (s2.2 c (Nat.ne_of_lt (Heap.lt_size hg))).trans ((Heap.get?_update_ne _ _ _ _ hc).trans (Heap.get?_push_of_some _ hg))
end
def sXset (K : PySem.W.Frag) (ta tv : TE) (f : Str) : TS := fun D σ H => tv σ H fun y H1 => ta σ H1 fun x H2 => ∃ a C, x = .ref a ∧ XAt K C ∧ NoAttr K C f ∧
  ((H2 a = some (xn a C none) ∧ ∀ d, H2 d = none → d ≠ a → D.nx σ (upd (upd H2 d (xq d [(f, y)])) a (xn a C (some d)))) ∨
   ∃ d fs, H2 a = some (xn a C (some d)) ∧ H2 d = some (xq d fs) ∧ d ≠ a ∧ fs.length < 1000 ∧ D.nx σ (upd H2 d (xq d (putF f y fs))))
def tXfld (K : PySem.W.Frag) (ta : TE) (f : Str) : TE := fun σ H Q => ta σ H fun x H1 => ∃ a C d fs v, x = .ref a ∧ H1 a = some (xo a C (some d)) ∧ H1 d = some (xq d fs) ∧ XAt K C ∧ NoAttr K C f ∧ fs.lookup f = some v ∧ Q v H1
def rIsiX (K : PySem.W.Frag) : List V → Hp → VK → Prop := fun xs H Q => ∃ (a C d : Addr) (fs : List (Str × V)) (c : V) (u : Value) (b : Bool), xs = [.ref a, c] ∧ RelV c u ∧ H a = some (xo a C (some d)) ∧ H d = some (xq d fs) ∧ XAt K C ∧ PySem.W.kitOne K (.ref C) u = some b ∧ Q (.bl b) H
section
variable {X : Cx} {o e value : Expr} {f : Str} {pos pos' : Pos} {ta tv : TE}
theorem ps_xset (ha : PE X o ta) (hv : PE X value tv) (hs : swapsWith value (some (.Attribute o f pos')) pos.line X.env = pure false := by rfl) : PS X (.Assign [.Attribute o f pos'] value pos) (sXset X.K ta tv f) := by
  intro pins s σ H D I h
  refine plainObj_wpAny_Assign_Attribute (thn (hv pins s σ H _ I h) fun u s1 ⟨y, H1, I1, ry, q⟩ => thn (ha pins s1 σ H1 _ I1 q) fun ov s2 ⟨x, H2, I2, rx, a, C, ex, xa, na, q2⟩ => ?_) hs
  subst ex
  obtain rfl : ov = Value.ref a := rx
  rcases q2 with ⟨ea, q2⟩ | ⟨d, fs, ea, ed, nd, lim, q2⟩
  · obtain ⟨vs, xr, v1⟩ := xn_get I2.hok ea
    obtain ⟨ox, J⟩ := xr.inst0
    obtain ⟨oe, e1, e2, e3, e4, e5⟩ := xr
    refine setx I2.kIn J xa na (store_new (s := { s2 with toks := s2.toks + 1 }) I2.kIn xa e1 e2 e3 e4 fun h' tk n2 ex kp => ⟨rfl, ?_⟩)
    have dn : H2 s2.heap.objs.size = none := I2.hok.fresh (Nat.le_refl _)
    have ne : s2.heap.objs.size ≠ a := Nat.ne_of_gt (Heap.lt_size e1)
    refine ⟨σ, _, ?_, q2 s2.heap.objs.size dn ne⟩
    have hx' : XRec h' a C (some s2.heap.objs.size) vs := ⟨_, ex, e2, rfl, e4, e5⟩
    have rel : ∀ g : Str, RelO (List.lookup g [(f, y)]) (if g = f then some u else none) := put_rel (fs := []) (mA := fun _ => none) ry fun g => trivial
    have wi : PySem.Within (fun g => if g = f then some u else none) [f] := put_within (y := y) (fs := []) (mA := fun _ => none) fun g hg => absurd rfl hg
    have up : ∀ H0 : Hp, ObjOk X.prog X.w H0 h' a (xn a C (some s2.heap.objs.size)) := fun H0 => xn_ok hx' v1
    have uq : ∀ H0 : Hp, ObjOk X.prog X.w H0 h' s2.heap.objs.size (xq s2.heap.objs.size [(f, y)]) := fun H0 => xq_ok n2 rel wi
    refine I2.un (h' := h') (t' := tk) ⟨fun b ob hb n _ _ => ?_, fun b ob hb n fr _ => ?_, fun b ob hb n _ => ?_, fun b ob hb _ => ?_, fun b xs hb => ?_, fun b ob u hb => ?_, fun b ps hb => ?_⟩ fun b ob hb => ?_
    · exact kp b ob (fun z => by rw [z, ea] at n; cases n) hb
    · exact ⟨ob.slots, kp b ob (fun z => by rw [z, ea] at n; cases n) hb⟩
    · rw [upd_ne (fun z => by rw [z, ea] at n; cases n), upd_ne (Nat.ne_of_lt (Heap.lt_size hb))]; exact n
    · by_cases z : b = a
      · exact ⟨_, z ▸ ex⟩
      · exact ⟨ob, kp b ob z hb⟩
    · rw [upd_ne (fun z => by rw [z, ea] at hb; cases hb), upd_ne (fun z => by rw [z, dn] at hb; cases hb)]; exact hb
    · rw [upd_ne (fun z => by rw [z, ea] at hb; cases hb), upd_ne (fun z => by rw [z, dn] at hb; cases hb)]; exact hb
    · exact ⟨#[], by rw [upd_ne (fun z => by rw [z, ea] at hb; cases hb), upd_ne (fun z => by rw [z, dn] at hb; cases hb), hb]; simp⟩
    · by_cases z : b = a
      · subst z
        rw [upd_same] at hb
        cases hb
        exact up _
      · rw [upd_ne z] at hb
        by_cases z2 : b = s2.heap.objs.size
        · subst z2
          rw [upd_same] at hb
          cases hb
          exact uq _
        · rw [upd_ne z2] at hb
          have na' : ∀ c t, H2 c = some t → t = .own b ∨ (∃ xs, t = .tup xs) → c ≠ a ∧ c ≠ s2.heap.objs.size := fun c t hc ht => by
            refine ⟨fun y => ?_, fun y => by rw [y, dn] at hc; cases hc⟩
            rw [y, ea] at hc
            cases hc
            rcases ht with ht | ⟨xs, ht⟩ <;> cases ht
          refine (I2.hok b ob hb).stay (fun c u hc hg => ?_) (fun c hc => ?_) fun c xs hc => ?_
          · refine kp c u ?_ hg
            rcases hc with rfl | hc
            · exact z
            · exact (na' c _ hc (.inl rfl)).1
          · rw [upd_ne (na' c _ hc (.inl rfl)).1, upd_ne (na' c _ hc (.inl rfl)).2]; exact hc
          · rw [upd_ne (na' c _ hc (.inr ⟨_, rfl⟩)).1, upd_ne (na' c _ hc (.inr ⟨_, rfl⟩)).2]; exact hc
  · obtain ⟨vs, xr, v1⟩ := xn_get I2.hok ea
    obtain ⟨mA, n1, rl, wi⟩ := xq_get I2.hok ed
    obtain ⟨od, _, _, hod, _⟩ := id n1
    obtain ⟨ox, J⟩ := xr.inst hod
    obtain ⟨oe, e1, e2, e3, e4, e5⟩ := xr
    refine setx I2.kIn J xa na (store_has (s := { s2 with toks := s2.toks + 1 }) I2.kIn xa e1 e2 e3 n1 wi (by rw [List.length_map, sizeLine_eq]; omega) fun h' tk n2 sb => ⟨rfl, σ, _, ?_, q2⟩)
    have hd : ∃ o, h'.get? d = some o := let ⟨o, _, _, e', _⟩ := n2; ⟨o, e'⟩
    exact I2.write (x := d) (e := d) (t' := tk) (by rw [ed]; exact True.intro) (.inl rfl) (fun b q hb z => (sb.2 b hb).trans z) hd (xq_ok n2 (put_rel ry rl) (put_within wi))
theorem pe_xfld (he : PE X e ta) (hb : attributeBase e f X.env (eval e X.env) = eval e X.env := by rfl) : PE X (.Attribute e f pos) (tXfld X.K ta f) := by
  intro pins s σ H Q I h
  refine attr_of hb (thn (he pins s σ H _ I h) fun u s1 ⟨x, H1, I1, rx, a, C, d, fs, v, ex, ea, ed, xa, na, l, q⟩ => ?_)
  subst ex
  obtain rfl : u = Value.ref a := rx
  obtain ⟨vs, xr⟩ := xo_get I1.hok ea
  obtain ⟨mA, n1, rl, wi⟩ := xq_get I1.hok ed
  obtain ⟨od, hod, lk⟩ := lookIn_ns n1
  obtain ⟨ox, J⟩ := xr.inst hod
  have r := rl f
  rw [l] at r
  obtain ⟨u, hu, ru⟩ := r.some_of
  exact getx I1.kIn J xa (PySem.W.findObj_own xa.hd na rfl (by rw [lk, hu])) (handed_of ru) ⟨v, H1, I1.tok _, ru, q⟩
theorem call_isinstX : CallR X (.builtin "isinstance") (rIsiX X.K) := by
  intro pins s σ H xs us Q I r h
  obtain ⟨a, C, d, fs, c, u, b, rfl, rc, ea, ed, xa, e, q⟩ := h
  obtain ⟨u1, u2, rfl, r1, r2⟩ := vals2 r
  obtain rfl : u1 = Value.ref a := r1
  obtain ⟨vs, xr⟩ := xo_get I.hok ea
  obtain ⟨mA, n1, rl, wi⟩ := xq_get I.hok ed
  obtain ⟨od, hod, lk⟩ := lookIn_ns n1
  obtain ⟨ox, J⟩ := xr.inst hod
  have same : PySem.W.kitOne X.K (.ref C) u2 = some b := by
    have e2 : u2 = u := by
      cases c <;> first | exact (show u2 = _ from r2).trans (show u = _ from rc).symm | skip
      all_goals (obtain ⟨t1, z1⟩ := r2; obtain ⟨t2, z2⟩ := rc; subst z1; subst z2)
      all_goals (exfalso; revert e; simp [PySem.W.kitOne, PySem.W.kitCls])
    rw [e2]
    exact e
  exact PySem.W.kia_one (kitx_exc xa) I.kIn ⟨ox, J⟩ same (fun z => nomatch z) fun tk => ⟨.bl b, H, I.tok tk, rfl, q⟩
end
end L2
namespace L2
open PySem PySem.Spec PyProof.Rows
open PySem.W (Looks InstAt looks_findIn looks_typeIn looks_clsIn looks_mroIn looks_find findObj findIn mroIn clsIn)
structure ClsFn (K : PySem.W.Frag) (C : Addr) (m : Str) (f : Addr) : Prop where
  ga : PySem.W.specialIn K (.ref C) "__getattribute__" = some (some (.builtin "type.__getattribute__"))
  rd : PySem.W.readsIn K C (.type "type") = true
  at_ : PySem.W.findCls K (.ref C) (.type "type") m = some (.val (.ref f))
  kp : PySem.W.keepIn K (.ref f) = true
section
variable {X : Cx} {CX : CXT} {k : Nat} {f C : Addr} {fd : FuncData} {ps : List Str} {sp : Sp} {dvs : List V} {ds : List Value} {E : XK} {x m : Str} {p pos apos : Pos} {e : Expr} {es : List Expr} {t : TA}
theorem pe_clsfn {pl : Sem Bool} (cf : ClsFn X.K C m f) (F : FnOk X.prog X.w X.K X.mg X.base CX k f fd ps sp) (hr : Room k X.A) (hg : Gl X x) (hm : X.mg x = some (.ref C)) (hb : Binds X.K fd ps ds) (hd : Vals dvs ds) (hx : Passes CX X E) (ha : PA X (e :: es) t)
    (hdb : (x == ("__debug__" : Str)) = false := by decide) (hst : starEach (e :: es) X.env = (false, eval e X.env) :: starEach es X.env := by rfl) (hpl : (backTo pos (starEach es X.env)).any (·.1) = false := by rfl)
    (ht : eval (.Call (.Attribute (.Name x p) m apos) (e :: es) [] pos) X.env = (do
      let ov ← eval (.Name x p) X.env
      standAt apos.atName
      let (f, first) ← holding [ov] (getMethod ov m pl)
      callWith pos f first (backTo pos (starEach (e :: es) X.env)) (backToKw pos (keywordEach [] X.env))) := by rfl) :
    PE X (.Call (.Attribute (.Name x p) m apos) (e :: es) [] pos) (tCall sp dvs E t) := by
  intro pins s σ H Q I h
  refine PySem.W.methodCall_KW (pl := pl) (ld_glob I hg hm ?_ hdb) ht
  refine PySem.W.method_cls I.kIn cf.ga (PySem.W.cls_value I.kIn cf.rd cf.at_ rfl ?_)
  have I1 := I.tok (s.toks + 1)
  refine PySem.W.callWith_K (first := []) (h₀ := X.base) I.ok.mod.kin cf.kp (thn (ha pos pins _ σ H _ I1 h) fun us s2 ⟨vs, H2, I2, r, q2⟩ => ⟨I2.kIn, ?_⟩) hst hpl
  exact run_fn F hr hb hd hx I2 r q2
end
def rXinit (K : PySem.W.Frag) : List V → Hp → VK → Prop := fun xs H Q => ∃ (a C : Addr) (y : V), xs = [.ref a, y] ∧ XAt K C ∧ H a = some (xn a C none) ∧ Q .non H
section
variable {M : Model} {A : Around} {E : Value → Shared → Prop} {s : Shared} {K : PySem.W.Frag} {a C : Addr}
theorem init_check {oe : Obj} {rest : List Value} {Q : Unit → Shared → Prop} (KX : K.In s.heap) (X : XAt K C) (e1 : s.heap.get? a = some oe) (e2 : oe.cls = .ref C) (z : Q () s) : wpAny M A (checkBuiltinCall "ValueError.__init__" ⟨.ref a :: rest, []⟩) Q E s := by
  obtain ⟨nm, q, N, bs, cs, sn, sb, ab, col, dd, k0, k1, k2, k3, k5, l⟩ := X.rec_
  have kc := KX _ _ l
  have isV := has_v C cs (.type "ValueError") (by decide)
  have G := PySem.F.excBase_ValueError
  have star := G.noStar
  obtain ⟨h, g, d, t, os⟩ := s
  simp only [checkBuiltinCall, G.initKind, G.initSplit, G.initRow]
  repeat (first | (with_reducible refine wpAny_loadPart_at e1 ?_; rw [e2]) | with_reducible refine wpAny_loadPart_at kc ?_ | (with_reducible refine wpAny_isSubtype_exc kc ?_; rw [isV]) | wp_step)
  refine wpAny_onRaise ?_
  rw [show ∀ (u v : String) (n : Nat), Bind.check ⟨.positional, "*", "ValueError", .self, [⟨"args", .varPos, false⟩]⟩ u v n (List.map (fun x => x.fst) ({ pos := Value.ref a :: rest } : Args).kw) = pure () from fun u v n => check_star_args _ _ _ _ _ _]
  exact wpAny_pure z
end
section
variable {X : Cx} {x : Str} {p pos apos : Pos} {e : Expr} {es : List Expr} {t : TA}
theorem init_run {pins : List (Addr × Obj)} {s : Shared} {σ : St} {H : Hp} {xs : List V} {us : List Value} {Q : VK} (I : Inv X pins σ H s) (r : Vals xs us) (h : rXinit X.K xs H Q) : wpAny (model X.prog X.w) X.A (call (.builtin "ValueError.__init__") us) (EP X pins σ Q) X.xe s := by
  obtain ⟨a, C, y, rfl, xa, ea, q⟩ := h
  obtain ⟨u1, u2, rfl, r1, r2⟩ := vals2 r
  obtain rfl : u1 = Value.ref a := r1
  obtain ⟨vs, xr, v1⟩ := xn_get I.hok ea
  obtain ⟨oe, e1, e2, e3, e4, e5⟩ := id xr
  have G := PySem.F.excBase_ValueError
  refine wpAny_call (codeAny_call_builtin G.init.plain G.initEntry (init_check I.kIn xa e1 e2 ?_))
  unfold Builtin.«BaseException.__init__»
  show wpAny _ _ (do let tu ← newTuple [u2]; Builtin.BaseException.bexcPut (.ref a) 0 tu; ret .none) _ _ _
  refine wpAny_bind ?_
  unfold newTuple
  refine wpAny_newObj_type (wpAny_bind ?_)
  have ep := Heap.get?_push_of_some { cls := .type "tuple", dict := none, data := .seq [u2].toArray } e1
  have v0 : vs[0]? = some vs[0] := Array.getElem?_eq_getElem (by omega)
  unfold Builtin.BaseException.bexcPut
  refine wpAny_bind (wpAny_field ep e4 v0 (wpAny_bind (wpAny_setField ep e4 (by omega) ?_)))
  have fin : EP X pins σ Q Value.none { s with heap := (s.heap.push { cls := .type "tuple", dict := none, data := .seq [u2].toArray }).update a (Obj.mapFields (·.setIfInBounds 0 (Value.ref s.heap.objs.size))) } := by
    have d3 := Obj.data_mapFields e4 (·.setIfInBounds 0 (Value.ref s.heap.objs.size))
    have g3 := Heap.get?_update_self (Obj.mapFields (·.setIfInBounds 0 (Value.ref s.heap.objs.size))) ep (Obj.isFreed_of_fields d3)
    have J := I.write (x := a) (e := a) (o := xn a C none) (t' := s.toks) (h' := (s.heap.push { cls := .type "tuple", dict := none, data := .seq [u2].toArray }).update a (Obj.mapFields (·.setIfInBounds 0 (Value.ref s.heap.objs.size)))) (by rw [ea]; exact True.intro) (.inl rfl)
      (fun b o hb g => by rw [Heap.get?_update_other _ _ (Ne.symm hb)]; exact Heap.get?_push_of_some _ g) ⟨_, g3⟩
      (xn_ok (vs := vs.setIfInBounds 0 (Value.ref s.heap.objs.size)) ⟨_, g3, by rw [Obj.cls_mapFields]; exact e2, by obtain ⟨c, dd, da, sl⟩ := oe; cases e4; exact e3, d3, by rw [Array.size_setIfInBounds]; exact e5⟩ (by rw [Array.getElem?_setIfInBounds_ne (by decide)]; exact v1))
    have same : upd H a (xn a C none) = H := by
      funext b
      by_cases z : b = a
      · rw [z, upd_same, ea]
      · rw [upd_ne z]
    rw [same] at J
    exact ⟨.non, H, J, rfl, q⟩
  generalize vs[0] = old
  cases old <;> first | exact wpAny_pure (wpAny_pure fin) | exact wpAny_letGo (wpAny_pure fin) | exact wpAny_bind (wpAny_letGo (wpAny_pure (wpAny_pure fin)))
theorem ve_find {K : PySem.W.Frag} : PySem.W.findCls K (.type "ValueError") (.type "type") "__init__" = some (.val (.builtin "ValueError.__init__")) := by kernel_rfl
theorem ve_ga {K : PySem.W.Frag} : findIn K (.type "type") "__getattribute__" = some (some (.builtin "type.__getattribute__")) := by kernel_rfl
theorem ve_sub {K : PySem.W.Frag} : PySem.W.subIn K (.type "type") (.type "type") = some true := by kernel_rfl
theorem ve_ty : typeOf (.type "ValueError") = pure (.type "type") := by kernel_rfl
theorem ve_op : opaqueClassAbove (.type "ValueError") = pure none := by kernel_rfl
theorem ve_boot : bootBuiltins "ValueError" = some (.type "ValueError") := by decide +kernel
theorem ve_method {prog : Program} {w : World} {A : Around} {E : Value → Shared → Prop} {s : Shared} {K : PySem.W.Frag} {pl : Sem Bool} {Q : Value × List Value → Shared → Prop} (KX : K.In s.heap) (z : Q (.builtin "ValueError.__init__", []) { s with toks := s.toks + 1 }) :
    wpAny (model prog w) A (getMethod (.type "ValueError") "__init__" pl) Q E s := by
  have L1 : Looks (model prog w) s.heap (specialOf (.type "ValueError") "__getattribute__") (some (.builtin "type.__getattribute__")) := (Looks.of_pure ve_ty).andThen (looks_findIn KX ve_ga)
  unfold getMethod
  refine wpAny_bind (L1.here ?_)
  show wpAny _ _ (if (Manifest.canonical "type.__getattribute__" != "object.__getattribute__") = true then _ else _) _ _ _
  rw [if_pos PySem.W.canon_tga]
  refine wpAny_bind (PySem.W.cls_open KX (Looks.of_pure ve_op) (Looks.of_pure ve_ty) ve_ga (hook := none) (Looks.of_pure rfl) ve_sub ve_find ?_)
  exact wpAny_pure (PySem.W.handed_on rfl (wpAny_pure z))
theorem pe_xinit {pl : Sem Bool} (hg : Gl X "ValueError") (hm : X.mg "ValueError" = none) (ha : PA X (e :: es) t)
    (hst : starEach (e :: es) X.env = (false, eval e X.env) :: starEach es X.env := by rfl) (hpl : (backTo pos (starEach es X.env)).any (·.1) = false := by rfl)
    (ht : eval (.Call (.Attribute (.Name "ValueError" p) "__init__" apos) (e :: es) [] pos) X.env = (do
      let ov ← eval (.Name "ValueError" p) X.env
      standAt apos.atName
      let (f, first) ← holding [ov] (getMethod ov "__init__" pl)
      callWith pos f first (backTo pos (starEach (e :: es) X.env)) (backToKw pos (keywordEach [] X.env))) := by rfl) :
    PE X (.Call (.Attribute (.Name "ValueError" p) "__init__" apos) (e :: es) [] pos) (tCB (rXinit X.K) t) := by
  intro pins s σ H Q I h
  refine PySem.W.methodCall_KW (pl := pl) (ld_blt I hg hm ve_boot ?_) ht
  refine ve_method I.kIn ?_
  exact PyProof.Rows.callWith_builtin1 (thn (ha pos pins _ σ H _ (I.tok _) h) fun us s1 ⟨vs, H1, I1, r1, q1⟩ => init_run I1 r1 q1) hst hpl
end
def tRaise (C : Addr) (sp : Sp) (dvs : List V) (E : St → XK) (t : TA) : TS := fun _ σ H => t σ H fun vs H1 => vs.length ≤ 1000 ∧ ∀ a, H1 a = none →
  sp (.ref a :: (vs ++ dvs)) (upd H1 a (xn a C none)) (fun v H2 => v = .non ∧ ∃ d, H2 a = some (xn a C (some d)) ∧ E σ (.ref C) (some d) (upd H2 a (xo a C (some d)))) E0
section
variable {X : Cx} {k : Nat} {f C : Addr} {fd : FuncData} {ps : List Str} {sp : Sp} {dvs : List V} {ds : List Value} {E : St → XK} {x : Str} {p pos cpos : Pos} {e : Expr} {es : List Expr} {t : TA}
theorem ps_raise (M : XCls X.K C f) (F : FnOk X.prog X.w X.K X.mg X.base CX0 k f fd ps sp) (hr : Room (k + 1) X.A) (hc : X.calm = true) (hg : Gl X x) (hm : X.mg x = some (.ref C)) (hb : Binds X.K fd ps ds) (hd : Vals dvs ds) (hx : PassX X E) (ha : PA X (e :: es) t)
    (hdb : (x == ("__debug__" : Str)) = false := by decide) (he : starEach (e :: es) X.env = (false, eval e X.env) :: starEach es X.env := by rfl) (hpl : (backTo cpos (starEach es X.env)).any (·.1) = false := by rfl) :
    PS X (.Raise (some (.Call (.Name x p) (e :: es) [] cpos)) none pos) (tRaise C sp dvs E t) := by
  intro pins s σ H D I h
  rw [arm_exec_Raise]
  refine wpAny_bind (wpAny_standAt ?_)
  show wpAny _ X.A (raiseStmt X.env (some (do let v ← eval (.Call (.Name x p) (e :: es) [] cpos) X.env; standAt pos; pure v)) none) _ _ s
  unfold raiseStmt
  refine wpAny_bind (wpAny_bind ?_)
  refine wpAny_Call_Name_kw (ld_glob I hg hm ?_ hdb)
  refine PySem.W.callWith_K (h₀ := X.base) I.ok.mod.kin M.kp (thn (ha cpos pins s σ H _ I h) fun us s1 ⟨vs, H1, I1, r, lim, q⟩ => ⟨I1.kIn, ?_⟩) he hpl
  obtain ⟨nm, qn, N, bs, bm, sn, sub, ab, col, dd, k0, k1, k2, k3, k5, lk⟩ := M.rec_
  have kc := I1.kIn _ _ lk
  have fr : H1 (s1.heap.objs.size + 1) = none := I1.hok.fresh (Nat.le_succ _)
  have hq := q (s1.heap.objs.size + 1) fr
  have r2 : Vals (V.ref (s1.heap.objs.size + 1) :: (vs ++ dvs)) (Value.ref (s1.heap.objs.size + 1) :: (us ++ ds)) := .cons rfl (r.append hd)
  have hl : ((Value.ref (s1.heap.objs.size + 1) :: us) ++ ds).length = ps.length := by
    have z := r2.length
    rw [F.len _ _ _ _ hq] at z
    exact z.symm
  have here : ((s1.heap.push { cls := .type "tuple", data := .seq us.toArray }).push { cls := .ref C, data := .fields #[.ref s1.heap.objs.size, .none, .none, .none, .bool false, .none] }).get? (s1.heap.objs.size + 1) =
      some { cls := .ref C, data := .fields #[.ref s1.heap.objs.size, .none, .none, .none, .bool false, .none] } := by heap_get
  have up : ∀ b o, s1.heap.get? b = some o → ((s1.heap.push { cls := .type "tuple", data := .seq us.toArray }).push { cls := .ref C, data := .fields #[.ref s1.heap.objs.size, .none, .none, .none, .bool false, .none] }).get? b = some o :=
    fun b o z => Heap.get?_push_of_some _ (Heap.get?_push_of_some _ z)
  have new : ObjOk X.prog X.w (upd H1 (s1.heap.objs.size + 1) (xn (s1.heap.objs.size + 1) C none)) _ (s1.heap.objs.size + 1) (xn (s1.heap.objs.size + 1) C none) := xn_ok (vs := #[.ref s1.heap.objs.size, .none, .none, .none, .bool false, .none]) ⟨_, here, rfl, rfl, rfl, by show 1 < 6; decide⟩ rfl
  have I2 := I1.laid (a := s1.heap.objs.size + 1) (o := xn (s1.heap.objs.size + 1) C none) (t' := s1.toks) up (Nat.le_succ _) new
  have L1 := looks_findIn (M := model X.prog X.w) I1.kIn M.init
  have L2 := looks_typeIn (M := model X.prog X.w) I1.kIn (beq_iff_eq.mp M.fn)
  have ul : us.length ≤ sizeLine := by
    rw [← r.length, sizeLine_eq]
    omega
  obtain ⟨h1, g1, d1, t1, o1⟩ := s1
  refine exc_call kc (mro_has lk M.isV) (mro_has lk M.noA) (mro_has lk M.noN) L1 L2 (wpAny_call (codeAny_mono (F.run _ X.stack _ _ ⟨Value.ref (h1.objs.size + 1) :: us, []⟩ (Value.ref (h1.objs.size + 1) :: (us ++ ds)) _ _ E0 (hr.make C us [])
    (I2.env0.make C us []) (hb _ (Value.ref (h1.objs.size + 1) :: us) I2.kIn hl) r2 hq) fun r s' hq' => ?_)) ul
  cases r with
  | error _ => exact False.elim hq'
  | ok fl =>
    cases fl with
    | next => exact False.elim hq'
    | brk => exact False.elim hq'
    | cont => exact False.elim hq'
    | ret u =>
      obtain ⟨v, H', os', bare, un, hok, rv, rfl, d, ea, wish⟩ := hq'
      obtain rfl : u = Value.none := rv
      refine ⟨rfl, wpAny_bind (wpAny_standAt (wpAny_pure ?_))⟩
      obtain ⟨ws, xr, w1⟩ := xn_get hok ea
      obtain ⟨oe, e1, e2, e3, e4, e5⟩ := id xr
      have I3 : Inv X pins σ H' s' := I2.call' (ch := []) os' un hok bare fun b z => absurd z (by simp)
      have kc3 := I3.kIn _ _ lk
      have isB := mro_has lk M.isB
      obtain ⟨oc, od, oda, osl⟩ := oe
      dsimp only at e2 e3 e4
      subst e2 e3 e4
      have xe : X.xe (.ref (h1.objs.size + 1)) s' := by
        refine hx pins σ H1 ⟨h1, g1, d1, t1, o1⟩ _ s' I1 ⟨h1.objs.size + 1, C, d, upd H' (h1.objs.size + 1) (xo (h1.objs.size + 1) C (some d)), ws, rfl, Nat.le_succ _, os', bare, ?_, ?_, upd_same, xr, .inl w1, wish⟩
        · have un2 : Un (frs X.stack) [] H1 H' h1 s'.heap := (Un.laid up (Nat.le_succ _) fr).trans un
          have old : ∀ b o, h1.get? b = some o → b ≠ h1.objs.size + 1 := fun b o hb => Nat.ne_of_lt (Nat.lt_succ_of_lt (Heap.lt_size hb))
          have tk : ∀ b u, H1 b = some u → b ≠ h1.objs.size + 1 := fun b u hb z => by rw [z, fr] at hb; cases hb
          exact ⟨un2.keep, un2.slot, fun b o hb n x' => by rw [upd_ne (old b o hb)]; exact un2.free b o hb n x', un2.there, fun b xs hb => by rw [upd_ne (tk b _ hb)]; exact un2.tups b xs hb,
            fun b o u hb => by rw [upd_ne (tk b _ hb)]; exact un2.frzs b o u hb, fun b ps hb => by rw [upd_ne (tk b _ hb)]; exact un2.tbls b ps hb⟩
        · intro b o hb
          by_cases z : b = h1.objs.size + 1
          · subst z
            rw [upd_same] at hb
            cases hb
            exact xo_ok xr
          · rw [upd_ne z] at hb
            have nz : ∀ c u, H' c = some u → (u = .own b ∨ ∃ xs, u = .tup xs) → c ≠ h1.objs.size + 1 := fun c u hc hu y => by
              rw [y, ea] at hc
              cases hc
              rcases hu with hu | ⟨xs, hu⟩ <;> cases hu
            exact (hok b o hb).stay (fun _ _ _ g => g) (fun c hc => by rw [upd_ne (nz c _ hc (.inl rfl))]; exact hc) fun c xs hc => by rw [upd_ne (nz c _ hc (.inr ⟨_, rfl⟩))]; exact hc
      have hh := I.ok.hd hc
      obtain ⟨h', g', d', t', o'⟩ := s'
      repeat (first | with_reducible refine wpAny_loadPart_at e1 ?_ | with_reducible refine wpAny_loadPart_at kc3 ?_ | (with_reducible refine wpAny_isSubtype_exc kc3 ?_; rw [isB]) | with_reducible refine wpAny_field e1 rfl w1 ?_ | wp_step)
      exact wpAny_raiseNew_none hh xe
end
end L2
namespace L2
open PySem PySem.Spec PyProof.Rows
open PySem.W (Looks InstAt looks_findIn looks_typeIn looks_clsIn looks_mroIn looks_find findObj findIn mroIn clsIn)
abbrev Cx.hand (X : Cx) (a : Addr) : Cx := { X with A := X.A.mark (some (.ref a)), calm := false }
theorem Cx.Ok.hand {X : Cx} (ok : X.Ok) (a : Addr) : (X.hand a).Ok :=
  ⟨ok.mod, ok.kind, ok.glob, ok.blt, ok.above, ok.inj, ok.has, ok.cab, fun z => absurd (show false = true from z) Bool.false_ne_true, ok.frames, ok.stk, ok.exf, ok.bs, ok.bsz, ok.noex, ok.exfs, ok.funs, ok.frf⟩
section
variable {X : Cx} {pins : List (Addr × Obj)} {σ : St} {H : Hp} {s : Shared}
theorem Inv.hand (I : Inv X pins σ H s) (a : Addr) : Inv (X.hand a) pins σ H s := ⟨I.ok.hand a, I.os, I.bare, I.base, I.loc, I.cell, I.free, I.freeC, I.pin, I.hok, I.len⟩
theorem Inv.unhand {a : Addr} (ok : X.Ok) (I : Inv (X.hand a).nox pins σ H s) : Inv X pins σ H s := ⟨ok, I.os, I.bare, I.base, I.loc, I.cell, I.free, I.freeC, I.pin, I.hok, I.len⟩
theorem Inv.of_try {pn : List (Addr × Obj)} {xe : Value → Shared → Prop} {pl : List (Addr × Obj)} (ok : X.Ok) (I : Inv { X with pn := X.pn ++ pn, xe := xe } pl σ H s) : Inv X pn σ H s :=
  ⟨ok, I.os, I.bare, I.base, I.loc, I.cell, I.free, I.freeC, fun p hp => I.pin p (List.mem_append_left _ hp), I.hok, I.len⟩
theorem Inv.to_try {xe : Value → Shared → Prop} (I : Inv X pins σ H s) : Inv { X with pn := X.pn ++ pins, xe := xe } [] σ H s :=
  ⟨⟨I.ok.mod, I.ok.kind, I.ok.glob, I.ok.blt, I.ok.above, I.ok.inj, I.ok.has, I.ok.cab, I.ok.hd, I.ok.frames, I.ok.stk, I.ok.exf, I.ok.bs, I.ok.bsz, I.ok.noex, I.ok.exfs, I.ok.funs, I.ok.frf⟩,
    I.os, I.bare, I.base, I.loc, I.cell, I.free, I.freeC, fun p hp => I.pin p (by rw [List.append_nil] at hp; exact hp), I.hok, I.len⟩
theorem Inv.gone {n : Str} {i : Nat} {h' : Heap} {v : Option Value} {m : Str → Option Value} {t' : Nat} (I : Inv X pins σ H s) (hN : X.N.Nodup) (hi : X.N[i]? = some n) (hn : s.heap.Ns X.env.locals m)
    (lk : ∀ (i : Nat) (x : Str) (v : V), X.N[i]? = some x → σ[i]? = some (some v) → Vis X.env.scope x → ∃ u, RelV v u ∧ Look X.env s.heap m x u)
    (n2 : h'.Ns X.env.locals (fun x => if x = n then v else m x)) (sb : Heap.SameBut X.env.locals s.heap h') : Inv X pins (σ.set i none) H { s with heap := h', toks := t' } := by
  have old : ∀ b o, X.s₀.heap.get? b = some o → b ≠ X.env.locals := fun b o hb z => absurd (Heap.lt_size (z ▸ hb)) (Nat.not_lt.mpr I.ok.above)
  have kp : ∀ b o, b ≠ X.env.locals → s.heap.get? b = some o → h'.get? b = some o := fun b o hb hg => (sb.2 b hb).trans hg
  have trk : ∀ b u, H b = some u → b ≠ X.env.locals := fun b u hb z => by rw [z, I.free] at hb; cases hb
  refine ⟨I.ok, I.os, I.bare, ⟨fun b o e n' f x => kp b o (old b o e) (I.base.keep b o e n' f x), fun b o e n' f x => ?_, I.base.free, fun b o e x => ?_, I.base.tups, I.base.frzs, I.base.tbls⟩, ⟨_, n2, fun j x w e1 e2 e3 => ?_⟩, fun x c e => ?_, I.free, I.freeC, fun p hp => ?_, fun b u hb => ?_, ?_⟩
  · obtain ⟨sl, g⟩ := I.base.slot b o e n' f x
    exact ⟨sl, kp b _ (old b o e) g⟩
  · obtain ⟨o', g⟩ := I.base.there b o e x
    exact ⟨o', kp b o' (old b o e) g⟩
  · by_cases z : i = j
    · subst z
      have bad : (σ.set i none)[i]? = some (some w) := e2
      rw [List.getElem?_set_self'] at bad
      cases q : σ[i]? with
      | none => rw [q] at bad; cases bad
      | some y => rw [q] at bad; cases bad
    · rw [List.getElem?_set_ne z] at e2
      obtain ⟨u, r, l⟩ := lk j x w e1 e2 e3
      refine ⟨u, r, ?_⟩
      have ne : x ≠ n := fun y => z (nodup_ix hN hi (y ▸ e1))
      rcases l with ⟨k1, k2⟩ | ⟨k1, c, k2, ⟨o, k3, k4⟩⟩
      · refine .inl ⟨k1, ?_⟩
        show (if x = n then v else m x) = some u
        rw [if_neg ne]
        exact k2
      · exact .inr ⟨k1, c, k2, o, kp c o (I.cne x c k2) k3, k4⟩
  · obtain ⟨w, o, k3, k4⟩ := I.cell x c e
    exact ⟨w, o, kp c o (I.cne x c e) k3, k4⟩
  · obtain ⟨k1, k2, k3, k4⟩ := I.pin p hp
    exact ⟨kp p.1 p.2 k3 k1, k2, k3, k4⟩
  · refine (I.hok b u hb).stay (fun c o hc hg => kp c o ?_ hg) (fun _ q => q) fun _ _ q => q
    rcases hc with rfl | hc
    · exact trk _ _ hb
    · exact trk _ _ hc
  · rw [List.length_set]
    exact I.len
end
section
variable {M : Model} {A : Around} {E : Value → Shared → Prop} {s : Shared} {K : PySem.W.Frag} {a C B : Addr} {d : Option Addr} {vs : Array Value}
theorem exc_match {Q : Bool → Shared → Prop} {b : Bool} (KX : K.In s.heap) (XB : XAt K B) (XC : XAt K C) (xr : XRec s.heap a C d vs) (mt : mroIn K C (.ref B) = some b) (z : Q b s) : wpAny M A (excMatches (.ref a) (.ref B)) Q E s := by
  obtain ⟨nm, q, N, bs, cs, sn, sb, ab, col, dd, k0, k1, k2, k3, k5, l⟩ := XB.rec_
  obtain ⟨nm', q', N', bs', cs', sn', sb', ab', col', dd', l0, l1, l2, l3, l5, l'⟩ := XC.rec_
  have kb := KX _ _ l
  have kc := KX _ _ l'
  obtain ⟨oe, e1, e2, _⟩ := xr
  have isB := has_v B cs (.type "BaseException") (by decide)
  have isC := mro_has l' mt
  have f := tc_notTuple
  obtain ⟨h, g, d, t, os⟩ := s
  unfold excMatches
  repeat (first | (with_reducible refine wpAny_loadPart_at e1 ?_; rw [e2]) | with_reducible refine wpAny_loadPart_at kb ?_ | (with_reducible refine wpAny_isSubtype_exc kb ?_; rw [isB]) | (with_reducible refine wpAny_isSubtype_exc kc ?_; rw [isC]) | wp_step)
  cases b <;> (wp_walk; exact z)
theorem fly_off {Q : Unit → Shared → Prop} {lo : Nat} {H : Hp} (xr : XRec s.heap a C d vs) (fl : Fly lo H s.heap vs) (z : Q () s) : wpAny M A (setFlight (.ref a) none) Q E s := by
  obtain ⟨oe, e1, e2, e3, e4, e5⟩ := xr
  unfold setFlight
  rcases fl with y | ⟨T, oT, ts, y, _, _, g0, d0, t0⟩
  · refine wpAny_bind (wpAny_field e1 e4 y ?_)
    rw [if_neg (by decide)]
    exact wpAny_pure z
  · refine wpAny_bind (wpAny_field e1 e4 y ?_)
    rw [if_pos (by simp)]
    refine wpAny_setField g0 d0 (Array.getElem?_eq_some_iff.mp t0).1 ?_
    have same := Heap.update_setField_same s.heap T oT ts 3 Value.none g0 d0 t0
    rw [show ((none : Option Addr).elim Value.none fun f => rawInt f) = Value.none from rfl, same]
    exact z
end
def hX (K : PySem.W.Frag) (B : Addr) (i : Nat) (th : TS) (D : Ends) : St → XK := fun σ c o H => ∃ C d, c = .ref C ∧ o = some d ∧ XAt K C ∧ mroIn K C (.ref B) = some true ∧
  ∀ a, H a = some (xo a C (some d)) → th { nx := fun σ' H' => D.nx (σ'.set i none) H', rt := D.rt, bk := fun σ' H' => D.bk (σ'.set i none) H', ct := fun σ' H' => D.ct (σ'.set i none) H' } (σ.set i (some (.ref a))) H
section
variable {X : Cx} {B : Addr} {i : Nat} {n x : Str} {body suite : List Stmt} {b0 : Stmt} {px hp pos : Pos} {tb : (St → XK) → TS} {th : TS}
theorem ps_try (fr : X.stack = X.env :: X.outer ∧ X.env.frame = some X.env.locals) (hN : X.N.Nodup) (hi : X.N[i]? = some n) (hl : X.env.scope.names.lookup n = some .local) (hg : Gl X x) (hm : X.mg x = some (.ref B)) (XB : XAt X.K B)
    (hb : ∀ pn xe E, PassX { X with pn := pn, xe := xe } E → PassesOwn (model X.prog X.w) X.A X.env xe → PSs { X with pn := pn, xe := xe } body (tb E))
    (hh : ∀ a, PSs (X.hand a).nox (b0 :: suite) th) (hdb : (x == ("__debug__" : Str)) = false := by decide) :
    PS X (.Try body [.ExceptHandler (some (.Name x px)) (some n) (b0 :: suite) hp] [] [] pos) (fun D σ H => tb (hX X.K B i th D) D σ H) := by
  intro pins s σ H D I h
  rw [arm_exec_Try]
  refine wpAny_bind (wpAny_standAt (wpAny_tryStmt_except ?_))
  let xe : Value → Shared → Prop := fun e s1 => wpAny (model X.prog X.w) X.A (noteFrame e X.env) (fun _ s2 => wpAny (model X.prog X.w) X.A (setFlight e none) (fun _ s3 => wpAny (model X.prog X.w) X.A (handleBy e X.env [.ExceptHandler (some (.Name x px)) (some n) (b0 :: suite) hp]) (SP X pins D) X.xe s3) X.xe s2) X.xe s1
  have own : PassesOwn (model X.prog X.w) X.A X.env xe := PassesOwn.looking (K := fun e s2 => wpAny (model X.prog X.w) X.A (setFlight e none) (fun _ s3 => wpAny (model X.prog X.w) X.A (handleBy e X.env [.ExceptHandler (some (.Name x px)) (some n) (b0 :: suite) hp]) (SP X pins D) X.xe s3) X.xe s2)
  have px' : PassX { X with pn := X.pn ++ pins, xe := xe } (hX X.K B i th D) := by
    intro pins' σ' H1 s1 e s' I' cx
    show xe e s'
    have st : X.A.frames = some (X.env :: X.outer) := by rw [← fr.1]; exact I.ok.frames
    have f1 : s1.heap.FunFrames X.base (X.env :: X.outer) := by rw [← fr.1]; exact I'.stack
    have f2 : ∀ b ∈ frs (X.env :: X.outer), H1 b = none := by rw [← fr.1]; exact I'.stkFree
    refine cx_note (base := X.base) st f1 f2 fr.2 (by rw [← fr.1]; exact cx) fun s3 c3 => ?_
    rw [← fr.1] at c3
    obtain ⟨a, C, d, H', vs, rfl, lo, J, ea, xr, fl, C', d', ec, ed, XC, mt, q⟩ := I'.caught c3
    cases ec
    cases ed
    have J2 : Inv X pins σ' H' s3 := J.of_try I.ok
    refine wpAny_handleBy_cons (codeAny_handlers_test (ld_glob (X := X.hand a) (J2.hand a) hg hm ?_ hdb)) (by intro z; cases z)
    refine exc_match (b := true) J2.kIn XB XC xr mt ?_
    refine codeAny_handlers_suite_as (fly_off xr fl (store_ok (v := .ref a) J2 hN hi (.inl hl) rfl (fun s4 J4 => ?_) (.inr hl)))
    refine wpAny_mono (hh a pins s4 _ _ _ ((J4.hand a).wish _) (q a ea)) (fun f s5 z => ?_) fun _ _ z => False.elim z
    have fin : ∀ {σ5 : St} {H5 : Hp}, Inv (X.hand a).nox pins σ5 H5 s5 → ∀ Q : Unit → Shared → Prop, (∀ s6, Inv X pins (σ5.set i none) H5 s6 → Q () s6) → wpAny (model X.prog X.w) X.A (do bindName X.env n .none; unbindBehindTheSuite X.env n hp) Q X.xe s5 := by
      intro σ5 H5 J5 Q k
      have J6 := Inv.unhand I.ok J5
      obtain ⟨m, hn, lk⟩ := J6.loc
      refine wpAny_nameGoes_keeps (show X.env.kindOf n = some .local from hl) hn (by rw [I.ok.kind]; rfl) fun h' v n2 sb => k _ (J6.gone hN hi hn lk n2 sb)
    cases f with
    | next =>
      obtain ⟨σ5, H5, J5, z⟩ := z
      exact fin J5 _ fun s6 J6 => ⟨_, _, J6, z⟩
    | brk =>
      obtain ⟨σ5, H5, J5, z⟩ := z
      exact fin J5 _ fun s6 J6 => ⟨_, _, J6, z⟩
    | cont =>
      obtain ⟨σ5, H5, J5, z⟩ := z
      exact fin J5 _ fun s6 J6 => ⟨_, _, J6, z⟩
    | ret u =>
      obtain ⟨v, σ5, H5, J5, rv, z⟩ := z
      exact fin J5 _ fun s6 J6 => ⟨_, _, _, J6, rv, z⟩
  refine wpAny_mono (hb _ xe _ px' own [] s σ H D I.to_try h) (fun f s1 z => ?_) fun _ _ z => z
  cases f with
  | next =>
    obtain ⟨σ', H', J, q⟩ := z
    exact wpAny_pure ⟨σ', H', J.of_try I.ok, q⟩
  | brk =>
    obtain ⟨σ', H', J, q⟩ := z
    exact ⟨σ', H', J.of_try I.ok, q⟩
  | cont =>
    obtain ⟨σ', H', J, q⟩ := z
    exact ⟨σ', H', J.of_try I.ok, q⟩
  | ret u =>
    obtain ⟨v, σ', H', J, rv, q⟩ := z
    exact ⟨v, σ', H', J.of_try I.ok, rv, q⟩
end
def tFmt (K : PySem.W.Frag) (te : TE) : TE := fun σ H Q => te σ H fun x H1 => (∃ y : Str, x = .str y ∧ y.length ≤ sizeLine ∧ Q (.str y) H1) ∨ (∃ i : Int, x = .int i ∧ i.natAbs.log2 < 1920 ∧ Q (.str (toString i)) H1) ∨
  ∃ (a : Addr) (ns : List Int), x = .ref a ∧ SqT K H1 a (ns.map V.int) ∧ (∀ n ∈ ns, n.natAbs.log2 < 1920) ∧ (PyData.tuple (ns.map PyData.int)).shown.length ≤ sizeLine ∧ Q (.str (PyData.tuple (ns.map PyData.int)).shown) H1
theorem reads_ints {h : Heap} {ns : List Int} : ∀ {us : List Value}, Vals (ns.map V.int) us → ∃ as, ReadsAll h us (ns.map PyData.int) as := by
  induction ns with
  | nil => intro us r; cases r; exact ⟨[], .nil⟩
  | cons n r ih =>
    intro us q
    cases q with
    | cons q1 q2 =>
      obtain ⟨t, rfl⟩ := q1
      obtain ⟨as, z⟩ := ih q2
      exact ⟨_, .cons (.int n t) z⟩
theorem show_ints {ns : List Int} (h : ∀ n ∈ ns, n.natAbs.log2 < 1920) : PyData.showableAll (ns.map PyData.int) = true := by
  induction ns with
  | nil => rfl
  | cons n r ih =>
    show (decide (n.natAbs.log2 < 1920) && PyData.showableAll (r.map PyData.int)) = true
    rw [decide_eq_true (h n List.mem_cons_self), ih fun m hm => h m (List.mem_cons_of_mem _ hm)]
    rfl
theorem nodict_ints (ns : List Int) : PyData.hasDictAll (ns.map PyData.int) = false := by
  induction ns with
  | nil => rfl
  | cons n r ih => exact ih
theorem depth_ints (ns : List Int) : PyData.depthAll (ns.map PyData.int) = 0 := by
  induction ns with
  | nil => rfl
  | cons n r ih =>
    show max (PyData.int n).depth (PyData.depthAll (r.map PyData.int)) = 0
    rw [ih]
    rfl
section
variable {X : Cx} {e : Expr} {te : TE} {pos : Pos}
theorem pe_fmt {j : Nat} (hr : Room j X.A) (he : PE X e te) : PE X (.FormattedValue e (-1) none pos) (tFmt X.K te) := by
  intro pins s σ H Q I h
  refine wpAny_FormattedValue_plain (thn (he pins s σ H _ I h) fun u s1 ⟨x, H1, I1, rx, q⟩ => ?_)
  rcases q with ⟨y, rfl, ly, q⟩ | ⟨i, rfl, li, q⟩ | ⟨a, ns, rfl, hq, sm, sz, q⟩
  · obtain ⟨t, rfl⟩ := rx
    exact wpAny_formatField_str ⟨.str y, H1, I1, ⟨t, rfl⟩, q⟩ ⟨.str y, H1, I1.tok _, ⟨_, rfl⟩, q⟩ ly
  · obtain ⟨t, rfl⟩ := rx
    exact wpAny_formatField_int li ⟨.str (toString i), H1, I1.tok _, ⟨_, rfl⟩, q⟩
  · obtain rfl : u = Value.ref a := rx
    obtain ⟨its, r, ⟨o, g, oc, n, od⟩, hz⟩ := I1.tuple hq
    obtain ⟨as, ra⟩ := reads_ints (h := s1.heap) r
    have rd : Reads s1.heap (.ref a) (.tuple (ns.map PyData.int)) as := .tuple g oc od (by rw [List.toList_toArray]; exact ra)
    refine formatField_of_reads (prog := X.prog) (w := X.w) rd (show PyData.showableAll _ = true from show_ints sm) (fun z => ?_) hr.gd ?_ (fun _ _ z => z) (fun h' u tk kp => ⟨.str (PyData.tuple (ns.map PyData.int)).shown, H1, I1.kept (t' := tk) kp, ⟨u, rfl⟩, q⟩) sz
    · have z' : PyData.hasDictAll (ns.map PyData.int) = true := z
      rw [nodict_ints] at z'
      cases z'
    · show X.A.units + (PyData.depthAll (ns.map PyData.int) + 1 + 2) < cLine
      rw [depth_ints]
      have := hr.un
      omega
end
abbrev TJ := Str → St → Hp → (Str → Hp → Prop) → Prop
def PJ (X : Cx) (es : List Expr) (t : TJ) : Prop :=
  ∀ (pins : List (Addr × Obj)) (s : Shared) (σ : St) (H : Hp) (acc : Str) (R : Str → Hp → Prop) (Q : Str → Shared → Prop), Inv X pins σ H s → t acc σ H R → (∀ y s' H', Inv X pins σ H' s' → R y H' → Q y s') → PySem.Joins (model X.prog X.w) X.A X.xe (evalEach es X.env) acc Q s
def jNil : TJ := fun acc _ H R => R acc H
def jCons (te : TE) (tr : TJ) : TJ := fun acc σ H R => te σ H fun x H1 => ∃ y, x = .str y ∧ (acc ++ y).length ≤ sizeLine ∧ tr (acc ++ y) σ H1 R
def tJoin (t : TJ) : TE := fun σ H Q => t Str.empty σ H fun y H1 => y.length ≤ sizeLine ∧ Q (.str y) H1
section
variable {X : Cx} {e e2 : Expr} {es : List Expr} {te : TE} {t : TJ} {pos : Pos}
theorem pj_nil : PJ X [] jNil := fun _ s _ H acc _ _ I h k => k acc s H I h
theorem pj_cons (he : PE X e te) (hr : PJ X es t) : PJ X (e :: es) (jCons te t) := by
  intro pins s σ H acc R Q I h k
  show wpAny _ X.A (eval e X.env) (fun v s1 => ∃ y t, v = .str y t ∧ (acc ++ y).length ≤ sizeLine ∧ PySem.Joins (model X.prog X.w) X.A X.xe (evalEach es X.env) (acc ++ y) Q s1) X.xe s
  refine thn (he pins s σ H _ I h) fun u s1 ⟨x, H1, I1, rx, y, ex, l, q⟩ => ?_
  subst ex
  obtain ⟨tk, rfl⟩ := rx
  exact ⟨y, tk, rfl, l, hr pins s1 σ H1 (acc ++ y) R Q I1 q k⟩
theorem pe_join (h : PJ X (e :: e2 :: es) t) : PE X (.JoinedStr (e :: e2 :: es) pos) (tJoin t) := by
  intro pins s σ H Q I hq
  refine wpAny_JoinedStr (h pins s σ H Str.empty _ _ I hq fun y s1 H1 I1 ⟨l, q⟩ => ⟨l, .str y, H1, I1.tok _, ⟨_, rfl⟩, q⟩)
end
end L2
namespace L2
open PySem PySem.Spec PyProof.Rows
structure Bl (mg : Str → Option Value) : Prop where
  n_len : mg "len" = none
  n_abs : mg "abs" = none
  n_list : mg "list" = none
  n_range : mg "range" = none
  n_tuple : mg "tuple" = none
  n_any : mg "any" = none
  n_all : mg "all" = none
  n_isinstance : mg "isinstance" = none
  n_bool : mg "bool" = none
  n_int : mg "int" = none
  n_str : mg "str" = none
  n_sorted : mg "sorted" = none
  n_min : mg "min" = none
  n_max : mg "max" = none
  n_sum : mg "sum" = none
  n_dict : mg "dict" = none
  n_reversed : mg "reversed" = none
  n_ValueError : mg "ValueError" = none
theorem anyK {X : Cx} {K : PySem.W.Frag} (hc : X.calm = true) (h : X.K = K) : CallR X (.builtin "any") (rAny K) := h ▸ call_any_bools hc
theorem allK {X : Cx} {K : PySem.W.Frag} (hc : X.calm = true) (h : X.K = K) : CallR X (.builtin "all") (rAll K) := h ▸ call_all_bools hc
theorem sortedK {X : Cx} {K : PySem.W.Frag} (h : X.K = K) : CallR X (.builtin "sorted") (rSorted K) := h ▸ call_sorted
theorem inK {X : Cx} {K : PySem.W.Frag} (h : X.K = K) : OpR X (compareOp .In) (rIn K false) := h ▸ op_in_seq
theorem notInK {X : Cx} {K : PySem.W.Frag} (h : X.K = K) : OpR X (compareOp .NotIn) (rIn K true) := h ▸ op_notIn_seq
theorem ix_seqK {X : Cx} {K : PySem.W.Frag} (h : X.K = K) : IxR X (rIx K) := h ▸ ix_seq
structure FunD (K : PySem.W.Frag) (x qual : Str) (st : Stmt) (f : Addr) (fd : FuncData) : Prop where
  ex : ∃ (oc : Value) (od : Option Addr) (dV kV doc pm : Value) (an : Option Addr) (cdv ct : Value) (osl : Array (Option Value)),
    fd = PySem.W.fnOf x qual (defArgs st) (defBody st) (defScope st) dV kV doc pm an cdv ct ∧ K.lookup f = some ⟨oc, od, .func fd, osl⟩ ∧ PySem.W.codeIn K cdv qual = true
  kp : PySem.W.keepIn K (.ref f) = true
section
variable {P : Program} {w : World} {K : PySem.W.Frag} {mg : Str → Option Value} {base : Heap}
theorem FunD.ok {x qual : Str} {st : Stmt} {f : Addr} {fd : FuncData} {N ps : List Str} {k : Nat} {sp : Sp} (F : FunD K x qual st f fd) (S : FnScope N ps (defScope st)) (len : ∀ vs H Q E, sp vs H Q E → vs.length = ps.length)
    (hbody : ∀ (cdv : Value) (A : Around) (outer : List Env) (s : Shared) (H : Hp) (vs : List V) (Q : VK) (E : XK), Room k (A.deeper (envOfC qual (defScope st) s.heap.objs.size f cdv)) → sp vs H Q E →
      ∃ t, PSs (cxOf CX0 P w K mg base N qual (defScope st) f cdv A outer s H E).nox (defBody st) t ∧ t { nx := fun _ H' => Q .non H', rt := Q } (start N vs) H) : FnOk P w K mg base CX0 (k + 1) f fd ps sp := by
  obtain ⟨oc, od, dV, kV, doc, pm, an, cdv, ct, osl, rfl, lk, hcd⟩ := F.ex
  refine fn_of lk hcd S len fun A outer s H vs Q E hr hsp => ?_
  obtain ⟨t, h, q⟩ := hbody cdv A outer s H vs Q E hr hsp
  exact ⟨t, h.nox, q⟩
end
theorem kit_ii {K : PySem.W.Frag} : PySem.W.kitOne K (.type "int") (.type "int") = some true := by kernel_rfl
theorem kit_ib {K : PySem.W.Frag} : PySem.W.kitOne K (.type "int") (.type "bool") = some false := by kernel_rfl
theorem kit_bb {K : PySem.W.Frag} : PySem.W.kitOne K (.type "bool") (.type "bool") = some true := by kernel_rfl
theorem kit_sb {K : PySem.W.Frag} : PySem.W.kitOne K (.type "str") (.type "bool") = some false := by kernel_rfl
theorem kit_si {K : PySem.W.Frag} : PySem.W.kitOne K (.type "str") (.type "int") = some false := by kernel_rfl
theorem kit_ss {K : PySem.W.Frag} : PySem.W.kitOne K (.type "str") (.type "str") = some true := by kernel_rfl
theorem kit_lb {K : PySem.W.Frag} : PySem.W.kitOne K (.type "list") (.type "bool") = some false := by kernel_rfl
theorem kit_li {K : PySem.W.Frag} : PySem.W.kitOne K (.type "list") (.type "int") = some false := by kernel_rfl
theorem kit_ls {K : PySem.W.Frag} : PySem.W.kitOne K (.type "list") (.type "str") = some false := by kernel_rfl
theorem kit_ll {K : PySem.W.Frag} : PySem.W.kitOne K (.type "list") (.type "list") = some true := by kernel_rfl
theorem kit_lt {K : PySem.W.Frag} : PySem.W.kitOne K (.type "list") (.type "tuple") = some false := by kernel_rfl
theorem kit_tb {K : PySem.W.Frag} : PySem.W.kitOne K (.type "tuple") (.type "bool") = some false := by kernel_rfl
theorem kit_ti {K : PySem.W.Frag} : PySem.W.kitOne K (.type "tuple") (.type "int") = some false := by kernel_rfl
theorem kit_ts {K : PySem.W.Frag} : PySem.W.kitOne K (.type "tuple") (.type "str") = some false := by kernel_rfl
theorem kit_tl {K : PySem.W.Frag} : PySem.W.kitOne K (.type "tuple") (.type "list") = some false := by kernel_rfl
theorem kit_tt {K : PySem.W.Frag} : PySem.W.kitOne K (.type "tuple") (.type "tuple") = some true := by kernel_rfl
theorem snoc_int' (ns : List Int) (o : Option Int) : (ns ++ o.toList).map V.int = ns.map V.int ++ o.toList.map V.int := by simp
inductive Dt where
  | non | bl (b : Bool) | int (i : Int) | str (x : Str) | lst (ds : List Dt) | tup (ds : List Dt)
def At (H : Hp) : Nat → V → Dt → Prop
  | _, v, .non => v = .non
  | _, v, .bl b => v = .bl b
  | _, v, .int i => v = .int i
  | _, v, .str x => v = .str x
  | 0, _, .lst _ => False
  | 0, _, .tup _ => False
  | m + 1, v, .lst ds => ∃ a xs, v = .ref a ∧ H a = some (.lst xs) ∧ ds.length ≤ 1000 ∧ Paired (At H m) xs ds
  | m + 1, v, .tup ds => ∃ a xs, v = .ref a ∧ H a = some (.tup xs) ∧ ds.length ≤ 1000 ∧ Paired (At H m) xs ds
theorem At.same {H H' : Hp} (g : Same H H') : ∀ {m : Nat} {v : V} {d : Dt}, At H m v d → At H' m v d
  | _, _, .non, h => by unfold At at h ⊢; exact h
  | _, _, .bl _, h => by unfold At at h ⊢; exact h
  | _, _, .int _, h => by unfold At at h ⊢; exact h
  | _, _, .str _, h => by unfold At at h ⊢; exact h
  | 0, _, .lst _, h => by unfold At at h; exact h.elim
  | 0, _, .tup _, h => by unfold At at h; exact h.elim
  | m + 1, _, .lst _, h => by
    unfold At at h ⊢
    obtain ⟨a, xs, e, h1, h2, h3⟩ := h
    exact ⟨a, xs, e, g _ _ h1, h2, L2.Paired.mapP h3 fun _ _ z => At.same g z⟩
  | m + 1, _, .tup _, h => by
    unfold At at h ⊢
    obtain ⟨a, xs, e, h1, h2, h3⟩ := h
    exact ⟨a, xs, e, g _ _ h1, h2, L2.Paired.mapP h3 fun _ _ z => At.same g z⟩
section
variable {H : Hp} {m : Nat}
theorem at_bl (b : Bool) : At H m (.bl b) (.bl b) := by unfold At; rfl
theorem at_int (i : Int) : At H m (.int i) (.int i) := by unfold At; rfl
theorem at_str (x : Str) : At H m (.str x) (.str x) := by unfold At; rfl
theorem at_tup {a : Addr} {xs : List V} {ds : List Dt} (h : H a = some (.tup xs)) (l : ds.length ≤ 1000) (p : Paired (At H m) xs ds) : At H (m + 1) (.ref a) (.tup ds) := by unfold At; exact ⟨a, xs, rfl, h, l, p⟩
theorem at_lst {a : Addr} {xs : List V} {ds : List Dt} (h : H a = some (.lst xs)) (l : ds.length ≤ 1000) (p : Paired (At H m) xs ds) : At H (m + 1) (.ref a) (.lst ds) := by unfold At; exact ⟨a, xs, rfl, h, l, p⟩
end
theorem paired_get {α β : Type} {F : α → β → Prop} : ∀ {xs : List α} {ys : List β} {i : Nat} {x : α}, Paired F xs ys → xs[i]? = some x → ∃ y, ys[i]? = some y ∧ F x y
  | _, _, _, _, .nil, h => by simp at h
  | _, _, 0, _, .cons r _, h => by
    have e := Option.some.inj (show some _ = some _ by simpa using h)
    subst e
    exact ⟨_, rfl, r⟩
  | _, _, i + 1, x, .cons _ t, h => by
    obtain ⟨y, h1, h2⟩ := paired_get (i := i) (x := x) t (by simpa using h)
    exact ⟨y, by simpa using h1, h2⟩
theorem paired_len {α β : Type} {F : α → β → Prop} : ∀ {xs : List α} {ys : List β}, Paired F xs ys → xs.length = ys.length
  | _, _, .nil => rfl
  | _, _, .cons _ t => by rw [List.length_cons, List.length_cons, paired_len t]
theorem atI_some {α : Type} {xs : List α} {i : Nat} {x : α} (h : xs[i]? = some x) : atI xs (0 + (i : Int)) = some x := by
  rw [show (0 : Int) + (i : Int) = (i : Int) from by omega]
  exact atI_nat h
def XP (H : Hp) (C : Addr) (wd : Str) (E : XK) : Prop := ∀ (a d : Addr) (H' : Hp), H a = none → H d = none → Same H H' → H' a = some (xo a C (some d)) → H' d = some (xq d [("word", .str wd)]) → E (.ref C) (some d) H'
theorem XP.same {H H1 : Hp} {C : Addr} {wd : Str} {E : XK} (x : XP H C wd E) (g : Same H H1) : XP H1 C wd E := fun a d H' h1 h2 g' h3 h4 => x a d H' (g.free h1) (g.free h2) (g.trans g') h3 h4
theorem XCls.of {K : PySem.W.Frag} {C f : Addr} (x : XAt K C) (init : PySem.W.findIn K (.ref C) "__init__" = some (some (.ref f))) (fn : PySem.W.isFn K (.ref f) = true) (kp : PySem.W.keepIn K (.ref C) = true) : XCls K C f := by
  obtain ⟨nm, q, N, bs, cs, sn, sub, ab, col, dd, k0, k1, k2, k3, k5, l⟩ := id x.rec_
  have no : ∀ n : String, vMro.contains (.type n) = false → PySem.W.mroIn K C (.type n) = some false := fun n hn => by
    unfold PySem.W.mroIn PySem.W.clsIn
    rw [l]
    show some ((Value.ref C :: (cs.map Value.ref ++ vMro)).contains (.type n)) = some false
    rw [has_not C cs n hn]
  exact ⟨⟨nm, q, N, bs, _, sn, sub, ab, col, dd, k0, k1, k2, k3, k5, l⟩, x.mro _ (by decide), x.mro _ (by decide), no _ (by decide), no _ (by decide), init, fn, kp⟩
theorem xat_top {K : PySem.W.Frag} {C : Addr} {nm q : Str} {N : Addr} {bs : List Value} {sn : List Str} {sub : List Value} {ab : Bool} {col : Option Bool} {dd : Option Addr} {k0 k1 k2 k3 k5 : Option Value}
    (l : K.lookup C = some (excClassObj nm q C N bs vMro true sn sub ab col dd k0 k1 k2 k3 k5 "ValueError.__new__")) (h1 : PySem.W.findIn K (.ref C) "__getattribute__" = some (some (.builtin "BaseException.__getattribute__"))) (h2 : PySem.W.findIn K (.ref C) "__getattr__" = some none)
    (h3 : PySem.W.findIn K (.ref C) "__setattr__" = some (some (.builtin "object.__setattr__"))) (h4 : PySem.W.findIn K (.ref C) "__class__" = some (some (.builtin "object.__class__"))) (h5 : PySem.W.specialIn K (.builtin "object.__class__") "__get__" = some (some (.builtin "getset_descriptor.__get__")))
    (h6 : PySem.W.takesIn K (.builtin "object.__class__") = some true) : XAt K C := ⟨⟨nm, q, N, bs, [], sn, sub, ab, col, dd, k0, k1, k2, k3, k5, l⟩, h1, h2, h3, h4, h5, h6⟩
theorem xat_sub {K : PySem.W.Frag} {C B : Addr} {nm q : Str} {N : Addr} {bs : List Value} {sn : List Str} {sub : List Value} {ab : Bool} {col : Option Bool} {dd : Option Addr} {k0 k1 k2 k3 k5 : Option Value}
    (l : K.lookup C = some (excClassObj nm q C N bs (.ref B :: vMro) true sn sub ab col dd k0 k1 k2 k3 k5 "ValueError.__new__")) (h1 : PySem.W.findIn K (.ref C) "__getattribute__" = some (some (.builtin "BaseException.__getattribute__"))) (h2 : PySem.W.findIn K (.ref C) "__getattr__" = some none)
    (h3 : PySem.W.findIn K (.ref C) "__setattr__" = some (some (.builtin "object.__setattr__"))) (h4 : PySem.W.findIn K (.ref C) "__class__" = some (some (.builtin "object.__class__"))) (h5 : PySem.W.specialIn K (.builtin "object.__class__") "__get__" = some (some (.builtin "getset_descriptor.__get__")))
    (h6 : PySem.W.takesIn K (.builtin "object.__class__") = some true) : XAt K C := ⟨⟨nm, q, N, bs, [B], sn, sub, ab, col, dd, k0, k1, k2, k3, k5, l⟩, h1, h2, h3, h4, h5, h6⟩
theorem kit_self {K : PySem.W.Frag} (C : Addr) : PySem.W.kitOne K (.ref C) (.ref C) = some true := by unfold PySem.W.kitOne; rw [if_pos (beq_self_eq_true _)]
theorem kit_other {K : PySem.W.Frag} {C B : Addr} {b : Bool} (x : XAt K B) (ne : C ≠ B) (h : PySem.W.mroIn K C (.ref B) = some b) : PySem.W.kitOne K (.ref C) (.ref B) = some b := by
  obtain ⟨nm, q, N, bs, cs, sn, sub, ab, col, dd, k0, k1, k2, k3, k5, l⟩ := x.rec_
  unfold PySem.W.kitOne
  rw [if_neg (fun z => ne (Value.ref.inj (beq_iff_eq.mp z)))]
  unfold PySem.W.kitCls
  have c1 : PySem.W.clsIn K B = some { name := nm, bases := bs, mro := .ref B :: (cs.map Value.ref ++ vMro), ns := N, qualname := q, hasDict := true, slotNames := sn, subclasses := sub, abstract := ab, collection := col, hasDel := false } := by
    unfold PySem.W.clsIn
    rw [l]
  have c2 : PySem.W.typeIn K (.ref B) = some (.type "type") := by
    show (K.lookup B).map (·.cls) = _
    rw [l]
    rfl
  dsimp only
  rw [if_pos (by rw [c1, c2]; rfl)]
  exact h
def rTupRng : List V → Hp → VK → Prop := fun xs H Q => ∃ (p : Addr) (n : Nat), xs = [.ref p] ∧ H p = some (.rng 0 (n : Int)) ∧ n ≤ 1000 ∧ ∀ l : Addr, H l = none → Q (.ref l) (upd H l (.tup ((upto n).map V.int)))
end L2
namespace L2
open PySem PySem.Spec PyProof.Rows
section
variable {prog : Program} {w : World} {A : Around} {E : Value → Shared → Prop} {s : Shared}
theorem collect_rng {Q : List Value → Shared → Prop} {r : Addr} {n : Nat} {t u v : Tok} (hh : A.handled = none) (hr : IsRange s.heap r 0 (n : Int) 1 t u v) (hn : n ≤ 1000)
    (k : ∀ h' tk (acc : Array Value), (∀ b o, s.heap.get? b = some o → h'.get? b = some o) → ItemsOf (fun i v => ∃ t, v = .int (0 + i * 1) t) acc n → Q acc.toList { s with heap := h', toks := tk }) :
    wpAny (model prog w) A (collect (.ref r)) Q E s := by
  unfold collect
  refine wpAny_bind (wpAny_runValue (codeAny_builtin PySem.F.entry_proto_collect ?_))
  rw [Around.under_plainId PySem.F.plain_proto_collect _]
  show wpAny _ A.in1 (newList [] >>= fun l => again (.builtin "list.__iadd__" ⟨[l, .ref r], []⟩)) _ _ s
  refine wpAny_bind (wpAny_newObj_type (wpAny_pure ⟨plainId_quiet PySem.F.plain_list_iadd _, codeAny_builtin PySem.F.entry_list_iadd ?_⟩))
  rw [Around.under_plainId PySem.F.plain_list_iadd _]
  show wpAny _ A.in1 (Builtin.List.listExtendWith (.ref s.heap.objs.size) (.ref r) (.ref s.heap.objs.size)) _ _ _
  have at_ : (s.heap.push { cls := .type "list", data := .seq ([] : List Value).toArray }).get? s.heap.objs.size = some { cls := .type "list", data := .seq #[] 0 } := Heap.get?_push_size _ rfl
  have done_ : ∀ s' : Shared, (∃ (h' : Heap) (tk : Nat) (acc : Array Value) (c : Nat), s' = { s with heap := h', toks := tk } ∧ (∀ b o, b ≠ s.heap.objs.size → (s.heap.push { cls := .type "list", data := .seq ([] : List Value).toArray }).get? b = some o → h'.get? b = some o) ∧
      h'.get? s.heap.objs.size = some { cls := .type "list", dict := none, data := .seq acc c, slots := #[] } ∧ ItemsOf (fun i v => ∃ t, v = .int (0 + i * 1) t) acc n) →
      wpAny (model prog w) A (match Value.ref s.heap.objs.size with
        | Value.ref a => do
          match (← load a).data with
            | Data.seq xs _ => pure xs.toList
            | _ => unsupported "internal:collect"
        | _ => unsupported "internal:collect") Q E s' := by
    rintro s' ⟨h', tk, acc, c, rfl, kp, here, its⟩
    show wpAny _ A (load s.heap.objs.size >>= _) _ _ _
    refine wpAny_bind (wpAny_load here (wpAny_pure (k h' tk acc (fun b o hb => ?_) its)))
    exact kp b o (Nat.ne_of_lt (Heap.lt_size hb)) (Heap.get?_push_of_some _ hb)
  refine wpAny_mono (wpAny_extend_range (A := A) (s := { s with heap := s.heap.push { cls := .type "list", data := .seq ([] : List Value).toArray } })
    (R := fun r s' => r = .ok (.ret (.ref s.heap.objs.size)) ∧ ∃ (h' : Heap) (tk : Nat) (acc : Array Value) (c : Nat), s' = { s with heap := h', toks := tk } ∧ (∀ b o, b ≠ s.heap.objs.size → (s.heap.push { cls := .type "list", data := .seq ([] : List Value).toArray }).get? b = some o → h'.get? b = some o) ∧
      h'.get? s.heap.objs.size = some { cls := .type "list", dict := none, data := .seq acc c, slots := #[] } ∧ ItemsOf (fun i v => ∃ t, v = .int (0 + i * 1) t) acc n)
    hh (Heap.get?_push_of_some _ hr) (small_one (by omega) (by omega) (by omega) (by omega)) (n := n) (by rw [rangeSize_one]; split <;> omega) (by omega) _ _ 0 at_ fun h' tk acc c kp here its => ⟨rfl, h', tk, acc, c, rfl, kp, here, its⟩) (fun fin s' z => ?_) fun e s' z => ?_
  · cases fin with
    | done f =>
      obtain ⟨e, z⟩ := z
      cases e
      exact done_ s' z
    | again c' => exact ⟨z.1, codeAny_mono z.2 fun r s'' hr => by obtain ⟨rfl, hz⟩ := hr; exact done_ s'' hz⟩
  · exact absurd z.1 (by simp)
theorem new_rng (r : Addr) (n : Nat) (t u v : Tok) (hn : n ≤ 1000) :
    Meets (Builtin.«tuple.__new__» ⟨[.type "tuple", .ref r], []⟩) (fun A R s => A.handled = none ∧ IsRange s.heap r 0 (n : Int) 1 t u v ∧ ∀ (h' : Heap) (tk : Nat) (acc : Array Value), (∀ b o, s.heap.get? b = some o → h'.get? b = some o) → ItemsOf (fun i v => ∃ t, v = .int (0 + i * 1) t) acc n →
      R (.ok (.ret (.ref h'.objs.size))) { s with heap := h'.push { cls := .type "tuple", data := .seq acc }, toks := tk }) :=
  .of_wp fun prog w A R s h => by
    obtain ⟨hp, g, d, tk, os⟩ := s
    obtain ⟨hh, ht, q⟩ := h
    have sub := sub_tuple_self
    have ini := init_tuple_lookup
    have mh := madeHere_tuple
    have ty : Shared.TypeIs ⟨hp, g, d, tk, os⟩ (.ref r) "range" := ⟨_, ht, rfl⟩
    have hh1 : A.in1.handled = none := hh
    wp_walk using PySem.AutoSeq1.wpAny_loadPart' ht, wpAny_typeOf ty, collect_rng (A := A.in1) hh1 ht hn
    intro h' tk' acc kp its
    show wpAny _ _ (Builtin.Tuple.tupleExact acc.toList.toArray >>= fun v => ret v) _ _ _
    unfold Builtin.Tuple.tupleExact
    have lz : acc.toList.toArray.size ≤ sizeLine := by
      have e := its.1
      rw [sizeLine_eq]
      simp
      omega
    refine wpAny_bind (wpAny_newObj_type (wpAny_pure ⟨_, rfl, ?_⟩) lz)
    have e : acc.toList.toArray = acc := by simp
    rw [e]
    exact q h' tk' acc kp its
end
theorem call_tuple_rng {X : Cx} (hc : X.calm = true) : CallR X (.type "tuple") rTupRng := by
  intro pins s σ H xs us Q I r h
  obtain ⟨p, n, rfl, hp, hn, q⟩ := h
  obtain ⟨u, rfl, rx⟩ := vals1 r
  cases rx
  obtain ⟨t, u, v, ho⟩ := I.hok p _ hp
  refine callType_new PySem.F.called_tuple (by decide) (PySem.F.typeCall_tuple_1 _) (PySem.F.newCall_tuple_1 _) (fun obj => PySem.F.args_object_init_2 obj _) PySem.F.entry_tuple_new (new_rng p n t u v hn) ⟨I.ok.hd hc, ho, fun h' tk acc kp its => ⟨⟨_, Heap.get?_push_size _ rfl, rfl⟩, ?_⟩⟩
  have I1 : Inv X pins σ H { s with heap := h', toks := tk } := I.kept (t' := tk) kp
  have vs : Vals ((upto n).map V.int) acc.toList := by
    refine vals_of_get (by rw [List.length_map, upto_length]; simp [its.1]) fun i x u e1 e2 => ?_
    obtain ⟨t', rfl⟩ := its.2 i u (by simpa using e2)
    have hi : i < n := by
      have := (List.getElem?_eq_some_iff.mp e1).1
      rw [List.length_map, upto_length] at this
      exact this
    rw [List.getElem?_map, upto_get hi] at e1
    have e3 : V.int (i : Int) = x := Option.some.inj e1
    subst e3
    exact ⟨t', by rw [show (0 : Int) + (i : Int) * 1 = (i : Int) by omega]⟩
  have I2 : Inv X pins σ (upd H h'.objs.size (.tup ((upto n).map V.int))) { s with heap := h'.push { cls := .type "tuple", data := .seq acc }, toks := tk } :=
    I1.laid (t' := tk) (fun b o e => Heap.get?_push_of_some _ e) (Nat.le_refl _) (show ObjOk X.prog X.w _ _ _ (.tup _) from ⟨by rw [List.length_map, upto_length]; exact Nat.le_of_lt (small1000 hn), acc.toList, vs, by simpa using IsTupN.new h' acc⟩)
  exact ⟨.ref h'.objs.size, _, I2, rfl, q _ (I1.hok.fresh (Nat.le_refl _))⟩
end L2
namespace L2
open PySem PySem.Spec PyProof.Rows
def spKin (K : PySem.W.Frag) : Sp := fun vs H Q _ => ∃ (a C : Addr) (wd y : Str), vs = [.ref a, .str wd, .str y] ∧ H a = some (xn a C none) ∧ XAt K C ∧ NoAttr K C "word" ∧ wd.length ≤ 100 ∧ y.length ≤ 1000000 ∧
  ∀ d, H d = none → d ≠ a → Q .non (upd (upd H d (xq d [("word", .str wd)])) a (xn a C (some d)))
def spBad (wd : Str) (c : Addr) : Sp := fun vs H Q _ => ∃ (a : Addr) (y : Str), vs = [.ref a, .str y] ∧ H a = some (xn a c none) ∧ y.length ≤ 1000000 ∧
  ∀ d, H d = none → d ≠ a → Q .non (upd (upd H d (xq d [("word", .str wd)])) a (xn a c (some d)))
def HasErr (P : Program) (w : World) (K : PySem.W.Frag) (mg : Str → Option Value) (base : Heap) (x wd : Str) (c : Addr) : Prop :=
  ∃ fi fd, XCls K c fi ∧ FnOk P w K mg base CX0 2 fi fd ["self", "why"] (spBad wd c) ∧ Binds K fd ["self", "why"] [] ∧ mg x = some (.ref c) ∧ XAt K c ∧ NoAttr K c "word"
abbrev TF := St → Hp → (Hp → Prop) → Prop
def fNil : TF := fun _ H R => R H
def fCons (te : TE) (tr : TF) : TF := fun σ H R => te σ H fun x H1 => ∃ y : Str, x = .str y ∧ y.length ≤ 4000 ∧ tr σ H1 R
def PF (X : Cx) (es : List Expr) (t : TF) : Prop :=
  ∀ (pins : List (Addr × Obj)) (s : Shared) (σ : St) (H : Hp) (acc : Str) (R : Hp → Prop) (Q : Str → Shared → Prop), Inv X pins σ H s → acc.length + 4000 * es.length ≤ sizeLine → t σ H R →
    (∀ z s' H', Inv X pins σ H' s' → z.length ≤ acc.length + 4000 * es.length → R H' → Q z s') → PySem.Joins (model X.prog X.w) X.A X.xe (evalEach es X.env) acc Q s
def tJF (n : Nat) (t : TF) : TE := fun σ H Q => t σ H fun H1 => ∀ z : Str, z.length ≤ 4000 * n → Q (.str z) H1
section
variable {X : Cx} {e e2 : Expr} {es : List Expr} {te : TE} {t : TF} {pos : Pos}
theorem pf_nil : PF X [] fNil := fun _ s _ H acc _ _ I _ h k => k acc s H I (by simp) h
theorem pf_cons (he : PE X e te) (hr : PF X es t) : PF X (e :: es) (fCons te t) := by
  intro pins s σ H acc R Q I lim h k
  show wpAny _ X.A (eval e X.env) (fun v s1 => ∃ y t, v = .str y t ∧ (acc ++ y).length ≤ sizeLine ∧ PySem.Joins (model X.prog X.w) X.A X.xe (evalEach es X.env) (acc ++ y) Q s1) X.xe s
  refine thn (he pins s σ H _ I h) fun u s1 ⟨x, H1, I1, rx, y, ex, l, q⟩ => ?_
  subst ex
  obtain ⟨tk, rfl⟩ := rx
  rw [List.length_cons] at lim
  have e1 : (acc ++ y).length = acc.length + y.length := strLen_append ..
  refine ⟨y, tk, rfl, by omega, hr pins s1 σ H1 (acc ++ y) R Q I1 (by omega) q fun z s' H' I' lz r => k z s' H' I' ?_ r⟩
  rw [List.length_cons]
  omega
theorem pe_joinF {n : Nat} (h : PF X (e :: e2 :: es) t) (hn : (e :: e2 :: es).length = n := by rfl) (sm : n ≤ 100 := by decide) : PE X (.JoinedStr (e :: e2 :: es) pos) (tJF n t) := by
  subst hn
  intro pins s σ H Q I hq
  have lim : Str.empty.length + 4000 * (e :: e2 :: es).length ≤ sizeLine := by
    have e0 : Str.empty.length = 0 := rfl
    rw [sizeLine_eq]
    omega
  refine wpAny_JoinedStr (h pins s σ H Str.empty _ _ I lim hq fun y s1 H1 I1 l q => ?_)
  have e0 : Str.empty.length = 0 := rfl
  exact ⟨by omega, .str y, H1, I1.tok _, ⟨_, rfl⟩, q y (by omega)⟩
end
def tW (te : TE) (R : St → Hp → VK) : TE := fun σ H Q => te σ H (R σ H) ∧ ∀ v H1, R σ H v H1 → Q v H1
theorem PE.weak {X : Cx} {e : Expr} {te : TE} (h : PE X e te) (R : St → Hp → VK) : PE X e (tW te R) := fun pins s σ H Q I ⟨q, k⟩ => thn (h pins s σ H (R σ H) I q) fun _ _ ⟨v, H1, I1, r, z⟩ => ⟨v, H1, I1, r, k v H1 z⟩
def tRaiseE (c : Addr) (wd : Str) (E : St → XK) (te : TE) : TS := fun _ σ H => te σ H fun v H1 => ∃ y : Str, v = .str y ∧ y.length ≤ 1000000 ∧ XP H1 c wd (E σ)
theorem ps_raiseE {X : Cx} {j : Nat} {x wd : Str} {c : Addr} {E : St → XK} {e : Expr} {te : TE} {p pos cpos : Pos} (h : HasErr X.prog X.w X.K X.mg X.base x wd c) (hr : Room j X.A) (hj : 3 ≤ j) (hc : X.calm = true) (hg : Gl X x) (hx : PassX X E) (he : PE X e te)
    (hdb : (x == ("__debug__" : Str)) = false := by decide) (hst : starEach [e] X.env = [(false, eval e X.env)] := by rfl) :
    PS X (.Raise (some (.Call (.Name x p) [e] [] cpos)) none pos) (tRaiseE c wd E te) := by
  obtain ⟨fi, fd, xc, F, b, m, xa, na⟩ := h
  intro pins s σ H D I q
  refine ps_raise xc F (hr.mono hj) hc hg m b .nil hx (pa_cons (he.weak fun σ _ v H1 => ∃ y : Str, v = .str y ∧ y.length ≤ 1000000 ∧ XP H1 c wd (E σ)) pa_nil hst) hdb hst rfl pins s σ H D I ⟨q, ?_⟩
  rintro v H1 ⟨y, rfl, ly, xp⟩
  refine ⟨by show 1 ≤ 1000; omega, fun a ha => ⟨a, y, rfl, upd_same, ly, fun d hd nd => ⟨rfl, d, upd_same, ?_⟩⟩⟩
  have hd1 : H1 d = none := by rw [upd_ne nd] at hd; exact hd
  refine xp a d _ ha hd1 (fun b o e => ?_) upd_same ?_
  · have n1 : b ≠ a := ne_of_none e ha
    have n2 : b ≠ d := ne_of_none e hd1
    rw [upd_ne n1, upd_ne n1, upd_ne n2, upd_ne n1]
    exact e
  · rw [upd_ne nd, upd_ne nd, upd_same]
theorem isinstXK {X : Cx} {K : PySem.W.Frag} (h : X.K = K) : CallR X (.builtin "isinstance") (rIsiX K) := h ▸ call_isinstX
theorem pe_xfldK {X : Cx} {K : PySem.W.Frag} {e : Expr} {ta : TE} {f : Str} {pos : Pos} (h : X.K = K) (he : PE X e ta) (hb : attributeBase e f X.env (eval e X.env) = eval e X.env := by rfl) : PE X (.Attribute e f pos) (tXfld K ta f) := h ▸ pe_xfld he hb
end L2
namespace L2
open PySem PySem.Spec PyProof.Rows
open PySem.W (Looks InstAt looks_findIn looks_typeIn looks_clsIn looks_mroIn looks_find findObj findIn mroIn clsIn)
section
variable {X : Cx} {B1 B2 : Addr} {i : Nat} {n x1 x2 : Str} {body suite1 suite2 : List Stmt} {b1 b2 : Stmt} {px1 px2 hp1 hp2 pos : Pos} {tb : (St → XK) → TS} {th1 th2 : TS}
end
theorem pe_mtX {X : Cx} {k j : Nat} {m : Str} {C : Addr} {ps : List Str} {sp : Sp} {E : St → XK} {pos apos : Pos} {o e : Expr} {es : List Expr} {t : TA} {ta : TE} {pl : Sem Bool} (h : ∃ f fd, Cls X.K C ∧ Meth X.K C m f ∧ FnOk X.prog X.w X.K X.mg X.base (CXe X.prog X.w) k f fd ps sp ∧ Binds X.K fd ps []) (hr : Room j X.A) (hj : k ≤ j) (hx : PassX X E) (ho : PE X o ta) (ha : PA X (e :: es) t)
    (hst : starEach (e :: es) X.env = (false, eval e X.env) :: starEach es X.env := by rfl) (hpl : (backTo pos (starEach es X.env)).any (·.1) = false := by rfl)
    (ht : eval (.Call (.Attribute o m apos) (e :: es) [] pos) X.env = (do
      let ov ← eval o X.env
      standAt apos.atName
      let (f, first) ← holding [ov] (getMethod ov m pl)
      callWith pos f first (backTo pos (starEach (e :: es) X.env)) (backToKw pos (keywordEach [] X.env))) := by rfl) :
    PE X (.Call (.Attribute o m apos) (e :: es) [] pos) (tMethX C m sp E ta t) := by
  obtain ⟨f, fd, c, hm, F, b⟩ := h
  exact pe_methX ho c hm F (hr.mono hj) b hx ha hst hpl ht
end L2
namespace Orb
open L2
section
variable {t : List Int} {n : Nat}
end
end Orb
namespace L2
open PySem PySem.Spec PyProof.Rows
def Row (K : PySem.W.Frag) (H : Hp) (p : Addr) (ns : List Int) : Prop := SqL K H p (ns.map V.int) ∨ SqT K H p (ns.map V.int)
theorem Row.same {K : PySem.W.Frag} {H H' : Hp} {p : Addr} {ns : List Int} (e : Same H H') (h : Row K H p ns) : Row K H' p ns := by
  rcases h with h | h
  · exact .inl (e.seq h)
  · exact .inr (e.sqt h)
def full (ns : List Int) : Bool := decide (ns.Perm (upto ns.length))
theorem full_perm {ns : List Int} (h : full ns = true) : ns.Perm (upto ns.length) := of_decide_eq_true h
theorem full_of {ns : List Int} {n : Nat} (h : ns.Perm (upto n)) : full ns = true := decide_eq_true (by rw [h.length_eq, upto_length]; exact h)
theorem upto_sorted (n : Nat) : (upto n).Pairwise (· ≤ ·) := by
  unfold upto
  rw [List.pairwise_map]
  exact List.pairwise_lt_range.imp fun h => by omega
theorem sorted_one : ∀ {as bs : List Int}, as.Perm bs → as.Pairwise (· ≤ ·) → bs.Pairwise (· ≤ ·) → as = bs
  | [], bs, p, _, _ => by
    have := p.length_eq
    exact (List.eq_nil_of_length_eq_zero this.symm).symm
  | a :: as, [], p, _, _ => by
    have := p.length_eq
    simp at this
  | a :: as, b :: bs, p, h1, h2 => by
    rw [List.pairwise_cons] at h1 h2
    have e : a = b := by
      have ha : a ∈ b :: bs := p.subset List.mem_cons_self
      have hb : b ∈ a :: as := p.symm.subset List.mem_cons_self
      have x1 : a ≤ b := by
        rcases List.mem_cons.mp hb with z | z
        · omega
        · exact h1.1 b z
      have x2 : b ≤ a := by
        rcases List.mem_cons.mp ha with z | z
        · omega
        · exact h2.1 a z
      omega
    subst e
    rw [sorted_one (List.Perm.cons_inv p) h1.2 h2.2]
theorem sorted_full {ns ns' : List Int} (p : ns'.Perm ns) (h : ns'.Pairwise (· ≤ ·)) : decide (ns' = upto ns.length) = full ns := by
  unfold full
  rw [Bool.eq_iff_iff, decide_eq_true_iff, decide_eq_true_iff]
  constructor
  · intro e
    rw [← e]
    exact p.symm
  · intro q
    exact sorted_one (p.trans q) h (upto_sorted _)
def tFull (K : PySem.W.Frag) (neg : Bool) (tr : TE) : TE := tOp (rEqL K neg) (tCB (rSorted K) (tCons tr tNil)) (tCB rListRng (tCons (tCB rRange1 (tCons (tCB (rLen K) (tCons tr tNil)) tNil)) tNil))
theorem full_ask {K : PySem.W.Frag} {i : Nat} {neg : Bool} {σ : St} {H : Hp} {p : Addr} {ns : List Int} {Q : VK} (hi : σ[i]? = some (some (.ref p))) (hR : Row K H p ns) (h64 : ns.length < 64) (q : ∀ H', Same H H' → Q (.bl (if neg = true then !full ns else full ns)) H') :
      (tFull K neg (tVar i)) σ H Q := by
  refine ⟨_, hi, p, ns, rfl, hR, h64, fun l ns' hl pm so => ?_⟩
  have g1 : Same H (upd H l (.lst (ns'.map V.int))) := same_new hl _
  refine ⟨_, hi, p, ns.map V.int, rfl, Row.same g1 hR, _, rfl, fun r hr => ?_⟩
  have g2 := g1.trans (same_new hr (.rng 0 (((ns.map V.int).length : Nat) : Int)))
  refine ⟨r, (ns.map V.int).length, rfl, upd_same, by rw [List.length_map]; omega, fun u hu => ?_⟩
  have g3 := g2.trans (same_new hu (.lst ((upto (ns.map V.int).length).map V.int)))
  refine ⟨l, u, ns', upto (ns.map V.int).length, rfl, rfl, SqL.of ?_, SqL.of upd_same, ?_⟩
  · rw [upd_ne (ne_of_none ((same_new hr _) _ _ upd_same) hu)]
    exact (same_new hr _) _ _ upd_same
  · rw [List.length_map, sorted_full pm so]
    exact q _ (by rw [← List.length_map (f := V.int)]; exact g3)
theorem any_false (n : Nat) : (List.replicate n false).any id = false := by
  induction n with
  | zero => rfl
  | succ n ih => rw [List.replicate_succ, List.any_cons, ih]; rfl
end L2
namespace L2
open PySem PySem.Spec PyProof.Rows
section
open PySem.AutoSeq1 (wpAny_loadPart')
open PySem.MeetsSeq PySem.SeqAt
theorem tuple_indexAt (l : Addr) (items : Array Value) (n : Nat) (dd : Option Addr) (sl : Array (Option Value)) (x : Value) (e : Value → Bool) (j : Nat) (hj : j < items.size)
    (hit : e items[j] = true) (hno : ∀ m (hm : m < items.size), m < j → e items[m] = false) :
    Meets (Builtin.«tuple.index» ⟨[.ref l, x], []⟩)
      (fun A R s => s.heap.get? l = some { cls := .type "tuple", dict := dd, data := .seq items n, slots := sl } ∧ (∀ y, y ∈ items → EqAt A.in1 s y x (e y)) ∧ R (.ok (.ret (.int j s.toks))) { s with toks := s.toks + 1 }) :=
  .of_wp fun prog w A R s h => by
    obtain ⟨hp, g, d, tk, os⟩ := s; obtain ⟨hl, he, h⟩ := h
    wp_walk using wpAny_loadPart' hl
    show wpAny _ _ (forIn (m := Sem) [:min items.size items.size] (none, ()) _) _ _ _
    rw [Std.Legacy.Range.forIn_eq_forIn_range']
    simp only [Std.Legacy.Range.size, Nat.sub_zero, Nat.add_sub_cancel, Nat.div_one, Nat.min_self]
    refine wpAny_forIn_list _ (fun rest b s' => s' = ⟨hp, g, d, tk, os⟩ ∧ ∃ i, i ≤ j ∧ rest = List.range' i (items.size - i)) _ ?_ ?_ _ _ ⟨rfl, 0, Nat.zero_le _, by simp⟩
    · rintro k rest b s' ⟨rfl, i, hi, hr⟩
      have hlt : i < items.size := by omega
      obtain ⟨rfl, hrest⟩ : k = i ∧ rest = List.range' (i + 1) (items.size - (i + 1)) := by
        have e : items.size - i = (items.size - (i + 1)) + 1 := by omega
        rw [e, List.range'_succ] at hr
        injection hr with h1 h2
        exact ⟨h1, h2⟩
      rw [Array.getElem?_eq_getElem hlt]
      refine wpAny_bind (he _ (Array.getElem_mem hlt) prog w _ _ ?_)
      rcases Nat.lt_or_ge k j with hk | hk
      · rw [hno k hlt hk]
        wp_walk
        exact ⟨rfl, k + 1, by omega, hrest⟩
      · obtain rfl : k = j := by omega
        rw [hit]
        wp_walk
        exact ⟨_, rfl, h⟩
    · rintro b s' ⟨_, i, hi, hr⟩
      exfalso
      have : (List.range' i (items.size - i)).length = 0 := by rw [← hr]; rfl
      rw [List.length_range'] at this
      omega
end
def tTupIx (to : TE) (t : TA) : TE := fun σ H Q => to σ H fun x H1 => ∃ (p : Addr) (ns : List Int), x = .ref p ∧ H1 p = some (.tup (ns.map V.int)) ∧ t σ H1 fun vs H2 => ∃ (z : Int) (j : Nat), vs = [.int z] ∧ H2 p = some (.tup (ns.map V.int)) ∧ ns[j]? = some z ∧ (∀ m, m < j → ns[m]? ≠ some z) ∧ Q (.int (j : Int)) H2
theorem vals_ints_get : ∀ {ns : List Int} {us : List Value} {j : Nat} (h : j < us.length), Vals (ns.map V.int) us → ∃ n t, ns[j]? = some n ∧ us[j] = .int n t
  | [], _, _, h, .nil => by simp at h
  | n :: ns, u :: us, 0, _, .cons r _ => by
    obtain ⟨t, rfl⟩ := r
    exact ⟨n, t, rfl, rfl⟩
  | n :: ns, u :: us, j + 1, h, .cons _ r => by
    obtain ⟨n', t, e1, e2⟩ := vals_ints_get (j := j) (by simpa using h) r
    exact ⟨n', t, by simpa using e1, by simpa using e2⟩
theorem flat_ints (ns : List Int) : (ns.map V.int).all flatV = true := by
  induction ns with
  | nil => rfl
  | cons n ns ih => rw [List.map_cons, List.all_cons, ih]; rfl
theorem pe_tupindex {X : Cx} {o e : Expr} {to : TE} {t : TA} {apos cpos : Pos} (ho : PE X o to) (ha : PA X [e] t)
    (hbase : attributeBase o "index" X.env (eval o X.env) = eval o X.env := by rfl)
    (hfew : ((backTo cpos (starEach [e] X.env)).all (fun x => !x.1) && (backToKw cpos (keywordEach [] X.env)).all (fun x => x.1.isSome)
      && decide ([e].length + ([] : List Keyword).length + (if ([] : List Keyword).isEmpty then 0 else 1) < 30)) = true := by rfl)
    (hline : (apos.endLine == cpos.line) = true := by rfl) (hs : starEach [e] X.env = (false, eval e X.env) :: starEach [] X.env := by rfl) :
    PE X (.Call (.Attribute o "index" apos) [e] [] cpos) (tTupIx to t) := by
  intro pins s σ H Q I h
  refine wpAny_Call_method_late hbase hfew hline rfl (thn (ho pins s σ H _ I h) fun v s1 ⟨x, H1, I1, r1, p, ns, ex, hp, q1⟩ => ?_)
  subst ex
  obtain rfl : v = Value.ref p := r1
  obtain ⟨_, _, _, ob, g, oc, _, _, od⟩ := (show ObjOk X.prog X.w H1 s1.heap p (.tup (ns.map V.int)) from I1.hok p _ hp)
  refine ⟨"tuple", "tuple.index", F.plainAttrs_tuple, F.slot_tuple_index, F.type_tuple_index, ⟨ob, g, oc⟩, fun a ea => by cases ea; exact ⟨ob, g, od⟩, ?_⟩
  have hA := ha cpos pins s1 σ H1 _ I1 q1
  rw [hs] at hA ⊢
  refine Calls.callWith_builtin rfl (Calls.evalArgs_plain ?_)
  refine thn hA fun us s2 ⟨vs, H2, I2, r2, z, j, ev, hp2, hj, hno, q2⟩ => ?_
  subst ev
  obtain ⟨u, rfl, ru⟩ := r2.one
  obtain ⟨tz, rfl⟩ := ru
  obtain ⟨_, its, rv, ⟨cls, dd, data, sl⟩, g2, oc2, n2, od2, _⟩ := (show ObjOk X.prog X.w H2 s2.heap p (.tup (ns.map V.int)) from I2.hok p _ hp2)
  simp only at oc2 od2
  subst oc2 od2
  have hlen : its.length = ns.length := by have := rv.length; rw [List.length_map] at this; omega
  have hjl : j < its.length := by rw [hlen]; exact (List.getElem?_eq_some_iff.mp hj).1
  have ix : ∀ m (hm : m < its.length), eqU (.int z) its[m] = decide (ns[m]? = some z) := fun m hm => by
    obtain ⟨n', t', e1, e2⟩ := vals_ints_get hm rv
    rw [e1, e2]
    show (n' == z) = decide (some n' = some z)
    rw [Bool.eq_iff_iff, beq_iff_eq, decide_eq_true_iff]
    exact ⟨fun z => by rw [z], fun z => Option.some.inj z⟩
  refine call_meets F.slot_tuple_index ⟨_, g2, rfl⟩ F.entry_tuple_index (F.args_tuple_index_2 _ _) (tuple_indexAt p its.toArray n2 dd sl (.int z tz) (eqU (.int z)) j (by rw [List.size_toArray]; exact hjl) ?_ ?_) ⟨g2, ?_, ?_⟩
  · rw [List.getElem_toArray, ix j hjl]; exact decide_eq_true hj
  · intro m hm hlt
    rw [List.getElem_toArray, ix m (by simpa using hm)]
    exact decide_eq_false (hno m hlt)
  · intro y hy
    exact mem_eqAt (x := .int z) ⟨tz, rfl⟩ rfl rv (flat_ints ns) y (by simpa using hy)
  · exact ⟨.int _, H2, I2.tok _, ⟨_, rfl⟩, q2⟩
end L2
namespace L2
open PySem PySem.Spec PyProof.Rows
section
variable {κ : Type} [DecidableEq κ]
def valV (kvs : List (κ × V)) (k : κ) : Option V := (kvs.find? fun kv => decide (kv.1 = k)).map (·.2)
def putK (kvs : List (κ × V)) (k : κ) (v : V) : List (κ × V) :=
  if (kvs.any fun kv => decide (kv.1 = k)) = true then kvs.map (fun kv => if kv.1 = k then (kv.1, v) else kv) else kvs ++ [(k, v)]
theorem valV_pos {p : κ × V} {r : List (κ × V)} {k : κ} (e : p.1 = k) : valV (p :: r) k = some p.2 := by simp [valV, List.find?_cons, e]
theorem valV_neg {p : κ × V} {r : List (κ × V)} {k : κ} (e : ¬ p.1 = k) : valV (p :: r) k = valV r k := by simp [valV, List.find?_cons, e]
theorem valV_any (k : κ) : ∀ kvs : List (κ × V), (kvs.any fun kv => decide (kv.1 = k)) = (valV kvs k).isSome
  | [] => rfl
  | p :: r => by
    rw [List.any_cons]
    by_cases e : p.1 = k
    · simp only [valV_pos e, decide_eq_true e, Bool.true_or, Option.isSome_some]
    · rw [valV_neg e, decide_eq_false e, Bool.false_or]; exact valV_any k r
theorem length_putK (kvs : List (κ × V)) (k : κ) (v : V) : (putK kvs k v).length ≤ kvs.length + 1 := by
  unfold putK
  split
  · rw [List.length_map]; omega
  · rw [List.length_append, List.length_cons, List.length_nil]; omega
theorem putK_new {kvs : List (κ × V)} {k : κ} (v : V) (h : valV kvs k = none) : putK kvs k v = kvs ++ [(k, v)] := by
  unfold putK
  rw [valV_any, h]
  exact if_neg (by decide)
theorem RelO.isSome_eq {o : Option V} {u : Option Value} (r : RelO o u) : o.isSome = u.isSome := by
  cases o with
  | none => cases u with
    | none => rfl
    | some _ => exact (show False from r).elim
  | some _ => cases u with
    | none => exact (show False from r).elim
    | some _ => rfl
theorem KV.val {kvs : List (κ × V)} {vs : List (κ × Value)} (r : KV kvs vs) (k : κ) : RelO (valV kvs k) (valueAt vs k) := by
  unfold KV at r
  induction r with
  | nil => exact True.intro
  | @cons p q ps qs h t ih =>
    obtain ⟨h1, h2⟩ := h
    by_cases e : p.1 = k
    · have e' : q.1 = k := h1.symm.trans e
      have b : valueAt (q :: qs) k = some q.2 := by simp [valueAt, List.find?_cons, e']
      rw [valV_pos e, b]; exact h2
    · have e' : ¬ q.1 = k := fun z => e (h1.trans z)
      have b : valueAt (q :: qs) k = valueAt qs k := by simp [valueAt, List.find?_cons, e']
      rw [valV_neg e, b]; exact ih
theorem KV.any {kvs : List (κ × V)} {vs : List (κ × Value)} (r : KV kvs vs) (k : κ) : (kvs.any fun kv => decide (kv.1 = k)) = vs.any fun kv => decide (kv.1 = k) := by
  unfold KV at r
  induction r with
  | nil => rfl
  | cons h t ih => rw [List.any_cons, List.any_cons, ih, h.1]
theorem KV.repl {kvs : List (κ × V)} {vs : List (κ × Value)} (r : KV kvs vs) (k : κ) {y : V} {u : Value} (ry : RelV y u) :
    KV (kvs.map fun kv => if kv.1 = k then (kv.1, y) else kv) (vs.map fun kv => if kv.1 = k then (kv.1, u) else kv) := by
  unfold KV at r ⊢
  induction r with
  | nil => exact .nil
  | @cons p q ps qs h t ih =>
    rw [List.map_cons, List.map_cons]
    refine .cons ?_ ih
    obtain ⟨h1, h2⟩ := h
    by_cases e : p.1 = k
    · rw [if_pos e, if_pos (h1.symm.trans e)]; exact ⟨h1, ry⟩
    · rw [if_neg e, if_neg (fun z => e (h1.trans z))]; exact ⟨h1, h2⟩
theorem KV.put {kvs : List (κ × V)} {vs : List (κ × Value)} (r : KV kvs vs) (k : κ) {y : V} {u : Value} (ry : RelV y u) : KV (putK kvs k y) (stored vs k u) := by
  unfold putK stored
  rw [r.any k]
  by_cases e : (vs.any fun kv => decide (kv.1 = k)) = true
  · rw [if_pos e, if_pos e]; exact r.repl k ry
  · rw [if_neg e, if_neg e]; exact Paired.snoc r ⟨rfl, ry⟩
theorem KV.keys {kvs : List (κ × V)} {vs : List (κ × Value)} (r : KV kvs vs) : kvs.map (·.1) = vs.map (·.1) := by
  unfold KV at r
  induction r with
  | nil => rfl
  | cons h t ih => rw [List.map_cons, List.map_cons, ih, h.1]
theorem KV.length {kvs : List (κ × V)} {vs : List (κ × Value)} (r : KV kvs vs) : kvs.length = vs.length := Paired.length r
end
theorem kV_is {P : Program} {w : World} {k : Key} {u : Value} (r : RelV (kV k) u) : (mixKind P w).is k u = true := by
  cases k with
  | inl i => obtain ⟨t, e⟩ := (show ∃ t, u = Value.int i t from r); subst e; exact mixKind_int P w i t
  | inr x => obtain ⟨t, e⟩ := (show ∃ t, u = Value.str x t from r); subst e; exact mixKind_str P w x t
theorem items_are {P : Program} {w : World} : ∀ {ks : List Key} {us : List Value}, Vals (ks.map kV) us → ItemsAre (mixKind P w) ks us
  | [], _, r => by rw [List.map_nil] at r; cases r; exact .nil
  | k :: ks, _, r => by
    rw [List.map_cons] at r
    cases r with
    | cons h t => exact .cons (kV_is h) (items_are t)
abbrev KT (H : Hp) : List (List Key × V) → List (List Key × Addr × Value) → Prop := Paired fun p q => p.1 = q.1 ∧ H q.2.1 = some (.tup (p.1.map kV)) ∧ RelV p.2 q.2.2
theorem KT.val {H : Hp} {kvs : List (List Key × V)} {xs : List (List Key × Addr × Value)} (r : KT H kvs xs) (k : List Key) : RelO (valV kvs k) ((atKey xs k).map (·.2)) := by
  induction r with
  | nil => exact True.intro
  | @cons p q ps qs h t ih =>
    obtain ⟨h1, _, h2⟩ := h
    by_cases e : p.1 = k
    · have e' : q.1 = k := h1.symm.trans e
      have b : atKey (q :: qs) k = some q.2 := by simp [atKey, List.find?_cons, e']
      rw [valV_pos e, b]; exact h2
    · have e' : ¬ q.1 = k := fun z => e (h1.trans z)
      have b : atKey (q :: qs) k = atKey qs k := by simp [atKey, List.find?_cons, e']
      rw [valV_neg e, b]; exact ih
theorem KT.repl {H : Hp} {kvs : List (List Key × V)} {xs : List (List Key × Addr × Value)} (r : KT H kvs xs) (k : List Key) {y : V} {u : Value} (ry : RelV y u) :
    KT H (kvs.map fun kv => if kv.1 = k then (kv.1, y) else kv) (xs.map (putAt k u)) := by
  induction r with
  | nil => exact .nil
  | @cons p q ps qs h t ih =>
    rw [List.map_cons, List.map_cons]
    refine .cons ?_ ih
    obtain ⟨h1, h2, h3⟩ := h
    unfold putAt
    by_cases e : p.1 = k
    · rw [if_pos e, if_pos (h1.symm.trans e)]; exact ⟨h1, h2, ry⟩
    · rw [if_neg e, if_neg (fun z => e (h1.trans z))]; exact ⟨h1, h2, h3⟩
theorem KT.put {H : Hp} {kvs : List (List Key × V)} {xs : List (List Key × Addr × Value)} (r : KT H kvs xs) (k : List Key) {b : Addr} {y : V} {u : Value} (hb : H b = some (.tup (k.map kV))) (ry : RelV y u) :
    KT H (putK kvs k y) (storedH xs k b u) := by
  have e : (kvs.any fun kv => decide (kv.1 = k)) = (atKey xs k).isSome := by
    rw [valV_any, (r.val k).isSome_eq, Option.isSome_map]
  unfold putK storedH
  rw [e]
  by_cases q : (atKey xs k).isSome = true
  · rw [if_pos q, if_pos q]; exact r.repl k ry
  · rw [if_neg q, if_neg q]; exact Paired.snoc r ⟨rfl, hb, ry⟩
theorem KT.keeps {H H' : Hp} {kvs : List (List Key × V)} {xs : List (List Key × Addr × Value)} (r : KT H kvs xs) (ht : ∀ b ys, H b = some (.tup ys) → H' b = some (.tup ys)) : KT H' kvs xs :=
  Paired.mapP r fun _ _ z => ⟨z.1, ht _ _ z.2.1, z.2.2⟩
section
variable {P : Program} {w : World} {H : Hp} {h : Heap} {a : Addr}
theorem rd_of {u : HO} (ok : HOk P w H h) (e : Rd H a u) : ObjOk P w H h a u := e.ok ok
theorem dk_rd {kvs : List (Key × V)} (ok : HOk P w H h) (e : Rd H a (.dK kvs)) : kvs.length ≤ sizeLine ∧ (a == sysModules) = false ∧ ∃ vs, KV kvs vs ∧ h.DictOf (mixKind P w) a vs :=
  show ObjOk P w H h a (.dK kvs) from rd_of ok e
theorem dk_of {kvs : List (Key × V)} (ok : HOk P w H h) (e : H a = some (.dK kvs)) : kvs.length ≤ sizeLine ∧ (a == sysModules) = false ∧ ∃ vs, KV kvs vs ∧ h.DictOf (mixKind P w) a vs := dk_rd ok (.inl e)
theorem key_of {ks : List Key} (ok : HOk P w H h) (e : H a = some (.tup (ks.map kV))) : (tupleKind (mixKind P w)).is h ks a := by
  obtain ⟨_, its, r, o, h1, h2, n, h3, _⟩ := (show ObjOk P w H h a (.tup (ks.map kV)) from ok a _ e)
  exact ⟨o, its.toArray, n, h1, h2, h3, by simpa using items_are r⟩
theorem dt_rd {kvs : List (List Key × V)} (ok : HOk P w H h) (e : Rd H a (.dT kvs)) : kvs.length ≤ sizeLine ∧ (a == sysModules) = false ∧
    ∃ xs, KT H kvs xs ∧ h.DictOfH (tupleKind (mixKind P w)) a xs := by
  obtain ⟨z, y, xs, r, o, es, ep, h1, h2, h3, h4, h5⟩ := (show ObjOk P w H h a (.dT kvs) from rd_of ok e)
  refine ⟨z, y, xs, r, o, es, ep, h1, h2, h3, h4, fun x hx => ?_, h5⟩
  have all : ∀ {l : List (List Key × V)} {m : List (List Key × Addr × Value)}, KT H l m → ∀ x ∈ m, (tupleKind (mixKind P w)).is h x.1 x.2.1 := by
    intro l m q
    induction q with
    | nil => intro x hx; exact nomatch hx
    | @cons p q ps qs hq t ih =>
      intro x hx
      rcases List.mem_cons.mp hx with e | hx
      · subst e
        exact key_of ok (by rw [← hq.1]; exact hq.2.1)
      · exact ih x hx
  exact all r x hx
theorem dt_of {kvs : List (List Key × V)} (ok : HOk P w H h) (e : H a = some (.dT kvs)) : kvs.length ≤ sizeLine ∧ (a == sysModules) = false ∧
    ∃ xs, KT H kvs xs ∧ h.DictOfH (tupleKind (mixKind P w)) a xs := dt_rd ok (.inl e)
end
def DGet (H : Hp) (a : Addr) (y : V) (r : Option V) : Prop :=
  (∃ kvs k, Rd H a (.dK kvs) ∧ y = kV k ∧ r = valV kvs k) ∨ ∃ kvs k b, Rd H a (.dT kvs) ∧ y = .ref b ∧ H b = some (.tup (k.map kV)) ∧ r = valV kvs k
def DPut (H : Hp) (a : Addr) (y v : V) (H' : Hp) : Prop :=
  (∃ kvs k, H a = some (.dK kvs) ∧ y = kV k ∧ kvs.length < sizeLine ∧ H' = upd H a (.dK (putK kvs k v))) ∨
  ∃ kvs k b, H a = some (.dT kvs) ∧ y = .ref b ∧ H b = some (.tup (k.map kV)) ∧ kvs.length < sizeLine ∧ H' = upd H a (.dT (putK kvs k v))
theorem DPut.k {H : Hp} {a : Addr} {kvs : List (Key × V)} {k : Key} {v : V} (e : H a = some (.dK kvs)) (hl : kvs.length < sizeLine) : DPut H a (kV k) v (upd H a (.dK (putK kvs k v))) := .inl ⟨kvs, k, e, rfl, hl, rfl⟩
section
variable {X : Cx} {pins : List (Addr × Obj)} {σ : St} {H : Hp} {s : Shared} {a : Addr} {y v : V} {u r : Value} {o : Option V} {A : Around} {E : Value → Shared → Prop}
theorem Inv.big (I : Inv X pins σ H s) : sysModules < s.heap.objs.size := by
  have h : mainGlobals < s.heap.objs.size := (I.mod.glob.keeps I.bk).lt
  exact Nat.lt_trans (by decide) h
theorem d_getItem {Q : Value → Shared → Prop} (hu : A.units + 1 < cLine) (I : Inv X pins σ H s) (g : DGet H a y (some v)) (ry : RelV y u) (h : ∀ w' s', Inv X pins σ H s' → RelV v w' → Q w' s') :
    wpAny (model X.prog X.w) A (getItem (.ref a) u) Q E s := by
  rcases g with ⟨kvs, k, e, ey, l⟩ | ⟨kvs, k, b, e, ey, eb, l⟩
  · subst ey
    obtain ⟨z, hd, vs, rel, dd⟩ := dk_rd I.hok e
    obtain ⟨w', hw, rw'⟩ := RelO.some_of (v := v) (o := valueAt vs k) (by rw [l]; exact rel.val k)
    exact wpAny_getItem_of (kV_is ry) dd.mapOf hw (h w' _ (I.tok _) rw')
  · subst ey
    cases (show u = Value.ref b from ry)
    obtain ⟨z, hd, xs, rel, dd⟩ := dt_rd I.hok e
    obtain ⟨w', hw, rw'⟩ := RelO.some_of (v := v) (o := (atKey xs k).map (·.2)) (by rw [l]; exact rel.val k)
    obtain ⟨p, hp, hp2⟩ := Option.map_eq_some_iff.mp hw
    refine wpAny_getItem_heap (tupleKind_room_in1 hu) (key_of I.hok eb) dd hp ?_
    rw [hp2]
    exact h w' _ (I.tok _) rw'
theorem d_notIn {Q : Value → Shared → Prop} (hu : A.units + 1 < cLine) (I : Inv X pins σ H s) (g : DGet H a y o) (ry : RelV y u) (h : ∀ s', Inv X pins σ H s' → Q (.bool (!o.isSome)) s') :
    wpAny (model X.prog X.w) A (compareOp .NotIn u (.ref a)) Q E s := by
  rcases g with ⟨kvs, k, e, ey, l⟩ | ⟨kvs, k, b, e, ey, eb, l⟩
  · subst ey
    obtain ⟨z, hd, vs, rel, dd⟩ := dk_rd I.hok e
    refine wpAny_notIn_of (kV_is ry) hd dd.mapOf ?_
    rw [← (rel.val k).isSome_eq, ← l]
    exact h _ (I.tok _)
  · subst ey
    cases (show u = Value.ref b from ry)
    obtain ⟨z, hd, xs, rel, dd⟩ := dt_rd I.hok e
    refine wpAny_notIn_heap (tupleKind_room_in1 hu) (key_of I.hok eb) hd dd ?_
    have q := (rel.val k).isSome_eq
    rw [Option.isSome_map] at q
    rw [← q, ← l]
    exact h _ (I.tok _)
theorem d_write {h' : Heap} {t' : Nat} {ob : HO} (I : Inv X pins σ H s) (mu : Mut (H a)) (hs : Heap.SameBut a s.heap h') (he : ∃ q, h'.get? a = some q) (new : ObjOk X.prog X.w (upd H a ob) h' a ob) :
    Inv X pins σ (upd H a ob) { s with heap := h', toks := t' } :=
  I.write (x := a) (e := a) mu (.inl rfl) (fun b q hb z => (hs.2 b hb).trans z) he new
theorem dk_new {P : Program} {w : World} {H' : Hp} {h' : Heap} {kvs : List (Key × V)} {vs : List (Key × Value)} (z : kvs.length ≤ sizeLine) (hd : (a == sysModules) = false) (rel : KV kvs vs) (dd : h'.DictOf (mixKind P w) a vs) :
    ObjOk P w H' h' a (.dK kvs) := ⟨z, hd, vs, rel, dd⟩
theorem d_setItem {H' : Hp} {Q : Unit → Shared → Prop} (hu : A.units + 1 < cLine) (I : Inv X pins σ H s) (g : DPut H a y v H') (ry : RelV y u) (rv : RelV v r) (h : ∀ s', Inv X pins σ H' s' → Q () s') :
    wpAny (model X.prog X.w) A (setItem (.ref a) u r) Q E s := by
  rcases g with ⟨kvs, k, e, ey, l, eH⟩ | ⟨kvs, k, b, e, ey, eb, l, eH⟩
  · subst ey eH
    obtain ⟨z, hd, vs, rel, dd⟩ := dk_of I.hok e
    have hz : vs.length ≤ sizeLine := by rw [← rel.length]; exact z
    have hl : (putK kvs k v).length ≤ sizeLine := by have := length_putK kvs k v; omega
    refine wpAny_setItem_pairs (hsz := hz) (kV_is ry) dd fun h' dd' hs => h _ ?_
    have he : ∃ q, h'.get? a = some q := let ⟨q, _, _, hq, _⟩ := dd'; ⟨q, hq⟩
    exact d_write I (by rw [e]; exact True.intro) hs he (dk_new hl hd (rel.put k rv) dd')
  · subst ey eH
    cases (show u = Value.ref b from ry)
    obtain ⟨z, hd, xs, rel, dd⟩ := dt_of I.hok e
    have hz : xs.length ≤ sizeLine := by rw [← Paired.length rel]; exact z
    have hl : (putK kvs k v).length ≤ sizeLine := by have := length_putK kvs k v; omega
    refine wpAny_setItem_heap (hsz := hz) (tupleKind_room_in1 hu) (key_of I.hok eb) dd fun h' dd' hs => h _ ?_
    obtain ⟨q, es, ep, hq, h2, h3, h4, _, h5⟩ := dd'
    refine d_write I (by rw [e]; exact True.intro) hs ⟨q, hq⟩ ⟨hl, hd, _, (rel.put k eb rv).keeps fun c ys ec => ?_, q, es, ep, hq, h2, h3, h4, h5⟩
    rw [upd_ne (ne_of ec e (fun z => nomatch z))]
    exact ec
end
section
variable {X : Cx} {pins : List (Addr × Obj)} {σ : St} {H : Hp} {s : Shared} {a : Addr} {kvs : List (Key × V)} {k : Key} {u : Value} {A : Around} {E : Value → Shared → Prop}
theorem d_len {Q : Value → Shared → Prop} (I : Inv X pins σ H s) (e : Rd H a (.dK kvs)) (h : ∀ t s', Inv X pins σ H s' → Q (.int kvs.length t) s') : wpAny (model X.prog X.w) A (call (.builtin "len") [.ref a]) Q E s := by
  obtain ⟨z, hd, vs, rel, dd⟩ := dk_rd I.hok e
  refine call_len_dict hd dd (by rw [← rel.length]; rw [sizeLine_eq] at z; omega) ?_
  rw [← rel.length]
  exact h _ _ (I.tok _)
end
def NoSl (i : Expr) : Prop := ∀ ov iv, subscripted i false ov iv = operate [ov, iv] (getItem ov iv)
theorem subD_of {prog : Program} {w : World} {A : Around} {E : Value → Shared → Prop} {s : Shared} {env : Env} {value slice : Expr} {pos : Pos} {T id : String} {Q : Value → Shared → Prop}
    (hl : typeLookup (.type T) "__getitem__" = pure (some (.builtin id))) (hs : NoSl slice)
    (h : wpAny (model prog w) A (eval value env) (fun o s₁ => wpAny (model prog w) A (eval slice env) (fun i s₂ => s₂.TypeIs o T ∧ wpAny (model prog w) A (getItem o i) Q E s₂) E s₁) E s) :
    wpAny (model prog w) A (eval (.Subscript value slice pos) env) Q E s := by
  refine Subscript_ (wpAny_mono h (fun o s₁ h₁ => wpAny_mono h₁ (fun i s₂ h₂ => ?_) fun _ _ x => x) fun _ _ x => x)
  obtain ⟨hT, h₂⟩ := h₂
  unfold subscriptTail
  refine wpAny_bind ?_
  rw [getitemInPython_of_ne hT.not_modules]
  refine wpAny_bind (wpAny_specialOf hT hl ?_)
  have fin : wpAny (model prog w) A (subscripted slice false o i) (fun r s₃ => wpAny (model prog w) A (letTemporaryGo value o r >>= fun _ => pure r) Q E s₃) E s₂ := by
    rw [hs o i]
    exact wpAny_operating (wpAny_mono h₂ (fun r s₃ h₃ => wpAny_bind (wpAny_letTemporaryGo (wpAny_pure h₃))) fun _ _ x => x)
  first
    | exact wpAny_pure (wpAny_bind fin)
    | exact wpAny_bind (wpAny_pure (wpAny_bind fin))
    | exact wpAny_bind fin
theorem dict_typeIs {X : Cx} {pins : List (Addr × Obj)} {σ : St} {H : Hp} {s : Shared} {a : Addr} {y : V} {o : Option V} (I : Inv X pins σ H s) (g : DGet H a y o) : s.TypeIs (.ref a) "dict" := by
  rcases g with ⟨kvs, k, e, _, _⟩ | ⟨kvs, k, b, e, _, _, _⟩
  · obtain ⟨_, _, vs, _, dd⟩ := dk_rd I.hok e
    exact dd.typeIs
  · obtain ⟨_, _, xs, _, dd⟩ := dt_rd I.hok e
    exact dd.typeIs
def tDGet (td ty : TE) : TE := fun σ H Q => td σ H fun x H1 => ty σ H1 fun y H2 => ∃ a v, x = .ref a ∧ DGet H2 a y (some v) ∧ Q v H2
def tDNotIn (ty td : TE) : TE := fun σ H Q => ty σ H fun y H1 => td σ H1 fun x H2 => ∃ a o, x = .ref a ∧ DGet H2 a y o ∧ Q (.bl (!o.isSome)) H2
section
variable {X : Cx} {o i e value : Expr} {pos pos' tpos : Pos} {td ty tv : TE}
theorem pe_dget (hu : X.A.units + 1 < cLine) (ho : PE X o td) (hi : PE X i ty) (hs : NoSl i) : PE X (.Subscript o i pos) (tDGet td ty) := by
  intro pins s σ H Q I h
  refine subD_of PySem.F.slot_dict_getitem.lookup hs (thn (ho pins s σ H _ I h) fun u s1 ⟨x, H1, I1, rx, q1⟩ => thn (hi pins s1 σ H1 _ I1 q1) fun iv s2 ⟨y, H2, I2, ry, a, v, ex, g, q2⟩ => ?_)
  subst ex
  obtain rfl : u = Value.ref a := rx
  exact ⟨dict_typeIs I2 g, d_getItem hu I2 g ry fun w' s3 I3 rw' => ⟨v, H2, I3, rw', q2⟩⟩
theorem pc_dnotin (hu : X.A.units + 1 < cLine) (hi : PE X i ty) (ho : PE X o td) : PC X .NotIn i o (tDNotIn ty td) := by
  intro pins s σ H Q I h
  refine thn (hi pins s σ H _ I h) fun iv s1 ⟨y, H1, I1, ry, q1⟩ => thn (ho pins s1 σ H1 _ I1 q1) fun u s2 ⟨x, H2, I2, rx, a, ov, ex, g, q2⟩ => ?_
  subst ex
  obtain rfl : u = Value.ref a := rx
  exact d_notIn hu I2 g ry fun s3 I3 => ⟨.bl (!ov.isSome), H2, I3, rfl, q2⟩
end
theorem dk_empty {P : Program} {w : World} {H : Hp} (h : Heap) (hb : sysModules < h.objs.size) : ObjOk P w H (h.push { cls := .type "dict", data := .dict #[] }) h.objs.size (.dK []) :=
  ⟨Nat.zero_le _, beq_eq_false_iff_ne.mpr (Ne.symm (Nat.ne_of_lt hb)), [], .nil, Heap.DictOf.new h⟩
theorem dt_empty {P : Program} {w : World} {H : Hp} (h : Heap) (hb : sysModules < h.objs.size) : ObjOk P w H (h.push { cls := .type "dict", data := .dict #[] }) h.objs.size (.dT []) :=
  ⟨Nat.zero_le _, beq_eq_false_iff_ne.mpr (Ne.symm (Nat.ne_of_lt hb)), [], .nil, _, #[], 0, Heap.get?_push_size _ rfl, ⟨rfl, rfl, rfl⟩, rfl, rfl, List.nodup_nil⟩
def tDNewK : TE := fun _ H Q => ∀ p, H p = none → Q (.ref p) (upd H p (.dK []))
def tDNewT : TE := fun _ H Q => ∀ p, H p = none → Q (.ref p) (upd H p (.dT []))
section
variable {X : Cx} {pos : Pos}
theorem pe_dnewK : PE X (.Dict [] [] pos) tDNewK := fun pins s σ H Q I h =>
  wpAny_Dict_empty ⟨.ref s.heap.objs.size, _, I.laid (a := s.heap.objs.size) (o := .dK []) (t' := s.toks) (fun _ _ q => Heap.get?_push_of_some _ q) (Nat.le_refl _) (dk_empty s.heap I.big), rfl, h _ (I.hok.fresh (Nat.le_refl _))⟩
theorem pe_dnewT : PE X (.Dict [] [] pos) tDNewT := fun pins s σ H Q I h =>
  wpAny_Dict_empty ⟨.ref s.heap.objs.size, _, I.laid (a := s.heap.objs.size) (o := .dT []) (t' := s.toks) (fun _ _ q => Heap.get?_push_of_some _ q) (Nat.le_refl _) (dt_empty s.heap I.big), rfl, h _ (I.hok.fresh (Nat.le_refl _))⟩
end
def tPairs : List (TE × TE) → St → Hp → (List (V × V) → Hp → Prop) → Prop
  | [], _, H, Q => Q [] H
  | (tk, tv) :: r, σ, H, Q => tk σ H fun x H1 => tv σ H1 fun y H2 => tPairs r σ H2 fun ps H3 => Q ((x, y) :: ps) H3
abbrev VV : List (V × V) → List (Value × Value) → Prop := Paired fun p q => RelV p.1 q.1 ∧ RelV p.2 q.2
def PPs (X : Cx) (pos : Pos) (keys : List (Option Expr)) (values : List Expr) (trs : List (TE × TE)) : Prop :=
  ∀ (pins : List (Addr × Obj)) (s : Shared) (σ : St) (H : Hp) (Q : List (V × V) → Hp → Prop), Inv X pins σ H s → tPairs trs σ H Q →
    wpAny (model X.prog X.w) X.A (evalPairs (pairTrees keys values X.env pos)) (fun vs s' => ∃ ps H', Inv X pins σ H' s' ∧ VV ps vs ∧ Q ps H') X.xe s
theorem pps_nil {X : Cx} {pos : Pos} : PPs X pos [] [] [] := fun pins s σ H Q I h => pairTrees_nil_walk ⟨[], H, I, .nil, h⟩
theorem pps_cons {X : Cx} {pos : Pos} {k v : Expr} {ks : List (Option Expr)} {vs : List Expr} {tk tv : TE} {trs : List (TE × TE)} (hk : PE X k tk) (hv : PE X v tv) (hr : PPs X pos ks vs trs) :
    PPs X pos (some k :: ks) (v :: vs) ((tk, tv) :: trs) := fun pins s σ H Q I h =>
  pairTrees_cons_walk (thn (hk pins s σ H _ I h) fun u s1 ⟨x, H1, I1, rx, q1⟩ => thn (hv pins s1 σ H1 _ I1 q1) fun w2 s2 ⟨y, H2, I2, ry, q2⟩ =>
    thn (hr pins s2 σ H2 _ I2 q2) fun ws s3 ⟨ps, H3, I3, rel, q3⟩ => ⟨(x, y) :: ps, H3, I3, .cons ⟨rx, ry⟩ rel, q3⟩)
def mergeK (kvs more : List (Key × V)) : List (Key × V) := more.foldl (fun acc kv => putK acc kv.1 kv.2) kvs
theorem KV.merge : ∀ {more : List (Key × V)} {rs : List (Key × Value)} {kvs : List (Key × V)} {vs : List (Key × Value)}, KV more rs → KV kvs vs → KV (mergeK kvs more) (merged vs rs) := by
  intro more rs kvs vs r
  unfold KV at r
  induction r generalizing kvs vs with
  | nil => intro q; exact q
  | @cons p q ps qs h t ih =>
    intro r0
    have e : KV (putK kvs p.1 p.2) (stored vs q.1 q.2) := by
      have := r0.put p.1 h.2
      rw [← h.1]; exact this
    exact ih e
theorem length_mergeK : ∀ (more kvs : List (Key × V)), (mergeK kvs more).length ≤ kvs.length + more.length
  | [], kvs => by show kvs.length ≤ kvs.length + 0; omega
  | p :: r, kvs => by
    have h1 := length_mergeK r (putK kvs p.1 p.2)
    have h2 := length_putK kvs p.1 p.2
    show (mergeK (putK kvs p.1 p.2) r).length ≤ _
    rw [List.length_cons]; omega
theorem carries_of {P : Program} {w : World} : ∀ {kvs : List (Key × V)} {ws : List (Value × Value)}, VV (kvs.map fun kv => (kV kv.1, kv.2)) ws → ∃ rs, Carries (mixKind P w) ws rs ∧ KV kvs rs
  | [], _, r => by rw [List.map_nil] at r; cases r; exact ⟨[], True.intro, .nil⟩
  | p :: kvs, _, r => by
    rw [List.map_cons] at r
    cases r with
    | @cons a b as bs h t =>
      obtain ⟨rs, c, q⟩ := carries_of (P := P) (w := w) t
      obtain ⟨b1, b2⟩ := b
      exact ⟨(p.1, b2) :: rs, ⟨kV_is h.1, rfl, c⟩, .cons ⟨rfl, h.2⟩ q⟩
def tDisp (trs : List (TE × TE)) : TE := fun σ H Q => ∀ p, H p = none → tPairs trs σ (upd H p (.dK [])) fun ps H2 => H2 p = some (.dK []) ∧ ∃ kvs : List (Key × V), ps = kvs.map (fun kv => (kV kv.1, kv.2)) ∧ kvs.length ≤ 15 ∧ Q (.ref p) (upd H2 p (.dK (mergeK [] kvs)))
theorem pe_disp {X : Cx} {pos : Pos} {keys : List (Option Expr)} {values : List Expr} {trs : List (TE × TE)} (h : PPs X pos keys values trs) (hall : keys.all (·.isSome) = true) (hl : keys.length = values.length) (h0 : keys ≠ [])
    (h15 : keys.length ≤ 15) : PE X (.Dict keys values pos) (tDisp trs) := by
  intro pins s σ H Q I q
  have hn := I.hok.fresh (Nat.le_refl s.heap.objs.size)
  have I1 := I.laid (a := s.heap.objs.size) (o := .dK []) (h' := s.heap.push { cls := .type "dict", data := .dict #[] }) (t' := s.toks) (fun _ _ q => Heap.get?_push_of_some _ q) (Nat.le_refl _) (dk_empty s.heap I.big)
  refine wpAny_Dict_walk (knd := mixKind X.prog X.w) hall hl h0 h15 (thn (h pins _ σ _ _ I1 (q _ hn)) fun ws s2 ⟨ps, H2, I2, rel, e, kvs, ep, lk, q2⟩ => ?_)
  subst ep
  obtain ⟨rs, c, rk⟩ := carries_of (P := X.prog) (w := X.w) rel
  obtain ⟨z, hd, vs0, r0, dd⟩ := dk_of I2.hok e
  cases r0
  refine ⟨rs, c, dd, fun h' dd' hs => ⟨.ref s.heap.objs.size, _, ?_, rfl, q2⟩⟩
  have hz : (mergeK [] kvs).length ≤ sizeLine := by
    have h1 := length_mergeK kvs []
    rw [List.length_nil] at h1
    rw [sizeLine_eq]; omega
  have he : ∃ q, h'.get? s.heap.objs.size = some q := let ⟨q, _, _, hq, _⟩ := dd'; ⟨q, hq⟩
  exact d_write I2 (by rw [e]; exact True.intro) hs he (dk_new hz hd (rk.merge .nil) dd')
section
variable {X : Cx} {pins : List (Addr × Obj)} {σ : St} {H : Hp} {s : Shared} {a : Addr} {y d : V} {u r : Value} {o : Option V} {A : Around} {E : Value → Shared → Prop}
end
section
variable {X : Cx} {o e f : Expr} {apos cpos : Pos} {td ty tx : TE}
end
section
variable {X : Cx} {pins : List (Addr × Obj)} {σ : St} {H : Hp} {s : Shared} {a : Addr} {kvs : List (Key × V)} {A : Around} {E : Value → Shared → Prop}
end
section
variable {X : Cx} {pins : List (Addr × Obj)} {σ : St} {H : Hp} {s : Shared} {a : Addr} {y : V} {u : Value} {A : Around} {E : Value → Shared → Prop}
end
end L2
namespace L2
open PySem PySem.Spec PyProof.Rows
def HasMk (P : Program) (w : World) (K : PySem.W.Frag) (mg : Str → Option Value) (base : Heap) (k : Nat) (x : Str) (C : Addr) (ps : List Str) (sp : Sp) : Prop :=
  ∃ f fd, Mk K C f ∧ FnOk P w K mg base CX0 k f fd ps sp ∧ Binds K fd ps [] ∧ mg x = some (.ref C)
def HasMt (P : Program) (w : World) (K : PySem.W.Frag) (mg : Str → Option Value) (base : Heap) (k : Nat) (m : Str) (C : Addr) (ps : List Str) (sp : Sp) : Prop :=
  ∃ f fd, Cls K C ∧ Meth K C m f ∧ FnOk P w K mg base CX0 k f fd ps sp ∧ Binds K fd ps []
def HasMtX (P : Program) (w : World) (K : PySem.W.Frag) (mg : Str → Option Value) (base : Heap) (k : Nat) (m : Str) (C : Addr) (ps : List Str) (sp : Sp) : Prop :=
  ∃ f fd, Cls K C ∧ Meth K C m f ∧ FnOk P w K mg base (CXe P w) k f fd ps sp ∧ Binds K fd ps []
section
variable {X : Cx} {k j : Nat} {x m : Str} {C : Addr} {ps : List Str} {sp : Sp} {p pos apos : Pos} {o e : Expr} {es : List Expr} {t : TA} {ta : TE}
theorem pe_mk (h : HasMk X.prog X.w X.K X.mg X.base k x C ps sp) (hr : Room j X.A) (hj : k + 1 ≤ j) (hg : Gl X x) (ha : PA X (e :: es) t) (hdb : (x == ("__debug__" : Str)) = false := by decide)
    (he : starEach (e :: es) X.env = (false, eval e X.env) :: starEach es X.env := by rfl) (hpl : (backTo pos (starEach es X.env)).any (·.1) = false := by rfl) : PE X (.Call (.Name x p) (e :: es) [] pos) (tMake C sp [] E0 t) := by
  obtain ⟨f, fd, M, F, b, hm⟩ := h
  exact pe_make M F (hr.mono hj) hg hm b .nil pass0 ha hdb he hpl
theorem pe_mt {pl : Sem Bool} (h : HasMt X.prog X.w X.K X.mg X.base k m C ps sp) (hr : Room j X.A) (hj : k ≤ j) (ho : PE X o ta) (ha : PA X (e :: es) t)
    (hst : starEach (e :: es) X.env = (false, eval e X.env) :: starEach es X.env := by rfl) (hpl : (backTo pos (starEach es X.env)).any (·.1) = false := by rfl)
    (ht : eval (.Call (.Attribute o m apos) (e :: es) [] pos) X.env = (do
      let ov ← eval o X.env
      standAt apos.atName
      let (f, first) ← holding [ov] (getMethod ov m pl)
      callWith pos f first (backTo pos (starEach (e :: es) X.env)) (backToKw pos (keywordEach [] X.env))) := by rfl) :
    PE X (.Call (.Attribute o m apos) (e :: es) [] pos) (tMeth C m sp [] E0 ta t) := by
  obtain ⟨f, fd, c, hm, F, b⟩ := h
  exact pe_meth ho c hm F (hr.mono hj) b .nil pass0 ha hst hpl ht
end
theorem pe_fldK {X : Cx} {K : PySem.W.Frag} {e : Expr} {ta : TE} {f : Str} {pos : Pos} (h : X.K = K) (he : PE X e ta) (hb : attributeBase e f X.env (eval e X.env) = eval e X.env) : PE X (.Attribute e f pos) (tFld K ta f) := h ▸ pe_fld he hb
end L2
namespace L2
open PySem PySem.Spec PyProof.Rows
section
open PySem.AutoSeq1 (wpAny_loadPart')
end
end L2
namespace L2
open PySem PySem.Spec PyProof.Rows
theorem filter_succ (p : Nat → Bool) (n : Nat) : (List.range (n + 1)).filter p = (List.range n).filter p ++ (if p n = true then [n] else []) := by
  rw [List.range_succ, List.filter_append]
  congr 1
  cases h : p n <;> simp [h]
theorem paired_snoc {α β : Type} {F : α → β → Prop} : ∀ {xs : List α} {ys : List β} {x : α} {y : β}, Paired F xs ys → F x y → Paired F (xs ++ [x]) (ys ++ [y])
  | _, _, _, _, .nil, h => .cons h .nil
  | _, _, _, _, .cons r t, h => .cons r (paired_snoc t h)
theorem paired_len' {α β : Type} {F : α → β → Prop} : ∀ {xs : List α} {ys : List β}, Paired F xs ys → xs.length = ys.length
  | _, _, .nil => rfl
  | _, _, .cons _ t => by rw [List.length_cons, List.length_cons, paired_len' t]
theorem paired_map_eq {β : Type} {f : β → V} : ∀ {xs : List V} {ys : List β}, Paired (fun x y => x = f y) xs ys → xs = ys.map f
  | _, _, .nil => rfl
  | _, _, .cons r t => by rw [List.map_cons, ← r, ← paired_map_eq t]
theorem filter_yes (n : Nat) : (List.range n).filter (fun _ => true) = List.range n := by simp
theorem range_map_get {α β : Type} (xs : List α) (f : Nat → β) (g : α → β) (h : ∀ (i : Nat) (v : α), xs[i]? = some v → f i = g v) : (List.range xs.length).map f = xs.map g := by
  refine List.ext_getElem? fun i => ?_
  rw [List.getElem?_map, List.getElem?_map]
  by_cases hi : i < xs.length
  · rw [List.getElem?_range hi, List.getElem?_eq_getElem hi]
    exact congrArg some (h i _ (List.getElem?_eq_getElem hi))
  · rw [List.getElem?_eq_none (by rw [List.length_range]; omega), List.getElem?_eq_none (by omega)]
    rfl
def Bar (D : Addr) (H H' : Hp) : Prop := ∀ b o, H b = some o → b ≠ D → H' b = some o
theorem Bar.of {D : Addr} {H H' : Hp} (g : Same H H') : Bar D H H' := fun b o e _ => g b o e
theorem Bar.put {D : Addr} {H H' : Hp} {o : HO} (g : Bar D H H') : Bar D H (upd H' D o) := fun b u e n => by rw [upd_ne n]; exact g b u e n
def CTurn (tt : TT) (te : TE) (fv : St) (D : Addr) (H : Hp) (v : V) (b : Bool) (Pe : V → Hp → Prop) : Prop :=
  ∀ H1, Same H H1 → (∃ ys, H1 D = some (.lst ys)) → ∀ (Kt : VK) (Kf : Hp → Prop), (∀ y H3, b = true → Same H1 H3 → Pe y H3 → Kt y H3) → (∀ H3, b = false → Same H1 H3 → Kf H3) → tt (some v :: fv) H1 fun c H2 => if c = true then te (some v :: fv) H2 Kt else Kf H2
theorem comp_listF {K : PySem.W.Frag} {a : Addr} {xs : List V} {tt : TT} {te : TE} {fv : St} {D : Addr} {H : Hp} {Q : VK} (hs : SqL K H a xs) (hn : xs.length ≤ 1000) (hD : H D = none) (p : Nat → Bool) (Pe : Nat → V → Hp → Prop) (mono : ∀ i y H1 H2, Bar D H1 H2 → Pe i y H1 → Pe i y H2)
    (turn : ∀ (i : Nat) (v : V), xs[i]? = some v → CTurn tt te fv D H v (p i) (Pe i)) (fin : ∀ ys H', Same H H' → H' D = some (.lst ys) → Paired (fun y i => Pe i y H') ys ((List.range xs.length).filter p) → Q (.ref D) H') : CompW (Itl K a) tt te fv D H Q := by
  refine comp_list (xs := xs) (fun i ys H1 => i ≤ xs.length ∧ Same H H1 ∧ H1 D = some (.lst ys) ∧ Paired (fun y j => Pe j y H1) ys ((List.range i).filter p)) ⟨Nat.zero_le _, same_new hD _, upd_same, .nil⟩ (fun i ys H1 _ ⟨_, g, _, _⟩ => g.seq hs) ?_ ?_
  · rintro i v ys H1 hi ⟨_, g, h1, pr⟩
    have hil : i < xs.length := (List.getElem?_eq_some_iff.mp hi).1
    have ll := paired_len' pr
    have fl := List.length_filter_le p (List.range i)
    rw [List.length_range] at fl
    refine turn i v hi H1 g ⟨_, h1⟩ _ _ (fun y H3 pi g3 py => ⟨g3 _ _ h1, by rw [sizeLine_eq]; omega, hil, ?_, upd_same, ?_⟩) (fun H3 pi g3 => ⟨hil, g.trans g3, g3 _ _ h1, ?_⟩)
    · intro b o e
      rw [upd_ne (ne_of_none e hD)]
      exact g3 _ _ (g _ _ e)
    · rw [filter_succ, if_pos pi]
      exact paired_snoc (Paired.mapP pr fun z j q => mono _ _ _ _ (Bar.put (Bar.of g3)) q) (mono _ _ _ _ (Bar.put (Bar.of (Same.refl _))) py)
    · rw [filter_succ, if_neg (by rw [pi]; exact Bool.false_ne_true), List.append_nil]
      exact Paired.mapP pr fun z j q => mono _ _ _ _ (Bar.of g3) q
  · rintro ys H1 ⟨_, g, h1, pr⟩
    exact fin ys H1 g h1 pr
theorem comp_listV {K : PySem.W.Frag} {a : Addr} {xs : List V} {tt : TT} {te : TE} {fv : St} {D : Addr} {H : Hp} {Q : VK} (hs : SqL K H a xs) (hn : xs.length ≤ 1000) (hD : H D = none) (p : Nat → Bool) (f : Nat → V)
    (turn : ∀ (i : Nat) (v : V), xs[i]? = some v → CTurn tt te fv D H v (p i) (fun y _ => y = f i)) (fin : ∀ H', Same H H' → H' D = some (.lst (((List.range xs.length).filter p).map f)) → Q (.ref D) H') : CompW (Itl K a) tt te fv D H Q :=
  comp_listF hs hn hD p (fun i y _ => y = f i) (fun _ _ _ _ _ e => e) turn fun ys H' g h1 pr => fin H' g (by rw [← paired_map_eq pr]; exact h1)
theorem comp_listM {K : PySem.W.Frag} {a : Addr} {xs : List V} {te : TE} {fv : St} {D : Addr} {H : Hp} {Q : VK} (hs : SqL K H a xs) (hn : xs.length ≤ 1000) (hD : H D = none) (f : V → V)
    (turn : ∀ (i : Nat) (v : V), xs[i]? = some v → ∀ H1, Same H H1 → ∀ Kt : VK, (∀ H3, Same H1 H3 → Kt (f v) H3) → te (some v :: fv) H1 Kt) (fin : ∀ H', Same H H' → H' D = some (.lst (xs.map f)) → Q (.ref D) H') : CompW (Itl K a) tYes te fv D H Q := by
  refine comp_listV hs hn hD (fun _ => true) (fun i => f (xs.getD i .non)) (fun i v hi H1 g _ Kt Kf kt _ => yesT (iteT ?_)) fun H' g h1 => fin H' g ?_
  · have e : xs.getD i .non = v := by rw [List.getD_eq_getElem?_getD, hi]; rfl
    refine turn i v hi H1 g Kt fun H3 g3 => kt (f v) H3 rfl g3 ?_
    show f v = f (xs.getD i .non)
    rw [e]
  · rw [h1, filter_yes, range_map_get xs (fun i => f (xs.getD i .non)) f fun i v hi => by rw [List.getD_eq_getElem?_getD, hi]; rfl]
end L2
namespace L2
open PySem PySem.Spec PyProof.Rows
abbrev Nw (H : Hp) (o : HO) (Q : VK) : Prop := ∀ (p : Addr) (H' : Hp), H p = none → Same H H' → H' p = some o → Q (.ref p) H'
theorem Nw.at {H : Hp} {o : HO} {Q : VK} (h : Nw H o Q) : ∀ p, H p = none → Q (.ref p) (upd H p o) := fun p np => h p _ np (same_new np o) upd_same
def tTupN (t : TA) : TE := fun σ H Q => t σ H fun xs H1 => xs.length ≤ sizeLine ∧ Nw H1 (.tup xs) Q
def tLstN (t : TA) : TE := fun σ H Q => t σ H fun xs H1 => xs.length ≤ sizeLine ∧ Nw H1 (.lst xs) Q
section
variable {X : Cx} {es : List Expr} {t : TA} {pos : Pos} {K : PySem.W.Frag}
theorem pe_tupN {x1} (h : PA X es t) : PE X (.Tuple es x1 pos) (tTupN t) := by
  intro pins s σ H Q I hq
  refine wpAny_Tuple_spliced (thn (h pos pins s σ H _ I hq) fun us s1 ⟨xs, H1, I1, r, z, q⟩ => ⟨by rw [← r.length]; exact z, ?_⟩)
  have hf : H1 s1.heap.objs.size = none := I1.hok.fresh (Nat.le_refl _)
  refine ⟨.ref s1.heap.objs.size, upd H1 s1.heap.objs.size (.tup xs), I1.laid (t' := s1.toks) (fun b u e => Heap.get?_push_of_some _ e) (Nat.le_refl _) ?_, rfl, q.at _ hf⟩
  exact ⟨z, us, r, ⟨_, Heap.get?_push_size _ rfl, rfl, _, rfl, rfl⟩⟩
theorem pe_lstN (h : PA X es t) : PE X (.List es pos) (tLstN t) := by
  intro pins s σ H Q I hq
  refine wpAny_List_spliced (thn (h pos pins s σ H _ I hq) fun us s1 ⟨xs, H1, I1, r, z, q⟩ => ⟨by rw [← r.length]; exact z, ?_⟩)
  have hf : H1 s1.heap.objs.size = none := I1.hok.fresh (Nat.le_refl _)
  refine ⟨.ref s1.heap.objs.size, upd H1 s1.heap.objs.size (.lst xs), I1.laid (t' := s1.toks) (fun b u e => Heap.get?_push_of_some _ e) (Nat.le_refl _) ?_, rfl, q.at _ hf⟩
  exact ⟨z, us, 0, r, Heap.get?_push_size _ rfl⟩
theorem OpR.mono {f : Value → Value → Sem Value} {r r' : R2} (h : OpR X f r) (m : ∀ x y H Q, r' x y H Q → r x y H Q) : OpR X f r' := fun pins s σ H x y v u Q I rx ry q => h pins s σ H x y v u Q I rx ry (m x y H Q q)
theorem SlR.mono {r r' : V → Option Int → Option Int → Hp → VK → Prop} (h : SlR X r) (m : ∀ x lo hi H Q, r' x lo hi H Q → r x lo hi H Q) : SlR X r' := fun pins s σ H x v vl vu lo hi sl Q I rx hs pl pu q => h pins s σ H x v vl vu lo hi sl Q I rx hs pl pu (m x lo hi H Q q)
def rSlLN (K : PySem.W.Frag) : V → Option Int → Option Int → Hp → VK → Prop := fun x lo hi H Q => ∃ a xs, x = .ref a ∧ SqL K H a xs ∧ Nw H (.lst (cutV xs lo hi)) Q
theorem sl_listN (h : X.K = K) : SlR X (rSlLN K) := h ▸ sl_list.mono fun _ _ _ _ _ ⟨a, xs, e, s, q⟩ => ⟨a, xs, e, s, q.at⟩
def rCatN : R2 := fun x y H Q => ∃ l b xs zs, x = .ref l ∧ y = .ref b ∧ H l = some (.lst xs) ∧ H b = some (.lst zs) ∧ xs.length + zs.length ≤ sizeLine ∧ Nw H (.lst (xs ++ zs)) Q
theorem op_catN : OpR X (binaryOp .Add) rCatN := op_cat.mono fun _ _ _ _ ⟨l, b, xs, zs, e1, e2, h1, h2, z, q⟩ => ⟨l, b, xs, zs, e1, e2, h1, h2, z, q.at⟩
def tDNewKN : TE := fun _ H Q => Nw H (.dK []) Q
theorem pe_dnewKN : PE X (.Dict [] [] pos) tDNewKN := fun pins s σ H Q I q => pe_dnewK pins s σ H Q I q.at
def tDNewTN : TE := fun _ H Q => Nw H (.dT []) Q
theorem pe_dnewTN : PE X (.Dict [] [] pos) tDNewTN := fun pins s σ H Q I q => pe_dnewT pins s σ H Q I q.at
end
abbrev Ch (H : Hp) (a : Addr) (o : HO) (R : Hp → Prop) : Prop := ∀ H', Bar a H H' → H' a = some o → R H'
theorem Ch.at {H : Hp} {a : Addr} {o : HO} {R : Hp → Prop} (h : Ch H a o R) : R (upd H a o) := h _ (Bar.put (Bar.of (Same.refl _))) upd_same
section
variable {X : Cx}
theorem MtM.mono {id : String} {r r' : V → List V → Hp → VK → Prop} (h : MtM X id r) (m : ∀ x xs H Q, r' x xs H Q → r x xs H Q) : MtM X id r' := fun pins s σ H x xs v us Q I rx rv q => h pins s σ H x xs v us Q I rx rv (m x xs H Q q)
def rAppendN : V → List V → Hp → VK → Prop := fun x vs H Q => ∃ l xs y, x = .ref l ∧ vs = [y] ∧ H l = some (.lst xs) ∧ xs.length < sizeLine ∧ Ch H l (.lst (xs ++ [y])) (Q .non)
theorem mt_appendN : MtM X "list.append" rAppendN := mt_append.mono fun _ _ _ _ ⟨l, xs, y, e1, e2, h, z, q⟩ => ⟨l, xs, y, e1, e2, h, z, q.at⟩
def rClearN : V → List V → Hp → VK → Prop := fun x vs H Q => ∃ l xs, x = .ref l ∧ vs = [] ∧ H l = some (.lst xs) ∧ Ch H l (.lst []) (Q .non)
theorem mt_clearN : MtM X "list.clear" rClearN := mt_clear.mono fun _ _ _ _ ⟨l, xs, e1, e2, h, q⟩ => ⟨l, xs, e1, e2, h, q.at⟩
variable {o i value : Expr} {td ty tv ta : TE} {pos pos' : Pos} {f : Str}
def sDPutN (td ty tv : TE) : TS := fun D σ H => tv σ H fun v H1 => td σ H1 fun x H2 => ty σ H2 fun y H3 => ∃ a kvs k, x = .ref a ∧ H3 a = some (.dK kvs) ∧ y = kV k ∧ kvs.length < sizeLine ∧ Ch H3 a (.dK (putK kvs k v)) (D.nx σ)
theorem ps_dputN (hu : X.A.units + 1 < cLine) (ho : PE X o td) (hi : PE X i ty) (hv : PE X value tv) (hs : swapsWith value (some (.Subscript o i pos')) pos.line X.env = pure false := by rfl) :
    PS X (.Assign [.Subscript o i pos'] value pos) (sDPutN td ty tv) := by
  intro pins s σ H D I h
  refine wpAny_Assign_Subscript (thn (hv pins s σ H _ I h) fun r s1 ⟨v, H1, I1, rv, q1⟩ => thn (ho pins s1 σ H1 _ I1 q1) fun u s2 ⟨x, H2, I2, rx, q2⟩ => thn (hi pins s2 σ H2 _ I2 q2) fun iv s3 ⟨y, H3, I3, ry, a, kvs, k, ex, ha, ey, l, q3⟩ => ?_) hs
  subst ex
  subst ey
  obtain rfl : u = Value.ref a := rx
  exact d_setItem hu I3 (DPut.k ha l) ry rv fun s4 I4 => ⟨σ, _, I4, q3.at⟩
def sFldN (K : PySem.W.Frag) (ta tv : TE) (f : Str) : TS := fun D σ H => tv σ H fun y H1 => ta σ H1 fun x H2 => ∃ a C dx fs, x = .ref a ∧ H2 a = some (.ins C dx fs) ∧ Cls K C ∧ NoAttr K C f ∧ fs.length < 1000 ∧ Ch H2 a (.ins C dx (putF f y fs)) (D.nx σ)
theorem ps_fldN {K : PySem.W.Frag} (hK : X.K = K) (ha : PE X o ta) (hv : PE X value tv) (hs : swapsWith value (some (.Attribute o f pos')) pos.line X.env = pure false := by rfl) : PS X (.Assign [.Attribute o f pos'] value pos) (sFldN K ta tv f) := by
  subst hK
  intro pins s σ H D I h
  refine plainObj_wpAny_Assign_Attribute (thn (hv pins s σ H _ I h) fun u s1 ⟨y, H1, I1, ry, q⟩ => thn (ha pins s1 σ H1 _ I1 q) fun ov s2 ⟨x, H2, I2, rx, a, C, dx, fs, ex, ea, c, n, l, q2⟩ => ?_) hs
  subst ex
  obtain rfl : ov = Value.ref a := rx
  exact setattr_ok I2 ea c n l ry fun s3 I3 => ⟨σ, _, I3, q2.at⟩
end
end L2
namespace L2
open PySem PySem.Spec PyProof.Rows
def Its (x : Str) : It := ⟨fun i _ => i < x.length, fun i H v H' => H' = H ∧ ∃ c, x.cps[i]? = some c ∧ v = .str ⟨#[c]⟩, fun i _ => x.length ≤ i⟩
theorem turn_str_ascii {P : Program} {w : World} {K : PySem.W.Frag} {tg : Expr} (it : Addr) (x : Str) (t : Tok) : Turn P w K tg (Its x) [it] it (fun i h => h.IsStrIter it "str_ascii_iterator" x t i) where
  mem := by simp
  obj := fun i h st b hb => by
    have e : b = it := by simpa using hb
    subst e
    obtain ⟨o, e, c, d⟩ := st
    exact ⟨o, e, fun v z => by rw [d] at z; cases z⟩
  keep := fun i h h' st k => let ⟨o, e, r⟩ := st; ⟨o, k it (by simp) o e, r⟩
  item := by
    intro X hP hw hK hc i pins s σ H E I hf st hg
    subst hP hw hK
    obtain ⟨f0, f1, f2, f3, f4, f5⟩ := hf it (by simp)
    have hx : x.cps[i]? = some x.cps[i] := Array.getElem?_eq_getElem hg
    refine wpAny_pyNext_ascii_item st hx fun h' st' sb => ?_
    have I1 : Inv X pins σ H { s with heap := h', toks := s.toks + 1 } := I.turned (t' := s.toks + 1) (fun b o hb e => (sb.2 b hb).trans e) f0 f1 f3 f4 f5
    obtain ⟨o, e, c, d⟩ := id st'
    exact ⟨_, rfl, go_of (s := { s with heap := h', toks := s.toks + 1 }) e c d (by decide) ⟨.str ⟨#[x.cps[i]]⟩, H, I1, ⟨_, rfl⟩, ⟨rfl, _, hx, rfl⟩, st', fun b hb => (hf b hb).1⟩⟩
  done := by
    intro X hP hw hK hc i pins s σ H E I hf st hg
    subst hP hw hK
    obtain ⟨f0, f1, f2, f3, f4, f5⟩ := hf it (by simp)
    exact wpAny_pyNext_ascii_end (I.ok.hd hc) st (Array.getElem?_eq_none hg) fun h' eb => ⟨rfl, I.turned (t' := s.toks) (fun b o hb e => eb b o hb e) f0 f1 f3 f4 f5⟩
  self := fun _ _ _ _ _ st h => wpAny_pyIter_striter_ascii st h
theorem turn_str_wide {P : Program} {w : World} {K : PySem.W.Frag} {tg : Expr} (it : Addr) (x : Str) (t : Tok) : Turn P w K tg (Its x) [it] it (fun i h => h.IsStrIter it "str_iterator" x t i) where
  mem := by simp
  obj := fun i h st b hb => by
    have e : b = it := by simpa using hb
    subst e
    obtain ⟨o, e, c, d⟩ := st
    exact ⟨o, e, fun v z => by rw [d] at z; cases z⟩
  keep := fun i h h' st k => let ⟨o, e, r⟩ := st; ⟨o, k it (by simp) o e, r⟩
  item := by
    intro X hP hw hK hc i pins s σ H E I hf st hg
    subst hP hw hK
    obtain ⟨f0, f1, f2, f3, f4, f5⟩ := hf it (by simp)
    have hx : x.cps[i]? = some x.cps[i] := Array.getElem?_eq_getElem hg
    refine wpAny_pyNext_wide_item st hx fun h' st' sb => ?_
    have I1 : Inv X pins σ H { s with heap := h', toks := s.toks + 1 } := I.turned (t' := s.toks + 1) (fun b o hb e => (sb.2 b hb).trans e) f0 f1 f3 f4 f5
    obtain ⟨o, e, c, d⟩ := id st'
    exact ⟨_, rfl, go_of (s := { s with heap := h', toks := s.toks + 1 }) e c d (by decide) ⟨.str ⟨#[x.cps[i]]⟩, H, I1, ⟨_, rfl⟩, ⟨rfl, _, hx, rfl⟩, st', fun b hb => (hf b hb).1⟩⟩
  done := by
    intro X hP hw hK hc i pins s σ H E I hf st hg
    subst hP hw hK
    obtain ⟨f0, f1, f2, f3, f4, f5⟩ := hf it (by simp)
    exact wpAny_pyNext_wide_end (I.ok.hd hc) st (Array.getElem?_eq_none hg) fun h' eb => ⟨rfl, I.turned (t' := s.toks) (fun b o hb e => eb b o hb e) f0 f1 f3 f4 f5⟩
  self := fun _ _ _ _ _ st h => wpAny_pyIter_striter_wide st h
def iStr (te : TE) : TI := fun σ H R => te σ H fun v H1 => ∃ x, v = .str x ∧ R (Its x) H1
theorem pi_str {X : Cx} {tg l : Expr} {tl : TE} (hl : PE X l tl) : PI X tg l (iStr tl) := by
  intro pins s σ H R I h
  refine thn (hl pins s σ H _ I h) fun v s1 ⟨x, H1, I1, r1, q1⟩ => ?_
  obtain ⟨z, e, q⟩ := q1
  subst e
  obtain ⟨t, rfl⟩ := r1
  have fin : ∀ b ∈ [s1.heap.objs.size], FpOk X pins H1 b := fun b hb => by
    have e : b = s1.heap.objs.size := by simpa using hb
    subst e
    exact I1.fpOk (Nat.le_refl _) (I1.hok.fresh (Nat.le_refl _))
  cases ha : z.cps.all (· < 128) with
  | true => exact wpAny_pyIter_ascii ha ⟨s1.heap.objs.size, [s1.heap.objs.size], _, _, H1, rfl, I1.kept (t' := s1.toks) fun b o e => Heap.get?_push_of_some _ e, turn_str_ascii _ z t, ⟨_, Heap.get?_push_size _ rfl, rfl, rfl⟩, fin, q⟩
  | false => exact wpAny_pyIter_wide ha ⟨s1.heap.objs.size, [s1.heap.objs.size], _, _, H1, rfl, I1.kept (t' := s1.toks) fun b o e => Heap.get?_push_of_some _ e, turn_str_wide _ z t, ⟨_, Heap.get?_push_size _ rfl, rfl, rfl⟩, fin, q⟩
abbrev sg (c : Nat) : V := .str ⟨#[c]⟩
theorem comp_str {x : Str} {tt : TT} {te : TE} {fv : St} {D : Addr} {H : Hp} {Q : VK} (Pv : Nat → List V → Hp → Prop) (h0 : Pv 0 [] (upd H D (.lst [])))
    (hs : ∀ (i c : Nat) (ys : List V) (H : Hp), x.cps[i]? = some c → Pv i ys H → tt (some (sg c) :: fv) H fun b H1 => if b = true then te (some (sg c) :: fv) H1 fun y H3 => H3 D = some (.lst ys) ∧ ys.length < sizeLine ∧ Pv (i + 1) (ys ++ [y]) (upd H3 D (.lst (ys ++ [y]))) else Pv (i + 1) ys H1)
    (hd : ∀ ys H, Pv x.length ys H → Q (.ref D) H) : CompW (Its x) tt te fv D H Q := by
  refine ⟨fun i m ys H => m = x.length - i ∧ i ≤ x.length ∧ Pv i ys H, ⟨x.length, by simp, Nat.zero_le _, h0⟩, ?_⟩
  rintro i m ys H ⟨rfl, hi, p⟩
  by_cases hlt : i < x.length
  · refine .inr ⟨hlt, Pv (i + 1), fun ys' H' p' => ⟨x.length - (i + 1), by omega, rfl, hlt, p'⟩, fun v H' y => ?_⟩
    obtain ⟨e, c, hc, rfl⟩ := y
    subst e
    exact hs i c ys _ hc p
  · have e : i = x.length := by omega
    subst e
    exact .inl ⟨Nat.le_refl _, hd ys H p⟩
theorem comp_strM {x : Str} {te : TE} {fv : St} {D : Addr} {H : Hp} {Q : VK} (hn : x.length ≤ 100000) (hD : H D = none) (f : Nat → V)
    (turn : ∀ (i c : Nat), x.cps[i]? = some c → ∀ H1, Same H H1 → ∀ Kt : VK, (∀ H3, Same H1 H3 → Kt (f c) H3) → te (some (sg c) :: fv) H1 Kt) (fin : ∀ H', Same H H' → H' D = some (.lst (x.cps.toList.map f)) → Q (.ref D) H') : CompW (Its x) tYes te fv D H Q := by
  refine comp_str (fun i ys H1 => i ≤ x.length ∧ Same H H1 ∧ H1 D = some (.lst ys) ∧ ys = (x.cps.toList.take i).map f) ⟨Nat.zero_le _, same_new hD _, upd_same, rfl⟩ ?_ ?_
  · rintro i c ys H1 hi ⟨_, g, h1, e⟩
    have hil : i < x.length := (Array.getElem?_eq_some_iff.mp hi).1
    refine yesT (iteT (turn i c hi H1 g _ fun H3 g3 => ⟨g3 _ _ h1, ?_, hil, ?_, upd_same, ?_⟩))
    · rw [e, List.length_map, List.length_take, sizeLine_eq]
      omega
    · intro b o q
      rw [upd_ne (ne_of_none q hD)]
      exact g3 _ _ (g _ _ q)
    · have hi' : x.cps.toList[i]? = some c := by rw [Array.getElem?_toList]; exact hi
      rw [e, List.take_add_one, hi', List.map_append]
      rfl
  · rintro ys H1 ⟨_, g, h1, e⟩
    refine fin H1 g ?_
    rw [h1, e, List.take_of_length_le (by show x.cps.toList.length ≤ x.cps.size; simp)]
def cutS (z : Str) (lo hi : Option Int) : Str := ⟨((z.cps.toList.drop (HT.sIx z.length 0 lo)).take (HT.sIx z.length z.length hi - HT.sIx z.length 0 lo)).toArray⟩
theorem sIx_le {n d : Nat} (hd : d ≤ n) (o : Option Int) : HT.sIx n d o ≤ n := by
  cases o with
  | none => exact hd
  | some v =>
    show (if v < 0 then (v + (n : Int)).toNat else min v.toNat n) ≤ n
    split <;> omega
theorem clip_sIx (n : Nat) (lo hi : Option Int) : Builtin.Str.strSliceIndices lo hi 1 n = (List.range (HT.sIx n n hi - HT.sIx n 0 lo)).map (fun k => HT.sIx n 0 lo + k) := by
  have h0 := sIx_le (Nat.zero_le n) lo
  have h1 := sIx_le (Nat.le_refl n) hi
  have cl : ∀ v : Int, max 0 (min (if v < 0 then v + (n : Int) else v) (n : Int)) = (((if v < 0 then (v + (n : Int)).toNat else min v.toNat n : Nat)) : Int) := fun v => by
    split <;> omega
  have e : Builtin.Str.strSliceIndices lo hi 1 n = sliceRange ((HT.sIx n 0 lo : Nat) : Int) ((HT.sIx n n hi : Nat) : Int) 1 := by
    have one : ((1 : Int) > 0) = True := by simp
    cases lo with
    | none =>
      cases hi with
      | none => simp only [Builtin.Str.strSliceIndices, HT.sIx, one, if_true]; rfl
      | some v => simp only [Builtin.Str.strSliceIndices, HT.sIx, one, if_true, cl v]; rfl
    | some u =>
      cases hi with
      | none => simp only [Builtin.Str.strSliceIndices, HT.sIx, one, if_true, cl u]
      | some v => simp only [Builtin.Str.strSliceIndices, HT.sIx, one, if_true, cl u, cl v]
  rw [e]
  unfold sliceRange
  simp only [show ((1 : Int) > 0) = True from by simp, if_true]
  by_cases hlt : ((HT.sIx n 0 lo : Nat) : Int) < ((HT.sIx n n hi : Nat) : Int)
  · have e3 : ((((HT.sIx n n hi : Nat) : Int) - ((HT.sIx n 0 lo : Nat) : Int) + 1 - 1) / 1).toNat = HT.sIx n n hi - HT.sIx n 0 lo := by
      rw [Int.ediv_one]
      omega
    simp only [hlt, if_true, e3]
    refine List.map_congr_left fun k _ => ?_
    omega
  · have : HT.sIx n n hi - HT.sIx n 0 lo = 0 := by omega
    simp [hlt, this]
theorem slice_cut (z : Str) (lo hi : Option Int) : Txt.slice z lo hi = cutS z lo hi := by
  have h0 := sIx_le (Nat.zero_le z.length) lo
  have h1 := sIx_le (Nat.le_refl z.length) hi
  have zl : z.cps.toList.length = z.length := by simp [Str.length]
  have pk := StrLaws.picks z.cps.toList (HT.sIx z.length z.length hi - HT.sIx z.length 0 lo) (HT.sIx z.length 0 lo) (by omega)
  unfold Txt.slice cutS
  rw [clip_sIx]
  split
  · rename_i h
    rw [List.length_map, List.length_range] at h
    have h' : HT.sIx z.length z.length hi - HT.sIx z.length 0 lo = z.length := by simpa using h
    have e0 : HT.sIx z.length 0 lo = 0 := by omega
    rw [h', e0, List.drop_zero, List.take_of_length_le (by omega)]
  · congr 2
    rw [← pk]
    simp
theorem cutS_length_le (z : Str) (lo hi : Option Int) : (cutS z lo hi).length ≤ z.length := by rw [← slice_cut]; exact Txt.slice_le z lo hi
def rSlS : V → Option Int → Option Int → Hp → VK → Prop := fun x lo hi H Q => ∃ z, x = .str z ∧ z.length ≤ sizeLine ∧ Q (.str (cutS z lo hi)) H
theorem sl_str {X : Cx} : SlR X rSlS := by
  intro pins s σ H x v vl vu lo hi sl Q I rx hs pl pu h
  obtain ⟨z, rfl, hz, q⟩ := h
  obtain ⟨t, rfl⟩ := rx
  refine ⟨"str", _, F.slot_str_getitem.lookup, typeIs_str _ _ _, ?_⟩
  have part : ∀ {v : Value} {o : Option Int}, IsPart v o → ∃ p : Option (Int × Tok), v = partValue p ∧ p.map (·.1) = o := by
    intro v o h
    cases h with
    | none => exact ⟨none, rfl, rfl⟩
    | int i t => exact ⟨some (i, t), rfl, rfl⟩
  obtain ⟨l, rfl, el⟩ := part pl
  obtain ⟨u, rfl, eu⟩ := part pu
  refine wpAny_getItem_str_slice (l := l) (u := u) (st := none) hs rfl (post_val_or_str ⟨?_, fun t' k => ?_⟩)
  · show (Txt.slice z (l.map (·.1)) (u.map (·.1))).length ≤ sizeLine
    exact Nat.le_trans (Txt.slice_le z _ _) hz
  · show EP X pins σ Q (.str (Txt.slice z (l.map (·.1)) (u.map (·.1))) t') _
    rw [el, eu, slice_cut]
    exact ⟨.str (cutS z lo hi), H, I.tok k, ⟨t', rfl⟩, q⟩
theorem strsAre_of : ∀ {ys : List Str} {us : List Value}, Vals (ys.map V.str) us → StrsAre us ys
  | [], us, r => by
    rw [List.map_nil] at r
    cases r
    exact .nil
  | y :: ys, us, r => by
    rw [List.map_cons] at r
    cases r with
    | cons r1 r2 =>
      obtain ⟨t, e⟩ := r1
      subst e
      exact .cons y t (strsAre_of r2)
def rJoin (K : PySem.W.Frag) : V → List V → Hp → VK → Prop := fun x vs H Q => ∃ (sep : Str) (p : Addr) (ys : List Str), x = .str sep ∧ vs = [.ref p] ∧ SqL K H p (ys.map V.str) ∧ (ys.map (·.length)).sum + ys.length * sep.length ≤ 16777216 ∧ Q (.str (Str.join sep ys)) H
theorem mt_joinK {X : Cx} {K : PySem.W.Frag} (hK : X.K = K) : MtM X "str.join" (rJoin K) := by
  subst hK
  intro pins s σ H x xs v us Q I rx rv h
  obtain ⟨sep, p, ys, rfl, rfl, hp, lim, q⟩ := h
  obtain ⟨t, rfl⟩ := rx
  obtain ⟨u, rfl, ru⟩ := rv.one
  obtain rfl : u = Value.ref p := ru
  obtain ⟨its, vl, pl, _⟩ := I.list hp
  refine join_list pl.isList (strsAre_of (by simpa using vl)) lim fun t' k => ?_
  have e : Txt.join sep ys = Str.join sep ys := StrLaws.glued_eq_join sep ys
  rw [e]
  exact ⟨.str (Str.join sep ys), H, I.tok k, ⟨t', rfl⟩, q⟩
end L2
namespace L2
open PySem PySem.W PySem.Spec PyProof.Rows
def rListD : List V → Hp → VK → Prop := fun xs H Q => ∃ (p : Addr) (kvs : List (Key × V)), xs = [.ref p] ∧ H p = some (.dK kvs) ∧ Nw H (.lst (kvs.map fun kv => kV kv.1)) Q
theorem keys_vals {P : Program} {w : World} : ∀ {ks : List Key} {us : List Value}, us.length = ks.length → (∀ (j : Nat) (v : Value), us[j]? = some v → ∃ k, ks[j]? = some k ∧ (mixKind P w).is k v = true) → Vals (ks.map kV) us
  | [], [], _, _ => .nil
  | k :: ks, u :: us, hl, h => by
    obtain ⟨k', e, hk⟩ := h 0 u rfl
    have e' : k = k' := by simpa using e
    subst e'
    refine .cons ?_ (keys_vals (by simpa using hl) fun j v hj => by simpa using h (j + 1) v (by simpa using hj))
    rcases keyIs_shape (show keyIs k u = true from hk) with ⟨i, t, rfl, rfl⟩ | ⟨x, t, rfl, rfl⟩
    · exact ⟨t, rfl⟩
    · exact ⟨t, rfl⟩
  | [], _ :: _, hl, _ => by simp at hl
  | _ :: _, [], hl, _ => by simp at hl
theorem call_list_d {X : Cx} (hc : X.calm = true) : CallR X (.type "list") rListD := by
  intro pins s σ H xs us Q I r h
  obtain ⟨p, kvs, rfl, hp, q⟩ := h
  obtain ⟨u, rfl, ru⟩ := vals1 r
  obtain rfl : u = Value.ref p := ru
  obtain ⟨lim, nsys, vs, kv, dd⟩ := dk_of I.hok hp
  obtain ⟨ep, da⟩ := dd.dictAt
  have kl := kv.length
  refine kdl_call (kdl_dict (knd := mixKind X.prog X.w) (kvs := vs) (ep := ep) nsys) (I.ok.hd hc) da (by omega) fun h' tk acc c kp hD it => ?_
  have vals : Vals (kvs.map fun kv => kV kv.1) acc.toList := by
    have e : (kvs.map fun kv => kV kv.1) = (vs.map (·.1)).map kV := by rw [← kv.keys, List.map_map]; rfl
    rw [e]
    refine keys_vals (P := X.prog) (w := X.w) (by rw [Array.length_toList, List.length_map]; exact it.1) fun j v hj => ?_
    obtain ⟨k, x, hx, hk⟩ := it.2 j v (by rw [← Array.getElem?_toList]; exact hj)
    exact ⟨k, by rw [List.getElem?_map, hx]; rfl, hk⟩
  have I1 := I.laid (a := s.heap.objs.size) (o := .lst (kvs.map fun kv => kV kv.1)) (t' := tk) (h' := h') kp (Nat.le_refl _) ⟨by rw [List.length_map]; exact lim, acc.toList, c, vals, by rw [Array.toArray_toList]; exact hD⟩
  exact ⟨.ref s.heap.objs.size, _, I1, rfl, q.at _ (I.hok.fresh (Nat.le_refl _))⟩
end L2
namespace L2
open PySem PySem.Spec PyProof.Rows
end L2
namespace L2
open PySem PySem.Spec PyProof.Rows
theorem pe_mt0 {X : Cx} {k j : Nat} {m : Str} {C : Addr} {ps : List Str} {sp : Sp} {pos apos : Pos} {o : Expr} {ta : TE} {pl : Sem Bool} (h : HasMt X.prog X.w X.K X.mg X.base k m C ps sp) (hr : Room j X.A) (hj : k ≤ j) (ho : PE X o ta)
    (ht : eval (.Call (.Attribute o m apos) [] [] pos) X.env = (do
      let ov ← eval o X.env
      standAt apos.atName
      let (f, first) ← holding [ov] (getMethod ov m pl)
      callWith pos f first (backTo pos (starEach [] X.env)) (backToKw pos (keywordEach [] X.env))) := by rfl) :
    PE X (.Call (.Attribute o m apos) [] [] pos) (tMeth C m sp [] E0 ta tNil) := by
  obtain ⟨f, fd, c, hm, F, b⟩ := h
  exact pe_meth0 ho c hm F (hr.mono hj) b .nil pass0 ht
def rRepN : R2 := fun x y H Q => ∃ l k xs, x = .ref l ∧ y = .int k ∧ H l = some (.lst xs) ∧ -(2 ^ 63) ≤ k ∧ k < 2 ^ 63 ∧ xs.length * k.toNat ≤ sizeLine ∧ Nw H (.lst (List.replicate k.toNat xs).flatten) Q
theorem op_repN {X : Cx} : OpR X (binaryOp .Mult) rRepN := op_rep.mono fun _ _ _ _ ⟨l, k, xs, e1, e2, h1, h2, h3, h4, q⟩ => ⟨l, k, xs, e1, e2, h1, h2, h3, h4, q.at⟩
def rEqE (K : PySem.W.Frag) (neg : Bool) : R2 := fun x y H Q => ∃ (p q : Addr) (xs : List V), x = .ref p ∧ y = .ref q ∧ SqL K H p xs ∧ SqL K H q [] ∧ Q (.bl (if neg = true then !xs.isEmpty else xs.isEmpty)) H
theorem op_neE {X : Cx} (hu : X.A.units < cLine) : OpR X (compareOp .NotEq) (rEqE X.K true) := by
  intro pins s σ H x y v u Q I rx ry h
  obtain ⟨p, q, xs, rfl, rfl, h1, h2, k⟩ := h
  cases rx
  cases ry
  obtain ⟨its, r1, p1, z1⟩ := I.list h1
  obtain ⟨its2, r2, p2, z2⟩ := I.list h2
  cases r2
  have l1 := r1.length
  show wpAny _ _ (richCompare .NotEq _ _) _ _ _
  cases xs with
  | nil =>
    cases r1
    exact SeqAt.RcNeAt.lists (e := fun _ => true) p1.isList p2.isList rfl hu (fun j h1 _ => absurd h1 (by simp)) _ _ _ _ (fin_bl I k (by simp))
  | cons a r => exact SeqAt.RcNeAt.lists_lengths p1.isList p2.isList (by simp; intro z; subst z; simp at l1) hu _ _ _ _ (fin_bl I k (by simp))
def rEqU (K : PySem.W.Frag) : R2 := fun x y H Q => ∃ z : Str, y = .str z ∧ ((∃ i : Str, x = .str i ∧ Q (.bl (decide (i = z))) H) ∨ ∃ (p : Addr) (xs : List V), x = .ref p ∧ SqT K H p xs ∧ Q (.bl false) H)
theorem op_eqU {X : Cx} {K : PySem.W.Frag} (hK : X.K = K) (hu : X.A.units < cLine) : OpR X (compareOp .Eq) (rEqU K) := by
  subst hK
  intro pins s σ H x y v u Q I rx ry h
  obtain ⟨z, rfl, ⟨i, rfl, q⟩ | ⟨p, xs, rfl, h1, q⟩⟩ := h
  · refine op_eq pins s σ H _ _ v u Q I rx ry ⟨rfl, ?_⟩
    have e : decide (V.str i = V.str z) = decide (i = z) := by
      rw [Bool.eq_iff_iff, decide_eq_true_iff, decide_eq_true_iff]
      exact ⟨V.str.inj, fun e => by rw [e]⟩
    rw [e]
    exact q
  · cases rx
    obtain ⟨t, rfl⟩ := ry
    obtain ⟨its, r1, p1, z1⟩ := I.tuple h1
    show wpAny _ _ (richCompare .Eq _ _) _ _ _
    exact SeqAt.RcAt.tuple_str z t p1 hu _ _ _ _ (fin_bl I q rfl)
theorem call_len_d {X : Cx} : CallR X (.builtin "len") (fun xs H Q => ∃ p kvs, xs = [.ref p] ∧ H p = some (.dK kvs) ∧ Q (.int (kvs.length : Int)) H) := by
  intro pins s σ H xs us Q I r h
  obtain ⟨p, kvs, rfl, hp, q⟩ := h
  obtain ⟨u, rfl, ru⟩ := vals1 r
  obtain rfl : u = Value.ref p := ru
  exact d_len I (.inl hp) fun t s' I' => ⟨.int (kvs.length : Int), H, I', ⟨t, rfl⟩, q⟩
theorem Bar.trans {D : Addr} {H H' H'' : Hp} (g : Bar D H H') (g' : Bar D H' H'') : Bar D H H'' := fun b o e n => g' b o (g b o e n) n
def Out (fp : List Addr) (H H' : Hp) : Prop := ∀ b o, H b = some o → b ∉ fp → H' b = some o
theorem Out.of {fp : List Addr} {H H' : Hp} (g : Same H H') : Out fp H H' := fun b o e _ => g b o e
theorem Out.trans {fp : List Addr} {H H' H'' : Hp} (g : Out fp H H') (g' : Out fp H' H'') : Out fp H H'' := fun b o e n => g' b o (g b o e n) n
theorem setC {v : V} {i : Nat} {u : TS} {D : Ends} {σ : St} {H : Hp} (h : u D (σ.set i (some v)) H) : tSeq (tAsg (tC v) (gName i)) u D σ H := h
theorem setT {te : TE} {i : Nat} {u : TS} {D : Ends} {σ : St} {H : Hp} (h : te σ H fun x H1 => u D (σ.set i (some x)) H1) : tSeq (tAsg te (gName i)) u D σ H := h
theorem dget_s {H : Hp} {a : Addr} {kvs : List (Key × V)} {z : Str} {o : Option V} (h : H a = some (.dK kvs)) (e : valV kvs (.inr z) = o) : DGet H a (.str z) o := .inl ⟨kvs, .inr z, .inl h, rfl, e.symm⟩
end L2
namespace K21
open PySem L2
def top (i : Nat) : Stmt := PySem.Challenge.pw_kinhearth_k21_people_and_names.main.body.getD i (.Pass ⟨0, 0, 0, 0⟩)
abbrev s_is_turn : Stmt := top 19
abbrev s_still : Stmt := top 20
abbrev s_behind : Stmt := top 21
abbrev s_back : Stmt := top 23
abbrev s_check_turn : Stmt := top 25
abbrev s_check_rows : Stmt := top 72
abbrev s_check_parents : Stmt := top 73
abbrev s_land_of : Stmt := top 74
abbrev s_followed : Stmt := top 22
abbrev s_turned_back : Stmt := top 24
abbrev s_is_name : Stmt := top 47
abbrev s_check_person : Stmt := top 48
abbrev s_is_person : Stmt := top 67
abbrev s_law_draws : Stmt := top 76
abbrev s_law_same : Stmt := top 77
abbrev s_law_asked : Stmt := top 78
abbrev s_law_side : Stmt := top 79
abbrev s_law_text : Stmt := top 80
abbrev s_law_fine : Stmt := top 81
abbrev s_law : Stmt := top 82
abbrev s_Land_init : Stmt := inClass (top 71) 0
abbrev s_Hearth_init : Stmt := inClass (top 66) 0
abbrev s_Hearth_person : Stmt := inClass (top 66) 1
abbrev s_Hearth_people : Stmt := inClass (top 66) 10
abbrev s_Hearth_undoable : Stmt := inClass (top 66) 8
abbrev s_Hearth_side_of : Stmt := inClass (top 66) 11
abbrev s_Hearth_do_deed : Stmt := inClass (top 66) 20
abbrev s_Hearth_shift : Stmt := inClass (top 66) 21
abbrev s_Hearth_put_in : Stmt := inClass (top 66) 22
abbrev s_KinError_init : Stmt := inClass (top 4) 0
abbrev s_BadName_init : Stmt := inClass (top 9) 0
abbrev s_Taken_init : Stmt := inClass (top 10) 0
abbrev s_NoPerson_init : Stmt := inClass (top 11) 0
abbrev sDraws : Stmt := s_law_draws
section
variable {P : Program} {w : World} {K : PySem.W.Frag} {mg : Str → Option Value} {base : Heap} {f : Addr} {fd : FuncData}
theorem sc_KinError_init : FnScope ["self", "word", "why"] ["self", "word", "why"] (defScope s_KinError_init) := ⟨rfl, rfl, rfl, by decide +kernel, rfl, by decide +kernel, by decide +kernel⟩
theorem ok_KinError (F : FunD K "__init__" "KinError.__init__" s_KinError_init f fd) (bl : Bl mg) : FnOk P w K mg base CX0 1 f fd ["self", "word", "why"] (spKin K) := by
  refine F.ok sc_KinError_init (fun vs H Q E h => ?_) (fun cdv A outer s H vs Q E hr h => ?_)
  · obtain ⟨a, C, wd, y, rfl, _⟩ := h
    rfl
  obtain ⟨a, C, wd, y, rfl, ha, xa, na, lw, ly, q⟩ := h
  refine ⟨_, (pss_cons (ps_expr (pe_xinit rfl bl.n_ValueError (pa_cons (pv 0) (pa_cons (pe_ifExp (pt_truth (pv 2) (fun _ => rfl)) (pe_join (pj_cons (pe_fmt hr (pv 1)) (pj_cons pe_str (pj_cons (pe_fmt hr (pv 2)) pj_nil)))) (pv 1)) pa_nil)))) (pss_one (ps_xset (pv 0) (pv 1)))), ?_⟩
  have fin : ∀ t : Str, rXinit K [.ref a, .str t] H fun _ H1 => sXset K (tVar 0) (tVar 1) "word" { nx := fun _ H' => Q .non H', rt := Q } [some (.ref a), some (.str wd), some (.str y)] H1 := fun t =>
    ⟨a, C, .str t, rfl, xa, ha, _, rfl, _, rfl, a, C, rfl, xa, na, .inl ⟨ha, fun d hd nd => q d hd nd⟩⟩
  have lim : (1000200 : Nat) ≤ sizeLine := by rw [sizeLine_eq]; omega
  refine ⟨_, rfl, _, rfl, _, ⟨by omega, rfl⟩, ?_⟩
  refine ite2 (fun c => ?_) (fun c => ?_)
  · refine ⟨_, rfl, .inl ⟨wd, rfl, by omega, wd, rfl, ?_, ?_⟩⟩
    · rw [strLen_append]
      show 0 + wd.length ≤ sizeLine
      omega
    refine ⟨_, rfl, ?_, ?_⟩
    · rw [strLen_append, strLen_append]
      show 0 + wd.length + 2 ≤ sizeLine
      omega
    refine ⟨_, rfl, .inl ⟨y, rfl, by omega, y, rfl, ?_, ?_, fin _⟩⟩
    · rw [strLen_append, strLen_append, strLen_append]
      show 0 + wd.length + 2 + y.length ≤ sizeLine
      omega
    · rw [strLen_append, strLen_append, strLen_append]
      show 0 + wd.length + 2 + y.length ≤ sizeLine
      omega
  · exact ⟨_, rfl, fin _⟩
end
section
variable {P : Program} {w : World} {K : PySem.W.Frag} {mg : Str → Option Value} {base : Heap} {f fk ck c : Addr} {fd fdk : FuncData}
theorem sc_BadName_init : FnScope ["self", "why"] ["self", "why"] (defScope s_BadName_init) := ⟨rfl, rfl, rfl, by decide +kernel, rfl, by decide +kernel, by decide +kernel⟩
theorem ok_BadName (F : FunD K "__init__" "BadName.__init__" s_BadName_init f fd) (cf_KinError : ClsFn K ck "__init__" fk) (F_KinError : FnOk P w K mg base CX0 1 fk fdk ["self", "word", "why"] (spKin K)) (b_KinError : Binds K fdk ["self", "word", "why"] []) (m_KinError : mg "KinError" = some (.ref ck)) (xa : XAt K c) (na : NoAttr K c "word") :
    FnOk P w K mg base CX0 2 f fd ["self", "why"] (spBad "no name" c) := by
  refine F.ok sc_BadName_init (fun vs H Q E h => ?_) (fun cdv A outer s H vs Q E hr h => ?_)
  · obtain ⟨a, y, rfl, _⟩ := h
    rfl
  obtain ⟨a, y, rfl, ha, ly, q⟩ := h
  refine ⟨_, (pss_one (ps_expr (pe_clsfn cf_KinError F_KinError (hr.mono (by omega)) rfl m_KinError b_KinError .nil pass0 (pa_cons (pv 0) (pa_cons pe_str (pa_cons (pv 1) pa_nil)))))), ?_⟩
  exact ⟨_, rfl, _, rfl, a, c, _, y, rfl, ha, xa, na, by decide, ly, fun d hd nd => q d hd nd⟩
end
section
variable {P : Program} {w : World} {K : PySem.W.Frag} {mg : Str → Option Value} {base : Heap} {f fk ck c : Addr} {fd fdk : FuncData}
theorem sc_Taken_init : FnScope ["self", "why"] ["self", "why"] (defScope s_Taken_init) := ⟨rfl, rfl, rfl, by decide +kernel, rfl, by decide +kernel, by decide +kernel⟩
theorem ok_Taken (F : FunD K "__init__" "Taken.__init__" s_Taken_init f fd) (cf_KinError : ClsFn K ck "__init__" fk) (F_KinError : FnOk P w K mg base CX0 1 fk fdk ["self", "word", "why"] (spKin K)) (b_KinError : Binds K fdk ["self", "word", "why"] []) (m_KinError : mg "KinError" = some (.ref ck)) (xa : XAt K c) (na : NoAttr K c "word") :
    FnOk P w K mg base CX0 2 f fd ["self", "why"] (spBad "name taken" c) := by
  refine F.ok sc_Taken_init (fun vs H Q E h => ?_) (fun cdv A outer s H vs Q E hr h => ?_)
  · obtain ⟨a, y, rfl, _⟩ := h
    rfl
  obtain ⟨a, y, rfl, ha, ly, q⟩ := h
  refine ⟨_, (pss_one (ps_expr (pe_clsfn cf_KinError F_KinError (hr.mono (by omega)) rfl m_KinError b_KinError .nil pass0 (pa_cons (pv 0) (pa_cons pe_str (pa_cons (pv 1) pa_nil)))))), ?_⟩
  exact ⟨_, rfl, _, rfl, a, c, _, y, rfl, ha, xa, na, by decide, ly, fun d hd nd => q d hd nd⟩
end
section
variable {P : Program} {w : World} {K : PySem.W.Frag} {mg : Str → Option Value} {base : Heap} {f fk ck c : Addr} {fd fdk : FuncData}
theorem sc_NoPerson_init : FnScope ["self", "why"] ["self", "why"] (defScope s_NoPerson_init) := ⟨rfl, rfl, rfl, by decide +kernel, rfl, by decide +kernel, by decide +kernel⟩
theorem ok_NoPerson (F : FunD K "__init__" "NoPerson.__init__" s_NoPerson_init f fd) (cf_KinError : ClsFn K ck "__init__" fk) (F_KinError : FnOk P w K mg base CX0 1 fk fdk ["self", "word", "why"] (spKin K)) (b_KinError : Binds K fdk ["self", "word", "why"] []) (m_KinError : mg "KinError" = some (.ref ck)) (xa : XAt K c) (na : NoAttr K c "word") :
    FnOk P w K mg base CX0 2 f fd ["self", "why"] (spBad "no person" c) := by
  refine F.ok sc_NoPerson_init (fun vs H Q E h => ?_) (fun cdv A outer s H vs Q E hr h => ?_)
  · obtain ⟨a, y, rfl, _⟩ := h
    rfl
  obtain ⟨a, y, rfl, ha, ly, q⟩ := h
  refine ⟨_, (pss_one (ps_expr (pe_clsfn cf_KinError F_KinError (hr.mono (by omega)) rfl m_KinError b_KinError .nil pass0 (pa_cons (pv 0) (pa_cons pe_str (pa_cons (pv 1) pa_nil)))))), ?_⟩
  exact ⟨_, rfl, _, rfl, a, c, _, y, rfl, ha, xa, na, by decide, ly, fun d hd nd => q d hd nd⟩
end
section
variable {P : Program} {w : World} {K : PySem.W.Frag} {mg : Str → Option Value} {base : Heap} {f : Addr} {fd : FuncData}
theorem scDraws : FnScope ["_law_cell", "_law_parts", "_law_one", "_law_two", "_law_six", "_law_found", "_law_part"] ["_law_cell", "_law_parts"] (defScope sDraws) := ⟨rfl, rfl, rfl, by decide +kernel, rfl, by decide +kernel, by decide +kernel⟩
theorem ok_draws (F : Fun K "_law_draws" "_law_draws" sDraws f fd) (ma : mg "abs" = none) : FnOk P w K mg base CX0 1 f fd ["_law_cell", "_law_parts"] (spDraws K) := by
  refine F.ok scDraws (fun vs H Q E h => ?_) (fun cdv A outer s H vs Q E hr h => ?_)
  · obtain ⟨c, a, ps, rfl, _⟩ := h
    rfl
  obtain ⟨c, a, ps, rfl, hS, hps, hlen, q⟩ := h
  refine ⟨_, pss_cons (ps_if (pt_cmpR op_lt (pe_callB call_abs rfl ma bt_abs (pa_cons (pv 0) pa_nil)) (pe_op op_pow pe_int pe_int) (nomark _))
      (pss_cons (ps_set (i := 2) scDraws.nd rfl (Or.inl rfl) (pe_op op_mod (pe_op op_add (pe_op op_mul (pv 0) pe_int) pe_int) pe_int))
      (pss_cons (ps_set (i := 3) scDraws.nd rfl (Or.inl rfl) (pe_op op_mod (pe_op op_add (pe_op op_add (pe_op op_mul (pv 2) (pv 2)) (pe_op op_mul pe_int (pv 2))) (pv 0)) pe_int))
      (pss_cons (ps_set (i := 4) scDraws.nd rfl (Or.inl rfl) (pe_op op_mod (pe_op op_add (pe_op op_mul (pv 3) pe_int) (pv 2)) pe_int))
      (pss_one (ps_set (i := 0) scDraws.nd rfl (Or.inl rfl) (pe_op op_add (pv 3) (pe_op op_mul pe_int (pe_op op_add (pv 4) (pe_op op_mul pe_int (pv 2))))))))))
      (pss_one (ps_set (i := 0) scDraws.nd rfl (Or.inl rfl) (pe_op op_sub (pe_callB call_abs rfl ma bt_abs (pa_cons (pv 0) pa_nil)) (pe_op op_pow pe_int pe_int)))))
    (pss_cons (ps_set (i := 5) scDraws.nd rfl (Or.inl rfl) (pe_lst pa_nil))
    (pss_cons (ps_for PassesOwn.never rfl (pi_list (pv 1)) (pg_name (i := 6) scDraws.nd rfl (Or.inl rfl))
      (pss_cons (ps_expr (pe_bm PySem.F.plainAttrs_list PySem.F.slot_list_append PySem.F.type_list_append mt_append (pv 5) (pa_cons (pe_op op_mod (pv 0) (pv 6)) pa_nil)))
      (pss_one (ps_set (i := 0) scDraws.nd rfl (Or.inl rfl) (pe_op op_fdiv (pv 0) (pv 6))))))
    (pss_one (ps_ret (pv 5))))), ?_⟩
  refine seq_mid (fun σ H' => H' = H ∧ ∃ c' o2 o3 o4, σ = [some (.int c'), some (.ref a), o2, o3, o4, none, none]) (fun nx k => ?_) ?_
  · refine ⟨_, rfl, c, rfl, _, _, rfl, rfl, ⟨by decide, by decide, by decide⟩, _, _, rfl, rfl, _, rfl, ?_⟩
    refine ite2 (fun _ => ?_) (fun _ => ?_)
    · refine ⟨_, rfl, _, _, rfl, rfl, .inr ⟨by decide, by decide⟩, _, _, rfl, rfl, _, _, rfl, rfl, (by show (0 : Int) < 2147483647; decide), ?_⟩
      refine ⟨_, rfl, _, rfl, _, _, rfl, rfl, .inl (mod_bd _ (by decide) (by decide)), _, rfl, _, _, rfl, rfl, .inl ⟨by decide, by decide⟩, _, _, rfl, rfl, _, rfl, _, _, rfl, rfl, _, _, rfl, rfl, (by show (0 : Int) < 2147483399; decide), ?_⟩
      refine ⟨_, rfl, _, _, rfl, rfl, .inr ⟨by decide, by decide⟩, _, rfl, _, _, rfl, rfl, _, _, rfl, rfl, (by show (0 : Int) < 1000000007; decide), ?_⟩
      refine ⟨_, rfl, _, rfl, _, rfl, _, _, rfl, rfl, .inl ⟨by decide, by decide⟩, _, _, rfl, rfl, _, _, rfl, rfl, .inl ⟨by decide, by decide⟩, _, _, rfl, rfl, k _ _ ⟨rfl, _, _, _, _, rfl⟩⟩
    · exact ⟨_, rfl, c, rfl, _, _, rfl, rfl, ⟨by decide, by decide, by decide⟩, _, _, rfl, rfl, k _ _ ⟨rfl, _, _, _, _, rfl⟩⟩
  · rintro σ H0 ⟨rfl, c', o2, o3, o4, rfl⟩
    refine ⟨(by show 0 ≤ sizeLine; decide), fun l hl => ?_⟩
    have s1 : Same H0 (upd H0 l (.lst [])) := same_new hl _
    refine ⟨_, rfl, a, rfl, ⟨_, s1.seq hS⟩, for_list (K := K) (a := a) (xs := ps.map V.int) (fun i σ H2 => ∃ c o2 o3 o4 o6 ds, σ = [some (.int c), some (.ref a), o2, o3, o4, some (.ref l), o6] ∧ Same H0 H2 ∧ H2 l = some (.lst (ds.map V.int)) ∧ Paired Bd ds (ps.take i))
      ⟨c', o2, o3, o4, none, [], rfl, s1, upd_same, by rw [List.take_zero]; exact .nil⟩ (fun i σ H2 _ ⟨_, _, _, _, _, _, _, s2, _⟩ => s2.seq hS) ?_ ?_⟩
    · rintro i y σ H2 hi ⟨c, o2, o3, o4, o6, ds, rfl, s2, h2, b2⟩
      obtain ⟨p, rfl, hp⟩ := get_int hi
      have hil : i < ps.length := (List.getElem?_eq_some_iff.mp hp).1
      obtain ⟨p0, p1⟩ := hps p (List.mem_of_getElem? hp)
      have dl := b2.length
      rw [List.length_take] at dl
      refine ⟨_, rfl, .inl ⟨rfl, _, SqL.of h2⟩, _, rfl, _, rfl, _, _, rfl, rfl, p0, l, _, _, rfl, rfl, h2, (by rw [List.length_map]; exact small1000 (by omega)), ?_⟩
      refine ⟨_, rfl, _, rfl, _, _, rfl, rfl, ⟨p0, p1⟩, ?_⟩
      refine ⟨_, o2, o3, o4, _, ds ++ [c % p], rfl, fun b o e => ?_, ?_, ?_⟩
      · rw [upd_ne (ne_of_none e hl)]
        exact s2 b o e
      · rw [upd_same, snoc_int]
      · rw [List.take_add_one, hp]
        exact b2.snoc ⟨Int.emod_nonneg _ (Int.ne_of_gt p0), Int.emod_lt_of_pos _ p0⟩
    · rintro σ H2 ⟨c, o2, o3, o4, o6, ds, rfl, s2, h2, b2⟩
      rw [List.length_map, List.take_length] at b2
      exact ⟨_, rfl, q l ds H2 hl s2 h2 b2⟩
end
theorem nameE {q : St → Hp → Prop} {i : Nat} {x : V} {σ : St} {H : Hp} (h : q (σ.set i (some x)) H) : gName i x σ H q := h
theorem paired3 {ds : List Int} {a b c : Int} (h : Paired Bd ds [a, b, c]) : ∃ v w x, ds = [v, w, x] ∧ Bd v a ∧ Bd w b ∧ Bd x c := by
  cases h with | cons h1 h => cases h with | cons h2 h => cases h with | cons h3 h =>
    cases h
    exact ⟨_, _, _, rfl, h1, h2, h3⟩
theorem ix_any {K : PySem.W.Frag} {H : Hp} {p : Addr} {xs : List V} {i : Nat} {x : V} {Q : VK} (hp : SqL K H p xs ∨ SqT K H p xs) (h : xs[i]? = some x) (q : Q x H) : rIx K (.ref p) (.int (0 + (i : Int))) H Q := by
  rcases hp with hp | hp
  · exact .inl ⟨p, _, _, _, rfl, rfl, hp, atI_some h, q⟩
  · exact .inr (.inl ⟨p, _, _, _, rfl, rfl, hp, atI_some h, q⟩)
theorem dec_self (v : V) : decide (v = v) = true := decide_eq_true rfl
theorem all_true (n : Nat) : (List.replicate n true).all id = true := by
  induction n with
  | zero => rfl
  | succ n ih => rw [List.replicate_succ, List.all_cons, ih]; rfl
def spSame (m : Nat) : Sp := fun vs H Q _ => ∃ (x y : V) (d : Dt) (k : Nat), vs = [x, y] ∧ m = k + 1 ∧ At H k x d ∧ At H k y d ∧ ∀ H', Same H H' → Q (.bl true) H'
section
variable {P : Program} {w : World} {K : PySem.W.Frag} {mg : Str → Option Value} {base : Heap} {f : Addr} {fd : FuncData}
theorem sc_law_same : FnScope ["_law_found", "_law_due"] ["_law_found", "_law_due"] (defScope s_law_same) := ⟨rfl, rfl, rfl, by decide +kernel, rfl, by decide +kernel, by decide +kernel⟩
theorem ok_same1 {n : Nat} (F : Fun K "_law_same" "_law_same" s_law_same f fd) (h_law_same : HasFn P w K mg base n "_law_same" ["_law_found", "_law_due"] (spSame n)) (bl : Bl mg) : FnOk P w K mg base CX0 (n + 1) f fd ["_law_found", "_law_due"] (spSame (n + 1)) := by
  refine F.ok sc_law_same (fun vs H Q E h => ?_) (fun cdv A outer s H vs Q E hr h => ?_)
  · obtain ⟨x, y, d, k, rfl, _⟩ := h
    rfl
  obtain ⟨x, y, d, k, rfl, ek, hx, hy, q⟩ := h
  obtain rfl : k = n := by omega
  have hu := hr.units0
  refine ⟨_, (pss_cons (ps_if (pt_cmpR op_isN (pv 1) pe_non (nomark _)) (pss_one (ps_ret (pe_cmpR op_isN (pv 0) pe_non (nomark _)))) pss_nil) (pss_cons (ps_if (pt_val (pe_callB (isinstK (K := K) rfl) rfl bl.n_isinstance bt_isinstance (pa_cons (pv 1) (pa_cons (pe_ty rfl bl.n_bool bt_bool) pa_nil)))) (pss_one (ps_ret (pe_and (pe_callB (isinstK (K := K) rfl) rfl bl.n_isinstance bt_isinstance (pa_cons (pv 0) (pa_cons (pe_ty rfl bl.n_bool bt_bool) pa_nil))) (pe_one (pe_cmpR op_eq (pv 0) (pv 1) (nomark _)))))) pss_nil) (pss_cons (ps_if (pt_val (pe_callB (isinstK (K := K) rfl) rfl bl.n_isinstance bt_isinstance (pa_cons (pv 1) (pa_cons (pe_ty rfl bl.n_int bt_int) pa_nil)))) (pss_one (ps_ret (pe_and (pe_callB (isinstK (K := K) rfl) rfl bl.n_isinstance bt_isinstance (pa_cons (pv 0) (pa_cons (pe_ty rfl bl.n_int bt_int) pa_nil))) (pe_and (pe_not (pe_callB (isinstK (K := K) rfl) rfl bl.n_isinstance bt_isinstance (pa_cons (pv 0) (pa_cons (pe_ty rfl bl.n_bool bt_bool) pa_nil)))) (pe_one (pe_cmpR op_eq (pv 0) (pv 1) (nomark _))))))) pss_nil) (pss_cons (ps_if (pt_val (pe_callB (isinstK (K := K) rfl) rfl bl.n_isinstance bt_isinstance (pa_cons (pv 1) (pa_cons (pe_ty rfl bl.n_str bt_str) pa_nil)))) (pss_one (ps_ret (pe_and (pe_callB (isinstK (K := K) rfl) rfl bl.n_isinstance bt_isinstance (pa_cons (pv 0) (pa_cons (pe_ty rfl bl.n_str bt_str) pa_nil))) (pe_one (pe_cmpR op_eq (pv 0) (pv 1) (nomark _)))))) pss_nil) (pss_cons (ps_if (PW.pt (pw_or (pt_cmpR op_ne (pe_callB (isinstK (K := K) rfl) rfl bl.n_isinstance bt_isinstance (pa_cons (pv 1) (pa_cons (pe_ty rfl bl.n_list bt_list) pa_nil))) (pe_callB (isinstK (K := K) rfl) rfl bl.n_isinstance bt_isinstance (pa_cons (pv 0) (pa_cons (pe_ty rfl bl.n_list bt_list) pa_nil))) (nomark _)) (pw_or1 (pt_cmpR op_ne (pe_callB (isinstK (K := K) rfl) rfl bl.n_isinstance bt_isinstance (pa_cons (pv 1) (pa_cons (pe_ty rfl bl.n_tuple bt_tuple) pa_nil))) (pe_callB (isinstK (K := K) rfl) rfl bl.n_isinstance bt_isinstance (pa_cons (pv 0) (pa_cons (pe_ty rfl bl.n_tuple bt_tuple) pa_nil))) (nomark _))))) (pss_one (ps_ret pe_bl)) pss_nil) (pss_cons (ps_if (pt_cmpR op_ne (pe_callB (lenK (K := K) rfl) rfl bl.n_len bt_len (pa_cons (pv 0) pa_nil)) (pe_callB (lenK (K := K) rfl) rfl bl.n_len bt_len (pa_cons (pv 1) pa_nil)) (nomark _)) (pss_one (ps_ret pe_bl)) pss_nil) (pss_one (ps_ret (pe_callB (allK (K := K) rfl rfl) rfl bl.n_all bt_all (pa_cons (pe_comp (x := "_law_k") (fr := [("_law_found", 0), ("_law_due", 1)]) (cl := [("_law_found", s.heap.objs.size + 1), ("_law_due", s.heap.objs.size + 1 + 1)]) rfl ⟨by with_unfolding_all rfl, ⟨rfl, ⟨rfl, trivial⟩⟩, rfl, by decide +kernel, rfl, by decide +kernel, rfl, ⟨⟨rfl, .inl rfl, .inl rfl, rfl⟩, ⟨⟨rfl, .inl rfl, .inl rfl, rfl⟩, trivial⟩⟩, by decide +kernel⟩ (pi_range1 rfl bl.n_range (pa_cons (pe_callB (lenK (K := K) rfl) rfl bl.n_len bt_len (pa_cons (pv 1) pa_nil)) pa_nil)) (fun _ _ _ _ => ptl_nil) (fun _ _ _ _ => (pe_fn h_law_same hr (by omega) rfl (pa_cons (pe_ix (ix_seqK (K := K) rfl) (pv 1) (pv 0) (fun _ _ => rfl)) (pa_cons (pe_ix (ix_seqK (K := K) rfl) (pv 2) (pv 0) (fun _ _ => rfl)) pa_nil))))) pa_nil)))))))))), ?_⟩
  have sq : (∃ (p r : Addr) (xs ys : List V) (ds : List Dt) (t : Value) (b1 b2 : Bool) (m : Nat), x = .ref p ∧ y = .ref r ∧ TyOf K H (.ref p) t ∧ TyOf K H (.ref r) t ∧ PySem.W.kitOne K t (.type "bool") = some false ∧ PySem.W.kitOne K t (.type "int") = some false ∧ PySem.W.kitOne K t (.type "str") = some false ∧
      PySem.W.kitOne K t (.type "list") = some b1 ∧ PySem.W.kitOne K t (.type "tuple") = some b2 ∧ (SqL K H p xs ∨ SqT K H p xs) ∧ (SqL K H r ys ∨ SqT K H r ys) ∧ ds.length ≤ 1000 ∧ Paired (At H m) xs ds ∧ Paired (At H m) ys ds ∧ k = m + 1) ∨
      (x = .non ∧ y = .non) ∨ (∃ b, x = .bl b ∧ y = .bl b) ∨ (∃ i, x = .int i ∧ y = .int i) ∨ ∃ z, x = .str z ∧ y = .str z := by
    cases d with
    | non => unfold At at hx hy; exact .inr (.inl ⟨hx, hy⟩)
    | bl b => unfold At at hx hy; exact .inr (.inr (.inl ⟨b, hx, hy⟩))
    | int i => unfold At at hx hy; exact .inr (.inr (.inr (.inl ⟨i, hx, hy⟩)))
    | str z => unfold At at hx hy; exact .inr (.inr (.inr (.inr ⟨z, hx, hy⟩)))
    | lst ds =>
      cases k with
      | zero => unfold At at hx; exact hx.elim
      | succ m =>
        unfold At at hx hy
        obtain ⟨a, xs, e0, e1, lz, p1⟩ := hx
        obtain ⟨b, ys, e0', e2, _, p2⟩ := hy
        exact .inl ⟨a, b, xs, ys, ds, .type "list", true, false, m, e0, e0', .lst e1, .lst e2, kit_lb, kit_li, kit_ls, kit_ll, kit_lt, .inl (SqL.of e1), .inl (SqL.of e2), lz, p1, p2, rfl⟩
    | tup ds =>
      cases k with
      | zero => unfold At at hx; exact hx.elim
      | succ m =>
        unfold At at hx hy
        obtain ⟨a, xs, e0, e1, lz, p1⟩ := hx
        obtain ⟨b, ys, e0', e2, _, p2⟩ := hy
        exact .inl ⟨a, b, xs, ys, ds, .type "tuple", false, true, m, e0, e0', .tup e1, .tup e2, kit_tb, kit_ti, kit_ts, kit_tl, kit_tt, .inr (SqT.of e1), .inr (SqT.of e2), lz, p1, p2, rfl⟩
  clear hx hy
  rcases sq with ⟨p, r, xs, ys, ds, t, b1, b2, m, rfl, rfl, T1, T2, kb, ki, ksr, kl, kt, hp, hq, hz, p1, p2, ek⟩ | ⟨rfl, rfl⟩ | ⟨b, rfl, rfl⟩ | ⟨i, rfl, rfl⟩ | ⟨z, rfl, rfl⟩
  · have l1 := paired_len p1
    have l2 := paired_len p2
    refine ⟨_, rfl, rfl, _, rfl, ?_⟩
    refine ite2 (fun c => absurd (of_decide_eq_true c) (fun z => nomatch z)) (fun _ => nextE ?_)
    refine ⟨_, rfl, _, _, _, false, rfl, T2, kb, _, rfl, iteF (nextE ?_)⟩
    refine ⟨_, rfl, _, _, _, false, rfl, T2, ki, _, rfl, iteF (nextE ?_)⟩
    refine ⟨_, rfl, _, _, _, false, rfl, T2, ksr, _, rfl, iteF (nextE ?_)⟩
    refine ⟨_, rfl, _, _, _, b1, rfl, T2, kl, _, rfl, _, _, _, b1, rfl, T1, kl, rfl, _, rfl, iteNS rfl ?_⟩
    refine ⟨_, rfl, _, _, _, b2, rfl, T2, kt, _, rfl, _, _, _, b2, rfl, T1, kt, rfl, _, rfl, iteNS rfl (nextE ?_)⟩
    refine ⟨_, rfl, p, _, rfl, hp, _, rfl, r, _, rfl, hq, rfl, _, rfl, iteNS (by rw [l1, l2]) (nextE ?_)⟩
    refine ⟨_, rfl, r, _, rfl, hq, _, rfl, by omega, by omega, fun D hD => comp_range (lo := 0) (n := ((ys.length : Nat) : Int).toNat)
      (fun i zs H1 => Same H H1 ∧ H1 D = some (.lst zs) ∧ zs = (List.replicate i true).map V.bl) ⟨same_new hD _, upd_same, rfl⟩ ?_ ?_⟩
    · rintro i zs H1 hi ⟨g, h1, rfl⟩
      rw [Int.toNat_natCast] at hi
      have sq : ∀ {a : Addr} {us : List V}, (SqL K H a us ∨ SqT K H a us) → (SqL K H1 a us ∨ SqT K H1 a us) := fun {a us} z => by
        rcases z with z | z
        · exact .inl (g.seq z)
        · exact .inr (g.sqt z)
      have gx : xs[i]? = some xs[i] := List.getElem?_eq_getElem (by omega)
      have gy : ys[i]? = some ys[i] := List.getElem?_eq_getElem (by omega)
      obtain ⟨d1, e1, a1⟩ := paired_get p1 gx
      obtain ⟨d2, e2, a2⟩ := paired_get p2 gy
      rw [e1] at e2
      cases e2
      refine yesT (iteT ?_)
      refine ⟨_, rfl, _, rfl, ix_any (sq hp) gx ?_⟩
      refine ⟨_, rfl, _, rfl, ix_any (sq hq) gy ?_⟩
      refine ⟨_, _, d1, m, rfl, ek, a1.same g, a2.same g, fun H2 g2 => ?_⟩
      refine ⟨g2 _ _ h1, by rw [List.length_map, List.length_replicate]; exact small1000 (by omega), fun b o e => ?_, upd_same, ?_⟩
      · rw [upd_ne (ne_of_none e hD)]
        exact g2 b o (g b o e)
      · rw [List.replicate_succ', List.map_append]
        rfl
    · rintro zs H1 ⟨g, h1, e⟩
      refine ⟨D, _, rfl, SqL.of (by rw [h1, e]), ?_⟩
      rw [all_true]
      exact q H1 g
  · refine ⟨_, rfl, rfl, _, rfl, ?_⟩
    refine ite2 (fun c => ?_) (fun c => absurd (dec_self _) c)
    exact ⟨_, rfl, rfl, q H (Same.refl H)⟩
  · refine ⟨_, rfl, rfl, _, rfl, ?_⟩
    refine ite2 (fun c => absurd (of_decide_eq_true c) (fun z => nomatch z)) (fun _ => nextE ?_)
    refine ⟨_, rfl, _, _, _, true, rfl, .bl b, kit_bb, _, rfl, iteT ?_⟩
    refine ⟨_, rfl, _, _, _, true, rfl, .bl b, kit_bb, _, rfl, iteT ?_⟩
    refine ⟨_, rfl, _, rfl, rfl, ?_⟩
    rw [dec_self]
    exact q H (Same.refl H)
  · refine ⟨_, rfl, rfl, _, rfl, ?_⟩
    refine ite2 (fun c => absurd (of_decide_eq_true c) (fun z => nomatch z)) (fun _ => nextE ?_)
    refine ⟨_, rfl, _, _, _, false, rfl, .int i, kit_ib, _, rfl, iteF (nextE ?_)⟩
    refine ⟨_, rfl, _, _, _, true, rfl, .int i, kit_ii, _, rfl, iteT ?_⟩
    refine ⟨_, rfl, _, _, _, true, rfl, .int i, kit_ii, _, rfl, iteT ?_⟩
    refine ⟨_, rfl, _, _, _, false, rfl, .int i, kit_ib, _, rfl, _, rfl, iteT ?_⟩
    refine ⟨_, rfl, _, rfl, rfl, ?_⟩
    rw [dec_self]
    exact q H (Same.refl H)
  · refine ⟨_, rfl, rfl, _, rfl, ?_⟩
    refine ite2 (fun c => absurd (of_decide_eq_true c) (fun z => nomatch z)) (fun _ => nextE ?_)
    refine ⟨_, rfl, _, _, _, false, rfl, .str z, kit_sb, _, rfl, iteF (nextE ?_)⟩
    refine ⟨_, rfl, _, _, _, false, rfl, .str z, kit_si, _, rfl, iteF (nextE ?_)⟩
    refine ⟨_, rfl, _, _, _, true, rfl, .str z, kit_ss, _, rfl, iteT ?_⟩
    refine ⟨_, rfl, _, _, _, true, rfl, .str z, kit_ss, _, rfl, iteT ?_⟩
    refine ⟨_, rfl, _, rfl, rfl, ?_⟩
    rw [dec_self]
    exact q H (Same.refl H)
theorem same_none : FnOk P w K mg base CX0 0 f fd ["_law_found", "_law_due"] (spSame 0) := by
  have no : ∀ vs H Q E, ¬ spSame 0 vs H Q E := fun vs H Q E h => by
    obtain ⟨_, _, _, _, _, z, _⟩ := h
    omega
  exact ⟨fun vs H Q E h => absurd h (no vs H Q E), fun A outer s H args us vs Q E _ _ _ _ h => absurd h (no vs H Q E)⟩
theorem ok_same (F : Fun K "_law_same" "_law_same" s_law_same f fd) (bS : Binds K fd ["_law_found", "_law_due"] []) (kS : PySem.W.keepIn K (.ref f) = true) (m : mg "_law_same" = some (.ref f)) (bl : Bl mg) :
    ∀ n : Nat, FnOk P w K mg base CX0 n f fd ["_law_found", "_law_due"] (spSame n)
  | 0 => same_none
  | n + 1 => ok_same1 F ⟨f, fd, ok_same F bS kS m bl n, bS, kS, m⟩ bl
end
def spIs (K : PySem.W.Frag) : Sp := fun vs H Q _ => ∃ (p : Addr) (ns : List Int), vs = [.ref p] ∧ Row K H p ns ∧ ns.length < 64 ∧ ∀ H', Same H H' → Q (.bl (full ns)) H'
def aft (ys xs : List Int) : List Int := xs.map fun x => ys.getD x.toNat 0
theorem full_in {ys : List Int} (h : full ys = true) {x : Int} (hx : x ∈ ys) : 0 ≤ x ∧ x < ys.length := by
  have hm := (full_perm h).subset hx
  unfold upto at hm
  obtain ⟨i, hi, rfl⟩ := List.mem_map.mp hm
  have := List.mem_range.mp hi
  omega
section
variable {P : Program} {w : World} {K : PySem.W.Frag} {mg : Str → Option Value} {base : Heap} {f c : Addr} {fd : FuncData}
theorem sc_is_turn : FnScope ["row"] ["row"] (defScope s_is_turn) := ⟨rfl, rfl, rfl, by decide +kernel, rfl, by decide +kernel, by decide +kernel⟩
theorem ok_is_turn (F : Fun K "is_turn" "is_turn" s_is_turn f fd) (bl : Bl mg) : FnOk P w K mg base CX0 1 f fd ["row"] (spIs K) := by
  refine F.ok sc_is_turn (fun vs H Q E h => ?_) (fun cdv A outer s H vs Q E hr h => ?_)
  · obtain ⟨p, ns, rfl, _⟩ := h
    rfl
  obtain ⟨p, ns, rfl, hR, h64, q⟩ := h
  have hu := hr.units0
  refine ⟨_, (pss_cons (ps_if (pt_val (pe_callB (anyK (K := K) rfl rfl) rfl bl.n_any bt_any (pa_cons (pe_comp (x := "number") (fr := []) (cl := []) rfl ⟨by with_unfolding_all rfl, trivial, rfl, by decide +kernel, rfl, by decide +kernel, rfl, trivial, by decide +kernel⟩ (pi_seq (pv 0)) (fun _ _ _ _ => ptl_nil) (fun _ _ _ _ => (pe_callB (isinstK (K := K) rfl) rfl bl.n_isinstance bt_isinstance (pa_cons (pv 0) (pa_cons (pe_ty rfl bl.n_bool bt_bool) pa_nil))))) pa_nil))) (pss_one (ps_ret pe_bl)) pss_nil) (pss_one (ps_ret (pe_cmpR (op_eqL hu) (pe_callB (sortedK (K := K) rfl) rfl bl.n_sorted bt_sorted (pa_cons (pv 0) pa_nil)) (pe_callTy (call_list_rng rfl) rfl bl.n_list bt_list (pa_cons (pe_callTy call_range1 rfl bl.n_range bt_range (pa_cons (pe_callB (lenK (K := K) rfl) rfl bl.n_len bt_len (pa_cons (pv 0) pa_nil)) pa_nil)) pa_nil)) (nomark _))))), ?_⟩
  have hl : (ns.map V.int).length = ns.length := List.length_map _
  have rest : ∀ (D : Addr) (H1 : Hp), Same H H1 → H1 D = some (.lst ((List.replicate ns.length false).map V.bl)) →
      ∃ (p_1 : Addr) (bs : List Bool), [V.ref D] = [V.ref p_1] ∧ SqL K H1 p_1 (bs.map V.bl) ∧ tB (tC (V.bl (bs.any id))) [] H1 (fun c H2 => if c = true then Q (.bl false) H2 else
        (tFull K false (tVar 0)) [some (.ref p)] H2 Q) := fun D H1 g1 h1 => by
    refine ⟨D, _, rfl, SqL.of h1, _, rfl, ?_⟩
    rw [any_false]
    refine iteF ?_
    exact full_ask rfl (Row.same g1 hR) h64 fun H' g => q H' (g1.trans g)
  have turn : ∀ (D : Addr), H D = none → ∀ (i : Nat) (v : V) (ys : List V) (H1 : Hp), (ns.map V.int)[i]? = some v → (Same H H1 ∧ H1 D = some (.lst ys) ∧ ys = (List.replicate i false).map V.bl) →
      tCB (rIsi K) (tCons (tVar 0) (tCons (tC (V.ty "bool")) tNil)) [some v] H1 fun y H3 => H3 D = some (.lst ys) ∧ ys.length < sizeLine ∧
        (Same H (upd H3 D (.lst (ys ++ [y]))) ∧ upd H3 D (.lst (ys ++ [y])) D = some (.lst (ys ++ [y])) ∧ ys ++ [y] = (List.replicate (i + 1) false).map V.bl) := fun D hD i v ys H1 hi ⟨g, h1, e⟩ => by
    obtain ⟨z, rfl, hz⟩ := get_int hi
    have hil : i < ns.length := (List.getElem?_eq_some_iff.mp hz).1
    refine ⟨_, rfl, _, _, _, false, rfl, .int z, kit_ib, h1, ?_, fun b o q => ?_, upd_same, ?_⟩
    · rw [e, List.length_map, List.length_replicate]
      exact small1000 (by omega)
    · rw [upd_ne (ne_of_none q hD)]
      exact g b o q
    · rw [e, List.replicate_succ', List.map_append]
      rfl
  refine ⟨_, rfl, p, rfl, ?_⟩
  rcases hR with hR' | hR'
  · refine .inl ⟨⟨_, hR'⟩, fun D hD => comp_list (xs := ns.map V.int) (fun i ys H1 => Same H H1 ∧ H1 D = some (.lst ys) ∧ ys = (List.replicate i false).map V.bl) ⟨same_new hD _, upd_same, rfl⟩ (fun i ys H1 _ ⟨g, _, _⟩ => g.seq hR') (fun i v ys H1 hi h => yesT (iteT (turn D hD i v ys H1 hi h))) ?_⟩
    rintro ys H1 ⟨g, h1, e⟩
    exact rest D H1 g (by rw [h1, e, hl])
  · refine .inr ⟨⟨_, hR'⟩, fun D hD => comp_tup (xs := ns.map V.int) (fun i ys H1 => Same H H1 ∧ H1 D = some (.lst ys) ∧ ys = (List.replicate i false).map V.bl) ⟨same_new hD _, upd_same, rfl⟩ (fun i ys H1 _ ⟨g, _, _⟩ => g.sqt hR') (fun i v ys H1 hi h => yesT (iteT (turn D hD i v ys H1 hi h))) ?_⟩
    rintro ys H1 ⟨g, h1, e⟩
    exact rest D H1 g (by rw [h1, e, hl])
end
def spFol (K : PySem.W.Frag) : Sp := fun vs H Q _ => ∃ (a b : Addr) (xs ys : List Int), vs = [.ref a, .ref b] ∧ SqT K H a (xs.map V.int) ∧ SqT K H b (ys.map V.int) ∧ (∀ x ∈ xs, 0 ≤ x ∧ x < ys.length) ∧ xs.length < 64 ∧
  ∀ (t : Addr) (H' : Hp), H t = none → Same H H' → H' t = some (.tup ((aft ys xs).map V.int)) → Q (.ref t) H'
section
variable {P : Program} {w : World} {K : PySem.W.Frag} {mg : Str → Option Value} {base : Heap} {f : Addr} {fd : FuncData}
theorem sc_followed : FnScope ["first", "then"] ["first", "then"] (defScope s_followed) := ⟨rfl, rfl, rfl, by decide +kernel, rfl, by decide +kernel, by decide +kernel⟩
theorem ok_followed (F : Fun K "followed" "followed" s_followed f fd) (bl : Bl mg) : FnOk P w K mg base CX0 1 f fd ["first", "then"] (spFol K) := by
  refine F.ok sc_followed (fun vs H Q E h => ?_) (fun cdv A outer s H vs Q E hr h => ?_)
  · obtain ⟨a, b, xs, ys, rfl, _⟩ := h
    rfl
  obtain ⟨a, b, xs, ys, rfl, hA, hB, hin, hl, q⟩ := h
  have al : (aft ys xs).length = xs.length := by unfold aft; rw [List.length_map]
  refine ⟨_, (pss_one (ps_ret (pe_callTy (call_tuple_of) rfl bl.n_tuple bt_tuple (pa_cons (pe_comp (x := "section") (fr := [("then", 1)]) (cl := [("then", s.heap.objs.size + 1)]) rfl ⟨by with_unfolding_all rfl, ⟨rfl, trivial⟩, rfl, by decide +kernel, rfl, by decide +kernel, rfl, ⟨⟨rfl, .inl rfl, .inl rfl, rfl⟩, trivial⟩, by decide +kernel⟩ (pi_tup (pv 0)) (fun _ _ _ _ => ptl_nil) (fun _ _ _ _ => (pe_ix (ix_tupK (K := K) rfl) (pv 1) (pv 0) (fun _ _ => rfl)))) pa_nil)))), ?_⟩
  refine ⟨_, rfl, a, rfl, ⟨_, hA⟩, fun D hD => comp_tup (xs := xs.map V.int) (fun i zs H3 => Same H H3 ∧ H3 D = some (.lst zs) ∧ zs = ((aft ys xs).take i).map V.int) ⟨same_new hD _, upd_same, rfl⟩ (fun i zs H3 _ ⟨g3, _, _⟩ => g3.sqt hA) ?_ ?_⟩
  · rintro i v zs H3 hi ⟨g3, h3, e3⟩
    obtain ⟨z, rfl, hz⟩ := get_int hi
    have hil : i < xs.length := (List.getElem?_eq_some_iff.mp hz).1
    have bz := hin z (List.mem_of_getElem? hz)
    refine yesT (iteT ⟨_, rfl, _, rfl, b, _, _, _, rfl, rfl, g3.sqt hB, atI_in bz.1 bz.2, h3, ?_, fun d o qd => ?_, upd_same, ?_⟩)
    · rw [e3, List.length_map, List.length_take, al]
      exact small1000 (by omega)
    · rw [upd_ne (ne_of_none qd hD)]
      exact g3 d o qd
    · rw [e3, List.take_add_one, snoc_int']
      unfold aft
      rw [List.getElem?_map, hz]
      rfl
  · rintro zs H3 ⟨g3, h3, e3⟩
    refine ⟨D, _, rfl, .inl ⟨SqL.of h3, fun t ht => q t _ (g3.free ht) (g3.trans (same_new ht _)) ?_⟩⟩
    show upd H3 t (.tup zs) t = _
    rw [upd_same, e3, List.length_map, List.take_of_length_le (by rw [al]; omega)]
end
def ixOf (x : Int) : List Int → Nat
  | [] => 0
  | y :: r => if y = x then 0 else ixOf x r + 1
theorem ixOf_get {x : Int} : ∀ {l : List Int}, x ∈ l → l[ixOf x l]? = some x ∧ ∀ m, m < ixOf x l → l[m]? ≠ some x
  | [], h => by cases h
  | y :: r, h => by
    unfold ixOf
    by_cases e : y = x
    · rw [if_pos e]
      exact ⟨by rw [e]; rfl, fun m hm => absurd hm (Nat.not_lt_zero _)⟩
    · rw [if_neg e]
      have hx : x ∈ r := (List.mem_cons.mp h).resolve_left fun z => e z.symm
      obtain ⟨h1, h2⟩ := ixOf_get hx
      refine ⟨by rw [List.getElem?_cons_succ]; exact h1, fun m hm => ?_⟩
      cases m with
      | zero => exact fun z => e (Option.some.inj z)
      | succ m => rw [List.getElem?_cons_succ]; exact h2 m (by omega)
def inv (xs : List Int) : List Int := (upto xs.length).map fun i => (ixOf i xs : Int)
theorem inv_length (xs : List Int) : (inv xs).length = xs.length := by unfold inv; rw [List.length_map, upto_length]
theorem inv_get {xs : List Int} {i : Nat} (h : i < xs.length) : (inv xs)[i]? = some (ixOf (i : Int) xs : Int) := by
  unfold inv
  rw [List.getElem?_map, upto_get h]
  rfl
theorem full_mem {xs : List Int} (h : full xs = true) {i : Nat} (hi : i < xs.length) : (i : Int) ∈ xs := (full_perm h).symm.subset (List.mem_of_getElem? (upto_get hi))
theorem inv_take {xs : List Int} {i : Nat} (hi : i < xs.length) : (inv xs).take (i + 1) = (inv xs).take i ++ [(ixOf (i : Int) xs : Int)] := by
  rw [List.take_add_one, inv_get hi]
  rfl
def spTb : Sp := fun vs H Q _ => ∃ (a : Addr) (xs : List Int), vs = [.ref a] ∧ H a = some (.tup (xs.map V.int)) ∧ xs.length < 64 ∧ full xs = true ∧
  ∀ (t : Addr) (H' : Hp), H t = none → Same H H' → H' t = some (.tup ((inv xs).map V.int)) → Q (.ref t) H'
section
variable {P : Program} {w : World} {K : PySem.W.Frag} {mg : Str → Option Value} {base : Heap} {f : Addr} {fd : FuncData}
theorem sc_turned_back : FnScope ["turn"] ["turn"] (defScope s_turned_back) := ⟨rfl, rfl, rfl, by decide +kernel, rfl, by decide +kernel, by decide +kernel⟩
theorem ok_turned_back (F : Fun K "turned_back" "turned_back" s_turned_back f fd) (bl : Bl mg) : FnOk P w K mg base CX0 1 f fd ["turn"] spTb := by
  refine F.ok sc_turned_back (fun vs H Q E h => ?_) (fun cdv A outer s H1 vs Q E hr h => ?_)
  · obtain ⟨a, xs, rfl, _⟩ := h
    rfl
  obtain ⟨a, xs, rfl, hA, lx, fx, q⟩ := h
  refine ⟨_, (pss_one (ps_ret (pe_callTy (call_tuple_of) rfl bl.n_tuple bt_tuple (pa_cons (pe_comp (x := "section") (fr := [("turn", 0)]) (cl := [("turn", s.heap.objs.size + 1)]) rfl ⟨by with_unfolding_all rfl, ⟨rfl, trivial⟩, rfl, by decide +kernel, rfl, by decide +kernel, rfl, ⟨⟨rfl, .inl rfl, .inl rfl, rfl⟩, trivial⟩, by decide +kernel⟩ (pi_range1 rfl bl.n_range (pa_cons (pe_callB (lenK (K := K) rfl) rfl bl.n_len bt_len (pa_cons (pv 0) pa_nil)) pa_nil)) (fun _ _ _ _ => ptl_nil) (fun _ _ _ _ => (pe_tupindex (pv 1) (pa_cons (pv 0) pa_nil)))) pa_nil)))), ?_⟩
  have el : (xs.map V.int).length = xs.length := List.length_map _
  refine ⟨_, rfl, a, _, rfl, .inr (SqT.of hA), _, rfl, by rw [el]; omega, by rw [el]; omega, fun D hD => comp_range (lo := 0) (n := (((xs.map V.int).length : Nat) : Int).toNat)
      (fun i zs H2 => Same H1 H2 ∧ H2 D = some (.lst zs) ∧ zs = ((inv xs).take i).map V.int) ⟨same_new hD _, upd_same, rfl⟩ ?_ ?_⟩
  · rintro i zs H2 hi ⟨g2, h2, e2⟩
    rw [Int.toNat_natCast, el] at hi
    rw [Int.zero_add]
    have hx := ixOf_get (full_mem fx hi)
    have h2A := g2 _ _ hA
    refine yesT (iteT ⟨_, rfl, a, xs, rfl, h2A, _, rfl, (i : Int), ixOf (i : Int) xs, rfl, h2A, hx.1, hx.2, h2, ?_, fun d o qd => ?_, upd_same, ?_⟩)
    · rw [e2, List.length_map, List.length_take, inv_length]
      exact small1000 (by omega)
    · rw [upd_ne (ne_of_none qd hD)]
      exact g2 d o qd
    · rw [e2, inv_take hi, List.map_append]
      rfl
  · rintro zs H2 ⟨g2, h2, e2⟩
    refine ⟨D, _, rfl, .inl ⟨SqL.of h2, fun t ht => q t _ (g2.free ht) (g2.trans (same_new ht _)) ?_⟩⟩
    rw [upd_same, e2, Int.toNat_natCast, el, List.take_of_length_le (by rw [inv_length]; omega)]
end
def spStill : Sp := fun vs H Q _ => ∃ n : Nat, vs = [.int (n : Int)] ∧ n ≤ 1000 ∧ ∀ (t : Addr) (H' : Hp), H t = none → Same H H' → H' t = some (.tup ((upto n).map V.int)) → Q (.ref t) H'
section
variable {P : Program} {w : World} {K : PySem.W.Frag} {mg : Str → Option Value} {base : Heap} {f c : Addr} {fd : FuncData}
theorem sc_still : FnScope ["size"] ["size"] (defScope s_still) := ⟨rfl, rfl, rfl, by decide +kernel, rfl, by decide +kernel, by decide +kernel⟩
theorem ok_still (F : Fun K "still" "still" s_still f fd) (bl : Bl mg) : FnOk P w K mg base CX0 1 f fd ["size"] spStill := by
  refine F.ok sc_still (fun vs H Q E h => ?_) (fun cdv A outer s H vs Q E hr h => ?_)
  · obtain ⟨n, rfl, _⟩ := h
    rfl
  obtain ⟨n, rfl, hn, q⟩ := h
  refine ⟨_, (pss_one (ps_ret (pe_callTy (call_tuple_rng rfl) rfl bl.n_tuple bt_tuple (pa_cons (pe_callTy call_range1 rfl bl.n_range bt_range (pa_cons (pv 0) pa_nil)) pa_nil)))), ?_⟩
  exact ⟨_, rfl, _, rfl, fun r hr' => ⟨r, n, rfl, upd_same, hn, fun t ht => q t _ ((same_new hr' _).free ht) ((same_new hr' _).trans (same_new ht _)) upd_same⟩⟩
end
def spChk (K : PySem.W.Frag) : Sp := fun vs H Q _ => ∃ (p : Addr) (ns : List Int), vs = [.ref p] ∧ SqT K H p (ns.map V.int) ∧ ns.length < 64 ∧ full ns = true ∧ ∀ H', Same H H' → Q .non H'
def spBe (K : PySem.W.Frag) : Sp := fun vs H Q _ => ∃ (a b : Addr) (xs ys : List Int), vs = [.ref a, .ref b] ∧ SqT K H a (xs.map V.int) ∧ SqT K H b (ys.map V.int) ∧ xs.length < 64 ∧ full xs = true ∧ full ys = true ∧ xs.length = ys.length ∧
  ∀ (t : Addr) (H' : Hp), H t = none → Same H H' → H' t = some (.tup ((aft ys xs).map V.int)) → Q (.ref t) H'
def spBk : Sp := fun vs H Q _ => ∃ (a : Addr) (xs : List Int), vs = [.ref a] ∧ H a = some (.tup (xs.map V.int)) ∧ xs.length < 64 ∧ full xs = true ∧
  ∀ (t : Addr) (H' : Hp), H t = none → Same H H' → H' t = some (.tup ((inv xs).map V.int)) → Q (.ref t) H'
def spRows (K : PySem.W.Frag) : Sp := fun vs H Q _ => ∃ (l a0 : Addr) (as : List Addr) (n : Nat), vs = [.ref l] ∧ SqL K H l ((a0 :: as).map V.ref) ∧ 2 ≤ n ∧ n ≤ 8 ∧ (∀ a ∈ a0 :: as, ∃ xs : List Int, SqT K H a (xs.map V.int) ∧ xs.length = n ∧ full xs = true) ∧ ∀ H', Same H H' → Q .non H'
def spParents (K : PySem.W.Frag) : Sp := fun vs H Q _ => ∃ (m f w : Addr) (xs ys : List Int), vs = [.ref m, .ref f, .ref w] ∧ SqT K H m (xs.map V.int) ∧ SqT K H f ((aft xs ys).map V.int) ∧ SqT K H w (ys.map V.int) ∧ full xs = true ∧ full ys = true ∧ xs.length = ys.length ∧ xs.length ≤ 8 ∧ ∀ H', Same H H' → Q .non H'
theorem aft_length (xs ys : List Int) : (aft xs ys).length = ys.length := by unfold aft; rw [List.length_map]
theorem aft_full {xs ys : List Int} (fx : full xs = true) (fy : full ys = true) (e : xs.length = ys.length) : full (aft xs ys) = true := by
  have px := full_perm fx
  have py := full_perm fy
  have p1 : (aft xs ys).Perm ((upto ys.length).map fun x => xs.getD x.toNat 0) := py.map _
  have e2 : ((upto ys.length).map fun x => xs.getD x.toNat 0) = xs := by
    refine List.ext_getElem? fun i => ?_
    rw [List.getElem?_map]
    by_cases hi : i < ys.length
    · rw [upto_get hi]
      show some (xs.getD ((i : Int)).toNat 0) = xs[i]?
      rw [Int.toNat_natCast, List.getD_eq_getElem?_getD, List.getElem?_eq_getElem (by omega)]
      rfl
    · rw [List.getElem?_eq_none (by rw [upto_length]; omega), List.getElem?_eq_none (by omega)]
      rfl
  rw [e2] at p1
  exact full_of (p1.trans px)
abbrev LandF (n : Nat) (m f w d : Addr) : List (Str × V) := [("size", .int (n : Int)), ("mother", .ref m), ("father", .ref f), ("wife", .ref w), ("steps", .ref d)]
abbrev StepsF (m f w im jf iw st : Addr) : List (Key × V) := [(.inr "c", .ref m), (.inr "k", .ref f), (.inr "w", .ref w), (.inr "m", .ref im), (.inr "f", .ref jf), (.inr "h", .ref iw), (.inr "s", .ref st)]
def tupA (H : Hp) (a : Addr) (ns : List Int) : Prop := H a = some (.tup (ns.map V.int))
def LandAt (H : Hp) (C L : Addr) (xs ys : List Int) : Prop := ∃ dx d m f w im jf iw st : Addr, H L = some (.ins C dx (LandF xs.length m f w d)) ∧ H d = some (.dK (StepsF m f w im jf iw st)) ∧
  tupA H m xs ∧ tupA H f (aft xs ys) ∧ tupA H w ys ∧ tupA H im (inv xs) ∧ tupA H jf (inv (aft xs ys)) ∧ tupA H iw (inv ys) ∧ tupA H st (upto xs.length)
def spInit (C : Addr) : Sp := fun vs H Q _ => ∃ (x dx m f w : Addr) (xs ys : List Int), vs = [.ref x, .ref m, .ref f, .ref w] ∧ H x = some (.ins C dx []) ∧ tupA H m xs ∧ tupA H f (aft xs ys) ∧ tupA H w ys ∧ full xs = true ∧ full ys = true ∧ xs.length = ys.length ∧ 2 ≤ xs.length ∧ xs.length ≤ 8 ∧
  ∀ H', (∀ b o, H b = some o → b ≠ x → H' b = some o) → LandAt H' C x xs ys → Q .non H'
def spLandOf (C : Addr) : Sp := fun vs H Q _ => ∃ (m w : Addr) (xs ys : List Int), vs = [.ref m, .ref w] ∧ tupA H m xs ∧ tupA H w ys ∧ full xs = true ∧ full ys = true ∧ xs.length = ys.length ∧ 2 ≤ xs.length ∧ xs.length ≤ 8 ∧
  ∀ (L : Addr) (H' : Hp), Same H H' → LandAt H' C L xs ys → Q (.ref L) H'
structure LandC (K : PySem.W.Frag) (C : Addr) : Prop where
  cls : Cls K C
  n_size : NoAttr K C "size"
  n_mother : NoAttr K C "mother"
  n_father : NoAttr K C "father"
  n_wife : NoAttr K C "wife"
  n_steps : NoAttr K C "steps"
section
variable {P : Program} {w : World} {K : PySem.W.Frag} {mg : Str → Option Value} {base : Heap} {f c C : Addr} {fd : FuncData}
theorem sc_check_turn : FnScope ["row"] ["row"] (defScope s_check_turn) := ⟨rfl, rfl, rfl, by decide +kernel, rfl, by decide +kernel, by decide +kernel⟩
theorem ok_chk (F : Fun K "check_turn" "check_turn" s_check_turn f fd) (h_is_turn : HasFn P w K mg base 1 "is_turn" ["row"] (spIs K)) : FnOk P w K mg base CX0 2 f fd ["row"] (spChk K) := by
  refine F.ok sc_check_turn (fun vs H Q E h => ?_) (fun cdv A outer s H vs Q E hr h => ?_)
  · obtain ⟨p, ns, rfl, _⟩ := h
    rfl
  obtain ⟨p, ns, rfl, hT, h64, fl, q⟩ := h
  refine ⟨_, (pss_one (ps_if (pt_not (pt_val (pe_fn h_is_turn hr (by omega) rfl (pa_cons (pv 0) pa_nil)))) pss_never pss_nil)), ?_⟩
  refine ⟨_, rfl, p, ns, rfl, .inr hT, h64, fun H1 g => ⟨_, rfl, ?_⟩⟩
  rw [fl]
  exact iteF (q H1 g)
theorem sc_behind : FnScope ["first", "then"] ["first", "then"] (defScope s_behind) := ⟨rfl, rfl, rfl, by decide +kernel, rfl, by decide +kernel, by decide +kernel⟩
theorem ok_be (F : Fun K "behind" "behind" s_behind f fd) (h_check_turn : HasFn P w K mg base 2 "check_turn" ["row"] (spChk K)) (h_followed : HasFn P w K mg base 1 "followed" ["first", "then"] (spFol K)) (bl : Bl mg) : FnOk P w K mg base CX0 3 f fd ["first", "then"] (spBe K) := by
  refine F.ok sc_behind (fun vs H Q E h => ?_) (fun cdv A outer s H vs Q E hr h => ?_)
  · obtain ⟨a, b, xs, ys, rfl, _⟩ := h
    rfl
  obtain ⟨a, b, xs, ys, rfl, hA, hB, lx, fx, fy, eq, q⟩ := h
  refine ⟨_, (pss_cons (ps_expr (pe_fn h_check_turn hr (by omega) rfl (pa_cons (pv 0) pa_nil))) (pss_cons (ps_expr (pe_fn h_check_turn hr (by omega) rfl (pa_cons (pv 1) pa_nil))) (pss_cons (ps_if (pt_cmpR op_ne (pe_callB (lenK (K := K) rfl) rfl bl.n_len bt_len (pa_cons (pv 0) pa_nil)) (pe_callB (lenK (K := K) rfl) rfl bl.n_len bt_len (pa_cons (pv 1) pa_nil)) (nomark _)) pss_never pss_nil) (pss_one (ps_ret (pe_fn h_followed hr (by omega) rfl (pa_cons (pv 0) (pa_cons (pv 1) pa_nil)))))))), ?_⟩
  refine ⟨_, rfl, a, xs, rfl, hA, lx, fx, fun H1 g1 => ?_⟩
  refine ⟨_, rfl, b, ys, rfl, g1.sqt hB, by omega, fy, fun H2 g2 => ?_⟩
  have g := g1.trans g2
  have hA2 := g.sqt hA
  have hB2 := g.sqt hB
  have el : ∀ zs : List Int, (zs.map V.int).length = zs.length := fun zs => List.length_map _
  refine ⟨_, rfl, a, _, rfl, .inr hA2, _, rfl, b, _, rfl, .inr hB2, rfl, _, rfl, iteNS (by rw [el, el, eq]) (nextE ?_)⟩
  exact ⟨_, rfl, _, rfl, a, b, xs, ys, rfl, hA2, hB2, fun z hz => by rw [← eq]; exact full_in fx hz, lx, fun t H3 nt g3 ht => q t H3 (g.free nt) (g.trans g3) ht⟩
theorem sc_back : FnScope ["turn"] ["turn"] (defScope s_back) := ⟨rfl, rfl, rfl, by decide +kernel, rfl, by decide +kernel, by decide +kernel⟩
theorem ok_bk (F : Fun K "back" "back" s_back f fd) (h_check_turn : HasFn P w K mg base 2 "check_turn" ["row"] (spChk K)) (h_turned_back : HasFn P w K mg base 1 "turned_back" ["turn"] spTb) (bl : Bl mg) : FnOk P w K mg base CX0 3 f fd ["turn"] spBk := by
  refine F.ok sc_back (fun vs H Q E h => ?_) (fun cdv A outer s H vs Q E hr h => ?_)
  · obtain ⟨a, xs, rfl, _⟩ := h
    rfl
  obtain ⟨a, xs, rfl, hA, lx, fx, q⟩ := h
  refine ⟨_, (pss_cons (ps_expr (pe_fn h_check_turn hr (by omega) rfl (pa_cons (pv 0) pa_nil))) (pss_one (ps_ret (pe_fn h_turned_back hr (by omega) rfl (pa_cons (pv 0) pa_nil))))), ?_⟩
  refine ⟨_, rfl, a, xs, rfl, SqT.of hA, lx, fx, fun H1 g1 => ?_⟩
  exact ⟨_, rfl, a, xs, rfl, g1 _ _ hA, lx, fx, fun t H2 nt g2 ht => q t H2 (g1.free nt) (g1.trans g2) ht⟩
theorem sc_check_rows : FnScope ["rows", "size", "row"] ["rows"] (defScope s_check_rows) := ⟨rfl, rfl, rfl, by decide +kernel, rfl, by decide +kernel, by decide +kernel⟩
theorem ok_rows (F : Fun K "check_rows" "check_rows" s_check_rows f fd) (h_is_turn : HasFn P w K mg base 1 "is_turn" ["row"] (spIs K)) {t1 t2 : Tok} (m_LEAST_SIZE : mg "LEAST_SIZE" = some (.int 2 t1)) (m_MOST_SIZE : mg "MOST_SIZE" = some (.int 8 t2)) (bl : Bl mg) : FnOk P w K mg base CX0 2 f fd ["rows"] (spRows K) := by
  refine F.ok sc_check_rows (fun vs H Q E h => ?_) (fun cdv A outer s H vs Q E hr h => ?_)
  · obtain ⟨l, a0, as, n, rfl, _⟩ := h
    rfl
  obtain ⟨l, a0, as, n, rfl, hL, n2, n8, rows, q⟩ := h
  refine ⟨_, (pss_cons (ps_set (i := 1) sc_check_rows.nd rfl (Or.inl rfl) (pe_callB (lenK (K := K) rfl) rfl bl.n_len bt_len (pa_cons (pe_ix (ix_listK (K := K) rfl) (pv 0) pe_int (fun _ _ => rfl)) pa_nil))) (pss_cons (ps_if (PW.pt (pw_or (pt_cmpR op_lt (pv 1) (pe_glob (v := .int 2) rfl m_LEAST_SIZE ⟨_, rfl⟩) (nomark _)) (pw_or1 (pt_cmpR op_gt (pv 1) (pe_glob (v := .int 8) rfl m_MOST_SIZE ⟨_, rfl⟩) (nomark _))))) pss_never pss_nil) (pss_one (ps_for PassesOwn.never rfl (pi_list (pv 0)) (pg_name (i := 2) sc_check_rows.nd rfl (Or.inl rfl)) (pss_one (ps_if (PW.pt (pw_or (pt_cmpR op_ne (pe_callB (lenK (K := K) rfl) rfl bl.n_len bt_len (pa_cons (pv 2) pa_nil)) (pv 1) (nomark _)) (pw_or1 (pt_not (pt_val (pe_fn h_is_turn hr (by omega) rfl (pa_cons (pv 2) pa_nil))))))) pss_never pss_nil)))))), ?_⟩
  have el : ∀ zs : List Int, (zs.map V.int).length = zs.length := fun zs => List.length_map _
  obtain ⟨x0, h0, l0, f0⟩ := rows a0 List.mem_cons_self
  refine ⟨_, rfl, l, _, 0, .ref a0, rfl, rfl, hL, atI_nat (j := 0) rfl, a0, _, rfl, .inr h0, ?_⟩
  rw [el, l0]
  refine ⟨_, rfl, _, _, rfl, rfl, _, rfl, ite2 (fun cc => absurd (of_decide_eq_true cc) (by omega)) (fun _ => ?_)⟩
  refine ⟨_, rfl, _, _, rfl, rfl, _, rfl, ite2 (fun cc => absurd (of_decide_eq_true cc) (by omega)) (fun _ => nextE ?_)⟩
  refine ⟨_, rfl, l, rfl, ⟨_, hL⟩, for_list (xs := (a0 :: as).map V.ref) (fun i σ H1 => Same H H1 ∧ ∃ o2 : Option V, σ = [some (.ref l), some (.int (n : Int)), o2]) ⟨Same.refl _, none, rfl⟩ (fun i σ H1 _ ⟨g, _⟩ => g.seq hL) ?_ ?_⟩
  · rintro i v σ H1 hi ⟨g, o2, rfl⟩
    rw [List.getElem?_map] at hi
    obtain ⟨a, ha, rfl⟩ : ∃ a, a ∈ a0 :: as ∧ V.ref a = v := by
      cases e : (a0 :: as)[i]? with
      | none => rw [e] at hi; cases hi
      | some a => rw [e] at hi; exact ⟨a, List.mem_of_getElem? e, Option.some.inj hi⟩
    obtain ⟨xs, hx, lx, fx⟩ := rows a ha
    refine ⟨_, rfl, a, _, rfl, .inr (g.sqt hx), _, rfl, rfl, _, rfl, iteNS (by rw [el, lx]) ?_⟩
    refine ⟨_, rfl, a, xs, rfl, .inr (g.sqt hx), by omega, fun H2 g2 => ⟨_, rfl, ?_⟩⟩
    rw [fx]
    exact iteF (nextE ⟨g.trans g2, _, rfl⟩)
  · rintro σ H1 ⟨g, o2, rfl⟩
    exact q H1 g
theorem sc_check_parents : FnScope ["mother", "father", "wife", "by_mothers", "section"] ["mother", "father", "wife"] (defScope s_check_parents) := ⟨rfl, rfl, rfl, by decide +kernel, rfl, by decide +kernel, by decide +kernel⟩
theorem ok_parents (F : Fun K "check_parents" "check_parents" s_check_parents f fd) (h_behind : HasFn P w K mg base 3 "behind" ["first", "then"] (spBe K)) (bl : Bl mg) : FnOk P w K mg base CX0 4 f fd ["mother", "father", "wife"] (spParents K) := by
  refine F.ok sc_check_parents (fun vs H Q E h => ?_) (fun cdv A outer s H vs Q E hr h => ?_)
  · obtain ⟨m, fa, wi, xs, ys, rfl, _⟩ := h
    rfl
  obtain ⟨m, fa, wi, xs, ys, rfl, hM, hF, hW, fx, fy, eq, l8, q⟩ := h
  refine ⟨_, (pss_cons (ps_set (i := 3) sc_check_parents.nd rfl (Or.inl rfl) (pe_fn h_behind hr (by omega) rfl (pa_cons (pv 2) (pa_cons (pv 0) pa_nil)))) (pss_one (ps_for PassesOwn.never rfl (pi_range1 rfl bl.n_range (pa_cons (pe_callB (lenK (K := K) rfl) rfl bl.n_len bt_len (pa_cons (pv 1) pa_nil)) pa_nil)) (pg_name (i := 4) sc_check_parents.nd rfl (Or.inl rfl)) (pss_one (ps_if (pt_cmpR op_ne (pe_ix (ix_tupK (K := K) rfl) (pv 3) (pv 4) (fun _ _ => rfl)) (pe_ix (ix_tupK (K := K) rfl) (pv 1) (pv 4) (fun _ _ => rfl)) (nomark _)) pss_never pss_nil))))), ?_⟩
  have el : ∀ zs : List Int, (zs.map V.int).length = zs.length := fun zs => List.length_map _
  refine ⟨_, rfl, _, rfl, wi, m, ys, xs, rfl, hW, hM, by omega, fy, fx, eq.symm, fun t H1 nt g ht => ?_⟩
  have al := aft_length xs ys
  refine ⟨_, rfl, fa, _, rfl, .inr (g.sqt hF), _, rfl, by rw [el]; omega, by rw [el]; omega, for_range (lo := 0) (n := ((((aft xs ys).map V.int).length : Nat) : Int).toNat)
    (fun i σ H2 => H2 = H1 ∧ ∃ o4 : Option V, σ = [some (.ref m), some (.ref fa), some (.ref wi), some (.ref t), o4]) ⟨rfl, none, rfl⟩ ?_ ?_⟩
  · rintro i σ H2 hi ⟨rfl, o4, rfl⟩
    rw [Int.toNat_natCast, el] at hi
    have at_ : atI ((aft xs ys).map V.int) (0 + (i : Int)) = some (.int ((aft xs ys).getD (0 + (i : Int)).toNat 0)) := atI_in (by omega) (by omega)
    refine ⟨_, rfl, _, rfl, t, _, _, _, rfl, rfl, SqT.of ht, at_, _, rfl, _, rfl, fa, _, _, _, rfl, rfl, g.sqt hF, at_, rfl, _, rfl, iteNS rfl (nextE ⟨rfl, _, rfl⟩)⟩
  · rintro σ H2 ⟨rfl, o4, rfl⟩
    exact q _ g
end
theorem pfl {f : Str} {y : V} {fs : List (Str × V)} {n : Nat} (h : fs.length ≤ n) : (putF f y fs).length ≤ n + 1 := Nat.le_trans (length_putF f y fs) (Nat.succ_le_succ h)
theorem fs4 (a b c d : V) : putF "wife" d (putF "father" c (putF "mother" b (putF "size" a []))) = ([("size", a), ("mother", b), ("father", c), ("wife", d)] : List (Str × V)) := rfl
theorem fs5 (a b c d e : V) : putF "steps" e [("size", a), ("mother", b), ("father", c), ("wife", d)] = ([("size", a), ("mother", b), ("father", c), ("wife", d), ("steps", e)] : List (Str × V)) := rfl
theorem ds7 (a b c d e f g : V) : mergeK [] [(.inr "c", a), (.inr "k", b), (.inr "w", c), (.inr "m", d), (.inr "f", e), (.inr "h", f), (.inr "s", g)] = [(.inr "c", a), (.inr "k", b), (.inr "w", c), (.inr "m", d), (.inr "f", e), (.inr "h", f), (.inr "s", g)] := rfl
section
variable {P : Program} {w : World} {K : PySem.W.Frag} {mg : Str → Option Value} {base : Heap} {f c C : Addr} {fd : FuncData}
theorem sc_Land_init : FnScope ["self", "mother", "father", "wife"] ["self", "mother", "father", "wife"] (defScope s_Land_init) := ⟨rfl, rfl, rfl, by decide +kernel, rfl, by decide +kernel, by decide +kernel⟩
theorem ok_init (F : Fun K "__init__" "Land.__init__" s_Land_init f fd) (lc : LandC K C) (h_check_rows : HasFn P w K mg base 2 "check_rows" ["rows"] (spRows K)) (h_check_parents : HasFn P w K mg base 4 "check_parents" ["mother", "father", "wife"] (spParents K))
    (h_back : HasFn P w K mg base 3 "back" ["turn"] spBk) (h_still : HasFn P w K mg base 1 "still" ["size"] spStill) (bl : Bl mg) : FnOk P w K mg base CX0 5 f fd ["self", "mother", "father", "wife"] (spInit C) := by
  refine F.ok sc_Land_init (fun vs H Q E h => ?_) (fun cdv A outer s H vs Q E hr h => ?_)
  · obtain ⟨x, dx, m, fa, wi, xs, ys, rfl, _⟩ := h
    rfl
  obtain ⟨x, dx, m, fa, wi, xs, ys, rfl, hx, hM, hF, hW, fx, fy, eq, l2, l8, q⟩ := h
  refine ⟨_, (pss_cons (ps_expr (pe_fn h_check_rows hr (by omega) rfl (pa_cons (pe_lst (pa_cons (pv 1) (pa_cons (pv 2) (pa_cons (pv 3) pa_nil)))) pa_nil))) (pss_cons (ps_expr (pe_fn h_check_parents hr (by omega) rfl (pa_cons (pv 1) (pa_cons (pv 2) (pa_cons (pv 3) pa_nil))))) (pss_cons (ps_fld (pv 0) (pe_callB (lenK (K := K) rfl) rfl bl.n_len bt_len (pa_cons (pv 1) pa_nil)) rfl) (pss_cons (ps_fld (pv 0) (pv 1) rfl) (pss_cons (ps_fld (pv 0) (pv 2) rfl) (pss_cons (ps_fld (pv 0) (pv 3) rfl) (pss_one (ps_fld (pv 0) (pe_disp (pps_cons pe_str (pv 1) (pps_cons pe_str (pv 2) (pps_cons pe_str (pv 3) (pps_cons pe_str (pe_fn h_back hr (by omega) rfl (pa_cons (pv 1) pa_nil)) (pps_cons pe_str (pe_fn h_back hr (by omega) rfl (pa_cons (pv 2) pa_nil)) (pps_cons pe_str (pe_fn h_back hr (by omega) rfl (pa_cons (pv 3) pa_nil)) (pps_cons pe_str (pe_fn h_still hr (by omega) rfl (pa_cons (pe_callB (lenK (K := K) rfl) rfl bl.n_len bt_len (pa_cons (pv 1) pa_nil)) pa_nil)) pps_nil))))))) rfl rfl (fun z => nomatch z) (Nat.le_of_ble_eq_true rfl)) rfl)))))))), ?_⟩
  have el : ∀ zs : List Int, (zs.map V.int).length = zs.length := fun zs => List.length_map _
  have fa' := aft_full fx fy eq
  have al := aft_length xs ys
  refine ⟨_, rfl, _, rfl, _, rfl, by show 3 ≤ sizeLine; decide, fun l nl => ?_⟩
  have g1 := same_new nl (.lst [.ref m, .ref fa, .ref wi])
  refine ⟨l, m, [fa, wi], xs.length, rfl, SqL.of upd_same, l2, l8, fun a ha => ?_, fun H2 g2 => ?_⟩
  · rcases List.mem_cons.mp ha with rfl | ha
    · exact ⟨xs, SqT.of (g1 _ _ hM), rfl, fx⟩
    · rcases List.mem_cons.mp ha with rfl | ha
      · exact ⟨aft xs ys, SqT.of (g1 _ _ hF), by rw [al, eq], fa'⟩
      · rw [List.mem_singleton] at ha
        subst ha
        exact ⟨ys, SqT.of (g1 _ _ hW), eq.symm, fy⟩
  have g12 := g1.trans g2
  refine ⟨_, rfl, _, rfl, _, rfl, m, fa, wi, xs, ys, rfl, SqT.of (g12 _ _ hM), SqT.of (g12 _ _ hF), SqT.of (g12 _ _ hW), fx, fy, eq, l8, fun H3 g3 => ?_⟩
  have g := g12.trans g3
  have hx3 := g _ _ hx
  have hM3 := g _ _ hM
  have hF3 := g _ _ hF
  have hW3 := g _ _ hW
  have nm : m ≠ x := fun e => by rw [e, hx3] at hM3; cases hM3
  have nf : fa ≠ x := fun e => by rw [e, hx3] at hF3; cases hF3
  have nw : wi ≠ x := fun e => by rw [e, hx3] at hW3; cases hW3
  refine ⟨_, rfl, m, _, rfl, .inr (SqT.of hM3), _, rfl, x, C, dx, _, rfl, hx3, lc.cls, lc.n_size, by decide, ?_⟩
  refine ⟨_, rfl, _, rfl, x, C, dx, _, rfl, upd_same, lc.cls, lc.n_mother, Nat.lt_of_le_of_lt (pfl (Nat.le_refl 0)) (by decide), ?_⟩
  refine ⟨_, rfl, _, rfl, x, C, dx, _, rfl, upd_same, lc.cls, lc.n_father, Nat.lt_of_le_of_lt (pfl (pfl (Nat.le_refl 0))) (by decide), ?_⟩
  refine ⟨_, rfl, _, rfl, x, C, dx, _, rfl, upd_same, lc.cls, lc.n_wife, Nat.lt_of_le_of_lt (pfl (pfl (pfl (Nat.le_refl 0)))) (by decide), ?_⟩
  rw [upd_upd, upd_upd, upd_upd, el, fs4]
  have hx4 : upd H3 x (.ins C dx [("size", .int (xs.length : Int)), ("mother", .ref m), ("father", .ref fa), ("wife", .ref wi)]) x = some (.ins C dx [("size", .int (xs.length : Int)), ("mother", .ref m), ("father", .ref fa), ("wife", .ref wi)]) := upd_same
  have o4 : ∀ b o, H3 b = some o → b ≠ x → upd H3 x (.ins C dx [("size", .int (xs.length : Int)), ("mother", .ref m), ("father", .ref fa), ("wife", .ref wi)]) b = some o := fun b o e n => by rw [upd_ne n]; exact e
  generalize upd H3 x (.ins C dx [("size", .int (xs.length : Int)), ("mother", .ref m), ("father", .ref fa), ("wife", .ref wi)]) = H4 at hx4 o4 ⊢
  have hM4 := o4 _ _ hM3 nm
  have hF4 := o4 _ _ hF3 nf
  have hW4 := o4 _ _ hW3 nw
  intro d nd
  have g5 := same_new nd (.dK [])
  have hd5 : upd H4 d (.dK []) d = some (.dK []) := upd_same
  generalize upd H4 d (.dK []) = H5 at g5 hd5 ⊢
  refine ⟨_, rfl, _, rfl, _, rfl, ?_⟩
  refine ⟨_, rfl, m, xs, rfl, g5 _ _ hM4, by omega, fx, fun im H6 nim g6 him => ?_⟩
  refine ⟨_, rfl, fa, aft xs ys, rfl, g6 _ _ (g5 _ _ hF4), by omega, fa', fun jf H7 njf g7 hjf => ?_⟩
  refine ⟨_, rfl, wi, ys, rfl, g7 _ _ (g6 _ _ (g5 _ _ hW4)), by omega, fy, fun iw H8 niw g8 hiw => ?_⟩
  have g58 := (g6.trans g7).trans g8
  refine ⟨_, rfl, m, _, rfl, .inr (SqT.of (g58 _ _ (g5 _ _ hM4))), xs.length, by rw [el]; rfl, by omega, fun st H9 nst g9 hst => ?_⟩
  have g59 := g58.trans g9
  refine ⟨g59 _ _ hd5, StepsF m fa wi im jf iw st, rfl, by show 7 ≤ 15; decide, ?_⟩
  have dx' : d ≠ x := ne_of_none hx4 nd |>.symm
  have hx9 := g59 _ _ (g5 _ _ hx4)
  refine ⟨_, rfl, x, C, dx, _, rfl, by rw [upd_ne dx'.symm]; exact hx9, lc.cls, lc.n_steps, by show 4 < 1000; decide, ?_⟩
  rw [fs5, ds7]
  have key : ∀ {b : Addr} {o : HO}, H9 b = some o → b ≠ d → b ≠ x → upd (upd H9 d (.dK (StepsF m fa wi im jf iw st))) x (.ins C dx [("size", .int (xs.length : Int)), ("mother", .ref m), ("father", .ref fa), ("wife", .ref wi), ("steps", .ref d)]) b = some o := fun {b o} e n1 n2 => by
    rw [upd_ne n2, upd_ne n1]
    exact e
  have tupk : ∀ {b : Addr} {zs : List Int}, H9 b = some (.tup (zs.map V.int)) → tupA (upd (upd H9 d (.dK (StepsF m fa wi im jf iw st))) x (.ins C dx [("size", .int (xs.length : Int)), ("mother", .ref m), ("father", .ref fa), ("wife", .ref wi), ("steps", .ref d)])) b zs := fun {b zs} e =>
    key e (fun z => by rw [z, g59 _ _ hd5] at e; cases e) (fun z => by rw [z, hx9] at e; cases e)
  refine q _ (fun b o e n => ?_) ⟨dx, d, m, fa, wi, im, jf, iw, st, upd_same, by rw [upd_ne dx']; exact upd_same, tupk (g59 _ _ (g5 _ _ hM4)), tupk (g59 _ _ (g5 _ _ hF4)), tupk (g59 _ _ (g5 _ _ hW4)), tupk (g9 _ _ (g8 _ _ (g7 _ _ him))), tupk (g9 _ _ (g8 _ _ hjf)), tupk (g9 _ _ hiw), tupk hst⟩
  have e4 := o4 _ _ (g _ _ e) n
  refine key (g59 _ _ (g5 _ _ e4)) (ne_of_none e4 nd) n
theorem sc_land_of : FnScope ["mother", "wife"] ["mother", "wife"] (defScope s_land_of) := ⟨rfl, rfl, rfl, by decide +kernel, rfl, by decide +kernel, by decide +kernel⟩
theorem ok_land_of (F : Fun K "land_of" "land_of" s_land_of f fd) (h_check_rows : HasFn P w K mg base 2 "check_rows" ["rows"] (spRows K)) (h_behind : HasFn P w K mg base 3 "behind" ["first", "then"] (spBe K))
    (h_Land : HasMk P w K mg base 5 "Land" C ["self", "mother", "father", "wife"] (spInit C)) : FnOk P w K mg base CX0 7 f fd ["mother", "wife"] (spLandOf C) := by
  refine F.ok sc_land_of (fun vs H Q E h => ?_) (fun cdv A outer s H vs Q E hr h => ?_)
  · obtain ⟨m, wi, xs, ys, rfl, _⟩ := h
    rfl
  obtain ⟨m, wi, xs, ys, rfl, hM, hW, fx, fy, eq, l2, l8, q⟩ := h
  refine ⟨_, (pss_cons (ps_expr (pe_fn h_check_rows hr (by omega) rfl (pa_cons (pe_lst (pa_cons (pv 0) (pa_cons (pv 1) pa_nil))) pa_nil))) (pss_one (ps_ret (pe_mk h_Land hr (by omega) rfl (pa_cons (pv 0) (pa_cons (pe_fn h_behind hr (by omega) rfl (pa_cons (pv 1) (pa_cons (pv 0) pa_nil))) (pa_cons (pv 1) pa_nil))))))), ?_⟩
  refine ⟨_, rfl, _, rfl, by show 2 ≤ sizeLine; decide, fun l nl => ?_⟩
  have g1 := same_new nl (.lst [.ref m, .ref wi])
  refine ⟨l, m, [wi], xs.length, rfl, SqL.of upd_same, l2, l8, fun a ha => ?_, fun H2 g2 => ?_⟩
  · rcases List.mem_cons.mp ha with rfl | ha
    · exact ⟨xs, SqT.of (g1 _ _ hM), rfl, fx⟩
    · rw [List.mem_singleton] at ha
      subst ha
      exact ⟨ys, SqT.of (g1 _ _ hW), eq.symm, fy⟩
  have g := g1.trans g2
  refine ⟨_, rfl, _, rfl, _, rfl, wi, m, ys, xs, rfl, SqT.of (g _ _ hW), SqT.of (g _ _ hM), by omega, fy, fx, eq.symm, fun fa H3 nfa g3 hfa => ?_⟩
  have g13 := g.trans g3
  refine ⟨_, rfl, fun x dx nx ndx ne => ?_⟩
  have nx' : upd H3 dx (.own x) x = none := by rw [upd_ne (fun z => ne z.symm)]; exact nx
  have g4 : Same H3 (upd (upd H3 dx (.own x)) x (.ins C dx [])) := (same_new ndx _).trans (same_new nx' _)
  refine ⟨x, dx, m, fa, wi, xs, ys, rfl, upd_same, g4 _ _ (g13 _ _ hM), g4 _ _ hfa, g4 _ _ (g13 _ _ hW), fx, fy, eq, l2, l8, fun H5 k5 la => ⟨rfl, q x H5 (fun b o e => ?_) la⟩⟩
  have e3 := g13 _ _ e
  exact k5 b o (g4 _ _ e3) (ne_of_none e3 nx)
end
def inS (z : Str) (c : Nat) : Bool := !(Builtin.Str.occurrences z ⟨#[c]⟩ 0 z.length 1).isEmpty
abbrev lettersS : Str := "abcdefghijklmnopqrstuvwxyz"
abbrev signsS : Str := "abcdefghijklmnopqrstuvwxyz0123456789"
def fineN (z : Str) : Bool := match z.cps.toList with
  | [] => false
  | c :: r => decide (z.length ≤ 12) && (inS lettersS c && (c :: r).all (inS signsS))
theorem zlen (v : Str) : v.cps.toList.length = v.length := by simp [Str.length]
theorem str_nil {z : Str} (h : z.cps.toList = []) : z = "" := by
  cases z with | mk a => cases a with | mk l => cases h; rfl
theorem fine_nil {z : Str} (h : z.cps.toList = []) : fineN z = false := by unfold fineN; rw [h]
theorem fine_cons {z : Str} {c : Nat} {r : List Nat} (h : z.cps.toList = c :: r) : fineN z = (decide (z.length ≤ 12) && (inS lettersS c && (c :: r).all (inS signsS))) := by unfold fineN; rw [h]
def spIsName : Sp := fun vs H Q _ => ∃ z : Str, vs = [.str z] ∧ z.length ≤ 1000 ∧ ∀ H', Same H H' → Q (.bl (fineN z)) H'
section
variable {P : Program} {w : World} {K : PySem.W.Frag} {mg : Str → Option Value} {base : Heap} {f : Addr} {fd : FuncData}
theorem sc_is_name : FnScope ["text"] ["text"] (defScope s_is_name) := ⟨rfl, rfl, rfl, by decide +kernel, rfl, by decide +kernel, by decide +kernel⟩
theorem ok_is_name (F : Fun K "is_name" "is_name" s_is_name f fd) {t1 t2 t3 : Tok} (m_LONGEST_NAME : mg "LONGEST_NAME" = some (.int 12 t1)) (m_LETTERS_OF_NAMES : mg "LETTERS_OF_NAMES" = some (.str "abcdefghijklmnopqrstuvwxyz" t2)) (m_SIGNS_OF_NAMES : mg "SIGNS_OF_NAMES" = some (.str "abcdefghijklmnopqrstuvwxyz0123456789" t3)) (bl : Bl mg) :
    FnOk P w K mg base CX0 1 f fd ["text"] spIsName := by
  refine F.ok sc_is_name (fun vs H Q E h => ?_) (fun cdv A outer s H vs Q E hr h => ?_)
  · obtain ⟨z, rfl, _⟩ := h
    rfl
  obtain ⟨z, rfl, lz, q⟩ := h
  refine ⟨_, (pss_cons (ps_if (PW.pt (pw_or (pt_cmpR op_eq (pv 0) pe_str (nomark _)) (pw_or (pt_cmpR op_gt (pe_callB (call_len_str) rfl bl.n_len bt_len (pa_cons (pv 0) pa_nil)) (pe_glob (v := .int 12) rfl m_LONGEST_NAME ⟨_, rfl⟩) (nomark _)) (pw_or1 (pt_cmpR op_notin_str (pe_ix ix_str (pv 0) pe_int (fun _ _ => rfl)) (pe_glob (v := .str "abcdefghijklmnopqrstuvwxyz") rfl m_LETTERS_OF_NAMES ⟨_, rfl⟩) (by with_unfolding_all rfl)))))) (pss_one (ps_ret pe_bl)) pss_nil) (pss_one (ps_ret (pe_callB (allK (K := K) rfl rfl) rfl bl.n_all bt_all (pa_cons (pe_comp (x := "sign") (fr := []) (cl := []) rfl ⟨by with_unfolding_all rfl, trivial, rfl, by decide +kernel, rfl, by decide +kernel, rfl, trivial, by decide +kernel⟩ (pi_str (pv 0)) (fun _ _ _ _ => ptl_nil) (fun _ _ _ _ => (pe_cmpR op_in_str (pv 0) (pe_glob (v := .str "abcdefghijklmnopqrstuvwxyz0123456789") rfl m_SIGNS_OF_NAMES ⟨_, rfl⟩) (by with_unfolding_all rfl)))) pa_nil))))), ?_⟩
  have sz : (10000 : Nat) ≤ sizeLine := by rw [sizeLine_eq]; omega
  cases ez : z.cps.toList with
  | nil =>
    have e := str_nil ez
    rw [fine_nil ez] at q
    refine ⟨_, rfl, rfl, _, rfl, ite2 (fun _ => ?_) (fun c => absurd (decide_eq_true (by rw [e])) c)⟩
    exact q H (Same.refl H)
  | cons c r =>
    have zl := zlen z
    rw [ez, List.length_cons] at zl
    rw [fine_cons ez] at q
    refine ⟨_, rfl, rfl, _, rfl, ite2 (fun cc => ?_) (fun _ => ?_)⟩
    · have e : z = "" := V.str.inj (of_decide_eq_true cc)
      have e0 : (Str.ofString "").cps.toList = [] := by decide +kernel
      rw [e, e0] at ez
      cases ez
    refine ⟨_, rfl, z, rfl, by omega, _, _, rfl, rfl, _, rfl, ite2 (fun cc => ?_) (fun cc => ?_)⟩
    · have cc' : (12 : Int) < (z.length : Int) := of_decide_eq_true cc
      rw [decide_eq_false (by omega : ¬ z.length ≤ 12)] at q
      exact q H (Same.refl H)
    have l12 : z.length ≤ 12 := by
      have : ¬ ((12 : Int) < (z.length : Int)) := fun x => cc (decide_eq_true x)
      omega
    rw [decide_eq_true l12, Bool.true_and] at q
    refine ⟨_, rfl, _, _, _, rfl, rfl, by omega, atI_nat (j := 0) (by rw [ez]; rfl), _, _, rfl, rfl, _, rfl, ite2 (fun cc => ?_) (fun cc => nextE ?_)⟩
    · have cc' : inS lettersS c = false := by
        have z : (!inS lettersS c) = true := cc
        cases e : inS lettersS c
        · rfl
        · rw [e] at z; cases z
      rw [cc', Bool.false_and] at q
      exact q H (Same.refl H)
    have cl : inS lettersS c = true := by
      cases e : inS lettersS c
      · exact absurd (show (!inS lettersS c) = true by rw [e]; rfl) cc
      · rfl
    rw [cl, Bool.true_and, ← ez] at q
    refine ⟨_, rfl, z, rfl, fun D hD => comp_strM (by omega) hD (fun c => V.bl (inS signsS c)) (fun i c hi H1 g1 Kt k => ?_) fun H1 g1 h1 => ?_⟩
    · exact ⟨_, rfl, _, _, rfl, rfl, k H1 (Same.refl _)⟩
    · refine ⟨D, z.cps.toList.map (inS signsS), rfl, SqL.of (by rw [h1, List.map_map]; rfl), ?_⟩
      rw [List.all_map]
      exact q H1 g1
end
structure HearthC (K : PySem.W.Frag) (C : Addr) : Prop where
  cls : Cls K C
  n_land : NoAttr K C "land"
  n_sides : NoAttr K C "sides"
  n_places : NoAttr K C "places"
  n_facts : NoAttr K C "facts"
  n_known : NoAttr K C "known"
  n_parents : NoAttr K C "parents"
  n_coming : NoAttr K C "coming"
  n_done : NoAttr K C "done"
  n_undone : NoAttr K C "undone"
  n_reckoned : NoAttr K C "reckoned"
abbrev HF (L sd pl fc kn pr : Addr) (co : Int) (dn un : Addr) (rk : V) : List (Str × V) := [("land", .ref L), ("sides", .ref sd), ("places", .ref pl), ("facts", .ref fc), ("known", .ref kn), ("parents", .ref pr), ("coming", .int co), ("done", .ref dn), ("undone", .ref un), ("reckoned", rk)]
theorem hf10 (a b c d e f g h i j : V) : putF "reckoned" j (putF "undone" i (putF "done" h (putF "coming" g (putF "parents" f (putF "known" e (putF "facts" d (putF "places" c (putF "sides" b (putF "land" a []))))))))) =
    ([("land", a), ("sides", b), ("places", c), ("facts", d), ("known", e), ("parents", f), ("coming", g), ("done", h), ("undone", i), ("reckoned", j)] : List (Str × V)) := rfl
abbrev psK (ps : List (Str × Str)) : List (Key × V) := ps.map fun p => (.inr p.1, .str p.2)
def hasP (ps : List (Str × Str)) (n : Str) : Bool := (valV (psK ps) (.inr n)).isSome
theorem inV_ps (n : Str) : ∀ ps : List (Str × Str), inV (.str n) (ps.map fun p => V.str p.1) = hasP ps n
  | [] => rfl
  | p :: ps => by
    have ih := inV_ps n ps
    unfold inV hasP at ih ⊢
    have e0 : psK (p :: ps) = (Sum.inr p.1, V.str p.2) :: psK ps := rfl
    rw [List.map_cons, e0, List.any_cons, ih]
    by_cases e : p.1 = n
    · rw [valV_pos (p := (Sum.inr p.1, V.str p.2)) (by rw [e])]
      show ((p.1 == n) || _) = _
      rw [beq_iff_eq.mpr e]
      rfl
    · rw [valV_neg (p := (Sum.inr p.1, V.str p.2)) (fun z => e (Sum.inr.inj z))]
      show ((p.1 == n) || _) = _
      rw [beq_eq_false_iff_ne.mpr e, Bool.false_or]
theorem psK_snoc (ps : List (Str × Str)) (n s : Str) : psK (ps ++ [(n, s)]) = psK ps ++ [(.inr n, .str s)] := List.map_append
theorem flat_ps (ps : List (Str × Str)) : (ps.map fun p => V.str p.1).all flatV = true := by
  rw [List.all_map, List.all_eq_true]
  intro p _
  rfl
def HAt (H : Hp) (C h sd pl dn un : Addr) (ps : List (Str × Str)) : Prop := ∃ (dx L fc kn pr : Addr) (pq : List (Key × V)) (ds : List V), H h = some (.ins C dx (HF L sd pl fc kn pr 0 dn un .non)) ∧ H sd = some (.dK (psK ps)) ∧ H pl = some (.dK pq) ∧ pq.length ≤ ps.length ∧ H dn = some (.lst ds) ∧ ds.length = ps.length ∧ H un = some (.lst []) ∧ sd ≠ pl ∧ dn ≠ un
theorem HAt.same {H H' : Hp} {C h sd pl dn un : Addr} {ps : List (Str × Str)} (g : Same H H') (a : HAt H C h sd pl dn un ps) : HAt H' C h sd pl dn un ps := by
  obtain ⟨dx, L, fc, kn, pr, pq, ds, h1, h2, h3, h4, h5, h6, h7, h8⟩ := a
  exact ⟨dx, L, fc, kn, pr, pq, ds, g _ _ h1, g _ _ h2, g _ _ h3, h4, g _ _ h5, h6, g _ _ h7, h8⟩
def sideOk (s : Str) : Bool := inV (.str s) [.str "man", .str "woman"]
def spHInit (C : Addr) : Sp := fun vs H Q _ => ∃ (x dx L : Addr), vs = [.ref x, .ref L] ∧ H x = some (.ins C dx []) ∧
  ∀ (sd pl dn un : Addr) (H' : Hp), H sd = none → H pl = none → H dn = none → H un = none → Bar x H H' → HAt H' C x sd pl dn un [] → Q .non H'
def spPeople (C : Addr) : Sp := fun vs H Q _ => ∃ (h sd pl dn un : Addr) (ps : List (Str × Str)), vs = [.ref h] ∧ HAt H C h sd pl dn un ps ∧ Nw H (.lst (ps.map fun p => V.str p.1)) Q
def spUndoable (C : Addr) : Sp := fun vs H Q _ => ∃ (h sd pl dn un : Addr) (ps : List (Str × Str)), vs = [.ref h] ∧ HAt H C h sd pl dn un ps ∧ Q (.int (ps.length : Int)) H
def spSideOf (C cN : Addr) : Sp := fun vs H Q E => ∃ (h sd pl dn un : Addr) (ps : List (Str × Str)) (z : Str), vs = [.ref h, .str z] ∧ HAt H C h sd pl dn un ps ∧ z.length ≤ 1000 ∧ (∀ v, valV (psK ps) (.inr z) = some v → Q v H) ∧ (valV (psK ps) (.inr z) = none → XP H cN "no person" E)
def spIsPerson (K : PySem.W.Frag) : Sp := fun vs H Q _ => ∃ (r : Addr) (xs : List V), vs = [.ref r] ∧ SqT K H r xs ∧ (xs.length = 2 → Q (.bl true) H) ∧ (xs.length ≠ 2 → Q (.bl false) H)
def spPutIn (C : Addr) : Sp := fun vs H Q _ => ∃ (h r dx L sd pl fc kn pr dn un : Addr) (co : Int) (n s : Str) (ps : List (Str × Str)) (pq : List (Key × V)), vs = [.ref h, .ref r] ∧ H h = some (.ins C dx (HF L sd pl fc kn pr co dn un .non)) ∧ H sd = some (.dK (psK ps)) ∧ H pl = some (.dK pq) ∧ sd ≠ pl ∧ H r = some (.tup [.str n, .str s]) ∧ hasP ps n = false ∧ ps.length < 1000 ∧ pq.length < 1000 ∧
  ∀ (H' : Hp) (pq' : List (Key × V)), (∀ b o, H b = some o → b ≠ sd → b ≠ pl → H' b = some o) → H' sd = some (.dK (psK (ps ++ [(n, s)]))) → H' pl = some (.dK pq') → pq'.length ≤ pq.length + 1 → Q .non H'
def spShift (C : Addr) : Sp := fun vs H Q _ => ∃ (h r dx L sd pl fc kn pr dn un : Addr) (co c2 : Int) (n s : Str) (ps : List (Str × Str)) (pq : List (Key × V)), vs = [.ref h, .int 1, .ref r, .int c2] ∧ H h = some (.ins C dx (HF L sd pl fc kn pr co dn un .non)) ∧ H sd = some (.dK (psK ps)) ∧ H pl = some (.dK pq) ∧ sd ≠ pl ∧ H r = some (.tup [.str n, .str s]) ∧ hasP ps n = false ∧ ps.length < 1000 ∧ pq.length < 1000 ∧
  ∀ (H' : Hp) (pq' : List (Key × V)), (∀ b o, H b = some o → b ≠ sd → b ≠ pl → b ≠ h → H' b = some o) → H' h = some (.ins C dx (HF L sd pl fc kn pr c2 dn un .non)) → H' sd = some (.dK (psK (ps ++ [(n, s)]))) → H' pl = some (.dK pq') → pq'.length ≤ pq.length + 1 → Q .non H'
def spDoDeed (C : Addr) : Sp := fun vs H Q _ => ∃ (h r sd pl dn un : Addr) (n s : Str) (ps : List (Str × Str)), vs = [.ref h, .int 1, .ref r, .int 0] ∧ HAt H C h sd pl dn un ps ∧ H r = some (.tup [.str n, .str s]) ∧ hasP ps n = false ∧ ps.length < 1000 ∧
  ∀ H', Out [h, sd, pl, dn, un] H H' → HAt H' C h sd pl dn un (ps ++ [(n, s)]) → Q .non H'
def GoodP (n s : Str) : Prop := fineN n = true ∧ sideOk s = true
def spCheckP (C cB cT : Addr) : Sp := fun vs H Q E => ∃ (h sd pl dn un : Addr) (n s : Str) (ps : List (Str × Str)), vs = [.ref h, .str n, .str s] ∧ HAt H C h sd pl dn un ps ∧ n.length ≤ 1000 ∧ s.length ≤ 1000 ∧
  (¬ GoodP n s → XP H cB "no name" E) ∧ (GoodP n s → hasP ps n = true → XP H cT "name taken" E) ∧ (GoodP n s → hasP ps n = false → ∀ H', Same H H' → Q .non H')
def spPerson (C cB cT : Addr) : Sp := fun vs H Q E => ∃ (h sd pl dn un : Addr) (n s : Str) (ps : List (Str × Str)), vs = [.ref h, .str n, .str s] ∧ HAt H C h sd pl dn un ps ∧ n.length ≤ 1000 ∧ s.length ≤ 1000 ∧ ps.length < 1000 ∧
  (¬ GoodP n s → XP H cB "no name" E) ∧ (GoodP n s → hasP ps n = true → XP H cT "name taken" E) ∧ (GoodP n s → hasP ps n = false → ∀ H', Out [h, sd, pl, dn, un] H H' → HAt H' C h sd pl dn un (ps ++ [(n, s)]) → Q .non H')
section
variable {P : Program} {w : World} {K : PySem.W.Frag} {mg : Str → Option Value} {base : Heap} {f C cB cT cN : Addr} {fd : FuncData}
theorem sc_Hearth_init : FnScope ["self", "land"] ["self", "land"] (defScope s_Hearth_init) := ⟨rfl, rfl, rfl, by decide +kernel, rfl, by decide +kernel, by decide +kernel⟩
theorem ok_hinit (F : Fun K "__init__" "Hearth.__init__" s_Hearth_init f fd) (hc : HearthC K C) (bl : Bl mg) : FnOk P w K mg base CX0 1 f fd ["self", "land"] (spHInit C) := by
  refine F.ok sc_Hearth_init (fun vs H Q E h => ?_) (fun cdv A outer s H vs Q E hr h => ?_)
  · obtain ⟨x, dx, L, rfl, _⟩ := h
    rfl
  obtain ⟨x, dx, L, rfl, hx, q⟩ := h
  refine ⟨_, (pss_cons (ps_fldN (K := K) rfl (pv 0) (pv 1)) (pss_cons (ps_fldN (K := K) rfl (pv 0) pe_dnewKN) (pss_cons (ps_fldN (K := K) rfl (pv 0) pe_dnewKN) (pss_cons (ps_fldN (K := K) rfl (pv 0) pe_dnewKN) (pss_cons (ps_fldN (K := K) rfl (pv 0) pe_dnewTN) (pss_cons (ps_fldN (K := K) rfl (pv 0) pe_dnewTN) (pss_cons (ps_fldN (K := K) rfl (pv 0) pe_int) (pss_cons (ps_fldN (K := K) rfl (pv 0) (pe_lstN pa_nil)) (pss_cons (ps_fldN (K := K) rfl (pv 0) (pe_lstN pa_nil)) (pss_one (ps_fldN (K := K) rfl (pv 0) pe_non))))))))))), ?_⟩
  refine ⟨_, rfl, _, rfl, x, C, dx, [], rfl, hx, hc.cls, hc.n_land, by show 0 < 1000; omega, fun H1 b1 h1 => ?_⟩
  refine fun sd H2 n2 g2 e2 => ⟨_, rfl, x, C, dx, _, rfl, g2 _ _ h1, hc.cls, hc.n_sides, by show 1 < 1000; omega, fun H3 b3 h3 => ?_⟩
  refine fun pl H4 n4 g4 e4 => ⟨_, rfl, x, C, dx, _, rfl, g4 _ _ h3, hc.cls, hc.n_places, by show 2 < 1000; omega, fun H5 b5 h5 => ?_⟩
  refine fun fc H6 n6 g6 e6 => ⟨_, rfl, x, C, dx, _, rfl, g6 _ _ h5, hc.cls, hc.n_facts, by show 3 < 1000; omega, fun H7 b7 h7 => ?_⟩
  refine fun kn H8 n8 g8 e8 => ⟨_, rfl, x, C, dx, _, rfl, g8 _ _ h7, hc.cls, hc.n_known, by show 4 < 1000; omega, fun H9 b9 h9 => ?_⟩
  refine fun pr H10 n10 g10 e10 => ⟨_, rfl, x, C, dx, _, rfl, g10 _ _ h9, hc.cls, hc.n_parents, by show 5 < 1000; omega, fun H11 b11 h11 => ?_⟩
  refine ⟨_, rfl, x, C, dx, _, rfl, h11, hc.cls, hc.n_coming, by show 6 < 1000; omega, fun H12 b12 h12 => ?_⟩
  refine ⟨by show 0 ≤ sizeLine; exact Nat.zero_le _, fun dn H13 n13 g13 e13 => ⟨_, rfl, x, C, dx, _, rfl, g13 _ _ h12, hc.cls, hc.n_done, by show 7 < 1000; omega, fun H14 b14 h14 => ?_⟩⟩
  refine ⟨by show 0 ≤ sizeLine; exact Nat.zero_le _, fun un H15 n15 g15 e15 => ⟨_, rfl, x, C, dx, _, rfl, g15 _ _ h14, hc.cls, hc.n_undone, by show 8 < 1000; omega, fun H16 b16 h16 => ?_⟩⟩
  refine ⟨_, rfl, x, C, dx, _, rfl, h16, hc.cls, hc.n_reckoned, by show 9 < 1000; omega, fun H17 b17 h17 => ?_⟩
  rw [hf10] at h17
  have k16 : Bar x H15 H17 := b16.trans b17
  have k14 : Bar x H13 H17 := b14.trans ((Bar.of g15).trans k16)
  have k4 : Bar x H4 H17 := b5.trans ((Bar.of g6).trans (b7.trans ((Bar.of g8).trans (b9.trans ((Bar.of g10).trans (b11.trans (b12.trans ((Bar.of g13).trans k14))))))))
  have k2 : Bar x H2 H17 := b3.trans ((Bar.of g4).trans k4)
  have k0 : Bar x H H17 := b1.trans ((Bar.of g2).trans k2)
  have d2 : sd ≠ x := fun z => by rw [z, h1] at n2; cases n2
  have d4 : pl ≠ x := fun z => by rw [z, h3] at n4; cases n4
  have d13 : dn ≠ x := fun z => by rw [z, h12] at n13; cases n13
  have d15 : un ≠ x := fun z => by rw [z, h14] at n15; cases n15
  have sp : sd ≠ pl := fun z => by rw [← z, b3 _ _ e2 d2] at n4; cases n4
  have du : dn ≠ un := fun z => by rw [← z, b14 _ _ e13 d13] at n15; cases n15
  have fr : ∀ {b : Addr} {H' : Hp}, Bar x H H' → b ≠ x → H' b = none → H b = none := fun {b H'} k d n => by
    cases e : H b with
    | none => rfl
    | some o => rw [k b o e d] at n; cases n
  have j3 : Bar x H H3 := b1.trans ((Bar.of g2).trans b3)
  have j12 : Bar x H H12 := j3.trans ((Bar.of g4).trans (b5.trans ((Bar.of g6).trans (b7.trans ((Bar.of g8).trans (b9.trans ((Bar.of g10).trans (b11.trans b12))))))))
  refine q sd pl dn un H17 (fr b1 d2 n2) (fr j3 d4 n4) (fr j12 d13 n13) (fr (j12.trans ((Bar.of g13).trans b14)) d15 n15) k0 ?_
  exact ⟨dx, L, fc, kn, pr, [], [], h17, k2 _ _ e2 d2, k4 _ _ e4 d4, Nat.le_refl _, k14 _ _ e13 d13, rfl, k16 _ _ e15 d15, sp, du⟩
theorem sc_Hearth_people : FnScope ["self"] ["self"] (defScope s_Hearth_people) := ⟨rfl, rfl, rfl, by decide +kernel, rfl, by decide +kernel, by decide +kernel⟩
theorem ok_people (F : Fun K "people" "Hearth.people" s_Hearth_people f fd) (hc : HearthC K C) (bl : Bl mg) : FnOk P w K mg base CX0 1 f fd ["self"] (spPeople C) := by
  refine F.ok sc_Hearth_people (fun vs H Q E h => ?_) (fun cdv A outer s H vs Q E hr h => ?_)
  · obtain ⟨h, sd, pl, dn, un, ps, rfl, _⟩ := h
    rfl
  obtain ⟨h, sd, pl, dn, un, ps, rfl, ⟨dx, L, fc, kn, pr, pq, ds, h1, h2, h3, h4, h5, h6, h7, h8⟩, q⟩ := h
  refine ⟨_, (pss_one (ps_ret (pe_callTy (call_list_d rfl) rfl bl.n_list bt_list (pa_cons (pe_fldK (K := K) rfl (pv 0) rfl) pa_nil)))), ?_⟩
  refine ⟨_, rfl, h, C, dx, _, _, rfl, h1, hc.cls, hc.n_sides, rfl, sd, _, rfl, h2, fun p H' np g hp => q p H' np g ?_⟩
  rw [hp, List.map_map]
  rfl
theorem sc_Hearth_undoable : FnScope ["self"] ["self"] (defScope s_Hearth_undoable) := ⟨rfl, rfl, rfl, by decide +kernel, rfl, by decide +kernel, by decide +kernel⟩
theorem ok_undoable (F : Fun K "undoable" "Hearth.undoable" s_Hearth_undoable f fd) (hc : HearthC K C) (bl : Bl mg) : FnOk P w K mg base CX0 1 f fd ["self"] (spUndoable C) := by
  refine F.ok sc_Hearth_undoable (fun vs H Q E h => ?_) (fun cdv A outer s H vs Q E hr h => ?_)
  · obtain ⟨h, sd, pl, dn, un, ps, rfl, _⟩ := h
    rfl
  obtain ⟨h, sd, pl, dn, un, ps, rfl, ⟨dx, L, fc, kn, pr, pq, ds, h1, h2, h3, h4, h5, h6, h7, h8⟩, q⟩ := h
  refine ⟨_, (pss_one (ps_ret (pe_callB (lenK (K := K) rfl) rfl bl.n_len bt_len (pa_cons (pe_fldK (K := K) rfl (pv 0) rfl) pa_nil)))), ?_⟩
  refine ⟨_, rfl, h, C, dx, _, _, rfl, h1, hc.cls, hc.n_done, rfl, dn, ds, rfl, .inl (SqL.of h5), ?_⟩
  rw [h6]
  exact q
theorem sc_Hearth_side_of : FnScope ["self", "name"] ["self", "name"] (defScope s_Hearth_side_of) := ⟨rfl, rfl, rfl, by decide +kernel, rfl, by decide +kernel, by decide +kernel⟩
theorem ok_side_of (F : Fun K "side_of" "Hearth.side_of" s_Hearth_side_of f fd) (hc : HearthC K C) (e_NoPerson : HasErr P w K mg base "NoPerson" "no person" cN) (bl : Bl mg) : FnOk P w K mg base (CXe P w) 4 f fd ["self", "name"] (spSideOf C cN) := by
  refine F.okX sc_Hearth_side_of (fun vs H Q E h => ?_) (fun cdv A outer s H vs Q E hr h => ?_)
  · obtain ⟨h, sd, pl, dn, un, ps, z, rfl, _⟩ := h
    rfl
  obtain ⟨h, sd, pl, dn, un, ps, z, rfl, ⟨dx, L, fc, kn, pr, pq, ds, h1, h2, h3, h4, h5, h6, h7, h8⟩, lz, q, x⟩ := h
  refine ⟨_, (pss_cons (ps_if (pt_cmp (pc_dnotin (hu_of hr) (pv 1) (pe_fldK (K := K) rfl (pv 0) rfl)) (by with_unfolding_all rfl)) (pss_one (ps_raiseE e_NoPerson hr (by omega) rfl rfl passF (pv 1))) pss_nil) (pss_one (ps_ret (pe_dget (hu_of hr) (pe_fldK (K := K) rfl (pv 0) rfl) (pv 1) (fun _ _ => rfl))))), ?_⟩
  cases ev : valV (psK ps) (.inr z) with
  | none => exact ⟨_, rfl, _, rfl, h, C, dx, _, _, rfl, h1, hc.cls, hc.n_sides, rfl, sd, none, rfl, dget_s h2 ev, _, rfl, iteT ⟨_, rfl, z, rfl, by omega, x ev⟩⟩
  | some v => exact ⟨_, rfl, _, rfl, h, C, dx, _, _, rfl, h1, hc.cls, hc.n_sides, rfl, sd, some v, rfl, dget_s h2 ev, _, rfl, iteF (nextE ⟨_, rfl, h, C, dx, _, _, rfl, h1, hc.cls, hc.n_sides, rfl, _, rfl, sd, v, rfl, dget_s h2 ev, q v ev⟩)⟩
theorem sc_is_person : FnScope ["row"] ["row"] (defScope s_is_person) := ⟨rfl, rfl, rfl, by decide +kernel, rfl, by decide +kernel, by decide +kernel⟩
theorem ok_is_person (F : Fun K "is_person" "is_person" s_is_person f fd) (bl : Bl mg) : FnOk P w K mg base CX0 1 f fd ["row"] (spIsPerson K) := by
  refine F.ok sc_is_person (fun vs H Q E h => ?_) (fun cdv A outer s H vs Q E hr h => ?_)
  · obtain ⟨r, xs, rfl, _⟩ := h
    rfl
  obtain ⟨r, xs, rfl, hr', q1, q2⟩ := h
  refine ⟨_, (pss_one (ps_ret (pe_cmpR op_eq (pe_callB (lenK (K := K) rfl) rfl bl.n_len bt_len (pa_cons (pv 0) pa_nil)) pe_int (nomark _)))), ?_⟩
  refine ⟨_, rfl, r, xs, rfl, .inr hr', rfl, ?_⟩
  by_cases e : xs.length = 2
  · rw [decide_eq_true (by rw [e]; rfl)]
    exact q1 e
  · rw [decide_eq_false (fun z => e (by have := V.int.inj z; omega))]
    exact q2 e
theorem sc_Hearth_put_in : FnScope ["self", "row", "name", "side"] ["self", "row"] (defScope s_Hearth_put_in) := ⟨rfl, rfl, rfl, by decide +kernel, rfl, by decide +kernel, by decide +kernel⟩
theorem ok_put_in (F : Fun K "put_in" "Hearth.put_in" s_Hearth_put_in f fd) (hc : HearthC K C) (h_is_person : HasFn P w K mg base 1 "is_person" ["row"] (spIsPerson K)) (bl : Bl mg) : FnOk P w K mg base CX0 2 f fd ["self", "row"] (spPutIn C) := by
  refine F.ok sc_Hearth_put_in (fun vs H Q E h => ?_) (fun cdv A outer s H vs Q E hr h => ?_)
  · obtain ⟨h, r, dx, L, sd, pl, fc, kn, pr, dn, un, co, n, s, ps, pq, rfl, _⟩ := h
    rfl
  obtain ⟨h, r, dx, L, sd, pl, fc, kn, pr, dn, un, co, n, s, ps, pq, rfl, h1, h2, h3, dsp, hR, no, lp, lv, q⟩ := h
  refine ⟨_, (pss_one (ps_if (pt_val (pe_fn h_is_person hr (by omega) rfl (pa_cons (pv 1) pa_nil))) (pss_cons (ps_asg (pv 1) (pg_tup rfl (pgs_cons (pg_name (i := 2) sc_Hearth_put_in.nd rfl (Or.inl rfl)) (pgs_cons (pg_name (i := 3) sc_Hearth_put_in.nd rfl (Or.inl rfl)) pgs_nil)))) (pss_cons (ps_dputN (hu_of hr) (pe_fldK (K := K) rfl (pv 0) rfl) (pv 2) (pe_callB (call_len_d) rfl bl.n_len bt_len (pa_cons (pe_fldK (K := K) rfl (pv 0) rfl) pa_nil))) (pss_cons (ps_dputN (hu_of hr) (pe_fldK (K := K) rfl (pv 0) rfl) (pv 2) (pv 3)) (pss_one (ps_if (pt_cmpR op_notN (pe_fldK (K := K) rfl (pv 0) rfl) pe_non (nomark _)) pss_never pss_nil))))) pss_never)), ?_⟩
  have sz : (10000 : Nat) ≤ sizeLine := by rw [sizeLine_eq]; omega
  have kl : (psK ps).length = ps.length := List.length_map _
  refine ⟨_, rfl, r, _, rfl, SqT.of hR, fun _ => ⟨_, rfl, iteT ?_⟩, fun z => absurd rfl z⟩
  refine ⟨_, rfl, r, _, rfl, SqT.of hR, rfl, _, _, rfl, nameE ⟨_, _, rfl, nameE ⟨rfl, ?_⟩⟩⟩
  refine ⟨_, rfl, h, C, dx, _, _, rfl, h1, hc.cls, hc.n_sides, rfl, sd, _, rfl, h2, _, rfl, h, C, dx, _, _, rfl, h1, hc.cls, hc.n_places, rfl, _, rfl, pl, pq, .inr n, rfl, h3, rfl, by omega, fun H1 b1 e1 => ?_⟩
  have nh : h ≠ pl := fun z => by rw [z, h3] at h1; cases h1
  have h1' := b1 _ _ h1 nh
  have h2' := b1 _ _ h2 dsp
  refine ⟨_, rfl, _, rfl, h, C, dx, _, _, rfl, h1', hc.cls, hc.n_sides, rfl, _, rfl, sd, _, .inr n, rfl, h2', rfl, by omega, fun H2 b2 e2 => ?_⟩
  have ns : h ≠ sd := fun z => by rw [z, h2] at h1; cases h1
  refine ⟨_, rfl, h, C, dx, _, _, rfl, b2 _ _ h1' ns, hc.cls, hc.n_reckoned, rfl, rfl, _, rfl, iteF (nextE ?_)⟩
  have nv : valV (psK ps) (.inr n) = none := by
    unfold hasP at no
    cases e : valV (psK ps) (.inr n) with
    | none => rfl
    | some v => rw [e] at no; cases no
  rw [putK_new _ nv] at e2
  refine q H2 _ (fun b o e n1 n2 => b2 _ _ (b1 _ _ e n2) n1) (by rw [e2, psK_snoc]) (b2 _ _ e1 (fun z => dsp z.symm)) (length_putK _ _ _)
theorem sc_Hearth_shift : FnScope ["self", "way", "row", "coming"] ["self", "way", "row", "coming"] (defScope s_Hearth_shift) := ⟨rfl, rfl, rfl, by decide +kernel, rfl, by decide +kernel, by decide +kernel⟩
theorem ok_shift (F : Fun K "shift" "Hearth.shift" s_Hearth_shift f fd) (hc : HearthC K C) {t1 : Tok} (m_PUT_IN : mg "PUT_IN" = some (.int 1 t1)) (h_Hearth_put_in : HasMt P w K mg base 2 "put_in" C ["self", "row"] (spPutIn C)) (bl : Bl mg) : FnOk P w K mg base CX0 3 f fd ["self", "way", "row", "coming"] (spShift C) := by
  refine F.ok sc_Hearth_shift (fun vs H Q E h => ?_) (fun cdv A outer s H vs Q E hr h => ?_)
  · obtain ⟨h, r, dx, L, sd, pl, fc, kn, pr, dn, un, co, c2, n, s, ps, pq, rfl, _⟩ := h
    rfl
  obtain ⟨h, r, dx, L, sd, pl, fc, kn, pr, dn, un, co, c2, n, s, ps, pq, rfl, h1, h2, h3, dsp, hR, no, lp, lv, q⟩ := h
  refine ⟨_, (pss_cons (ps_if (pt_cmpR op_eq (pv 1) (pe_glob (v := .int 1) rfl m_PUT_IN ⟨_, rfl⟩) (nomark _)) (pss_one (ps_expr (pe_mt h_Hearth_put_in hr (by omega) (pv 0) (pa_cons (pv 2) pa_nil)))) pss_never) (pss_one (ps_fldN (K := K) rfl (pv 0) (pv 3)))), ?_⟩
  have nh : h ≠ pl := fun z => by rw [z, h3] at h1; cases h1
  have ns : h ≠ sd := fun z => by rw [z, h2] at h1; cases h1
  refine ⟨_, rfl, rfl, _, rfl, iteT ?_⟩
  refine ⟨_, rfl, h, dx, _, rfl, h1, rfl, _, rfl, h, r, dx, L, sd, pl, fc, kn, pr, dn, un, co, n, s, ps, pq, rfl, h1, h2, h3, dsp, hR, no, lp, lv, fun H1 pq' kp e2 e3 lv' => ?_⟩
  refine ⟨_, rfl, _, rfl, h, C, dx, _, rfl, kp _ _ h1 ns nh, hc.cls, hc.n_coming, by show 10 < 1000; omega, fun H2 b2 e4 => ?_⟩
  exact q H2 pq' (fun b o e n1 n2 n3 => b2 _ _ (kp _ _ e n1 n2) n3) e4 (b2 _ _ e2 (fun z => ns z.symm)) (b2 _ _ e3 (fun z => nh z.symm)) lv'
theorem sc_Hearth_do_deed : FnScope ["self", "way", "row", "coming"] ["self", "way", "row", "coming"] (defScope s_Hearth_do_deed) := ⟨rfl, rfl, rfl, by decide +kernel, rfl, by decide +kernel, by decide +kernel⟩
theorem ok_do_deed (F : Fun K "do_deed" "Hearth.do_deed" s_Hearth_do_deed f fd) (hc : HearthC K C) (h_Hearth_shift : HasMt P w K mg base 3 "shift" C ["self", "way", "row", "coming"] (spShift C)) (bl : Bl mg) : FnOk P w K mg base CX0 4 f fd ["self", "way", "row", "coming"] (spDoDeed C) := by
  refine F.ok sc_Hearth_do_deed (fun vs H Q E h => ?_) (fun cdv A outer s H vs Q E hr h => ?_)
  · obtain ⟨h, r, sd, pl, dn, un, n, s, ps, rfl, _⟩ := h
    rfl
  obtain ⟨h, r, sd, pl, dn, un, n, s, ps, rfl, ⟨dx, L, fc, kn, pr, pq, ds, h1, h2, h3, h4, h5, h6, h7, h8, h9⟩, hR, no, lp, q⟩ := h
  refine ⟨_, (pss_cons (ps_expr (pe_bm PySem.F.plainAttrs_list PySem.F.slot_list_append PySem.F.type_list_append mt_appendN (pe_fldK (K := K) rfl (pv 0) rfl) (pa_cons (pe_tupN (pa_cons (pv 1) (pa_cons (pv 2) (pa_cons (pe_fldK (K := K) rfl (pv 0) rfl) (pa_cons (pv 3) pa_nil))))) pa_nil))) (pss_cons (ps_expr (pe_bm0 PySem.F.plainAttrs_list PySem.F.slot_list_clear PySem.F.type_list_clear mt_clearN (pe_fldK (K := K) rfl (pv 0) rfl))) (pss_one (ps_expr (pe_mt h_Hearth_shift hr (by omega) (pv 0) (pa_cons (pv 1) (pa_cons (pv 2) (pa_cons (pv 3) pa_nil)))))))), ?_⟩
  have sz : (10000 : Nat) ≤ sizeLine := by rw [sizeLine_eq]; omega
  have nd : h ≠ dn := fun z => by rw [z, h5] at h1; cases h1
  have nu : h ≠ un := fun z => by rw [z, h7] at h1; cases h1
  have sdn : sd ≠ dn := fun z => by rw [z, h5] at h2; cases h2
  have sun : sd ≠ un := fun z => by rw [z, h7] at h2; cases h2
  have pdn : pl ≠ dn := fun z => by rw [z, h5] at h3; cases h3
  have pun : pl ≠ un := fun z => by rw [z, h7] at h3; cases h3
  have rdn : r ≠ dn := fun z => by rw [z, h5] at hR; cases hR
  have run : r ≠ un := fun z => by rw [z, h7] at hR; cases hR
  refine ⟨_, rfl, h, C, dx, _, _, rfl, h1, hc.cls, hc.n_done, rfl, .inl ⟨rfl, _, SqL.of h5⟩, ?_⟩
  refine ⟨_, rfl, _, rfl, _, rfl, h, C, dx, _, _, rfl, h1, hc.cls, hc.n_coming, rfl, _, rfl, by show 4 ≤ sizeLine; omega, fun p H1 np g1 e1 => ?_⟩
  refine ⟨dn, ds, _, rfl, rfl, g1 _ _ h5, by omega, fun H2 b2 e2 => ?_⟩
  have a1 := b2 _ _ (g1 _ _ h1) nd
  have a7 := b2 _ _ (g1 _ _ h7) (fun z => h9 z.symm)
  refine ⟨_, rfl, h, C, dx, _, _, rfl, a1, hc.cls, hc.n_undone, rfl, .inl ⟨rfl, _, SqL.of a7⟩, un, _, rfl, rfl, a7, fun H3 b3 e3 => ?_⟩
  have c1 := b3 _ _ a1 nu
  have c2 := b3 _ _ (b2 _ _ (g1 _ _ h2) sdn) sun
  have c3 := b3 _ _ (b2 _ _ (g1 _ _ h3) pdn) pun
  have cR := b3 _ _ (b2 _ _ (g1 _ _ hR) rdn) run
  have c5 := b3 _ _ e2 h9
  refine ⟨_, rfl, h, dx, _, rfl, c1, rfl, _, rfl, _, rfl, _, rfl, h, r, dx, L, sd, pl, fc, kn, pr, dn, un, 0, 0, n, s, ps, pq, rfl, c1, c2, c3, h8, cR, no, lp, by omega, fun H4 pq' kp f1 f2 f3 lv' => ?_⟩
  have hl : (ps ++ [(n, s)]).length = ps.length + 1 := by rw [List.length_append]; rfl
  refine q H4 (fun b o e nb => ?_) ⟨dx, L, fc, kn, pr, pq', _, f1, f2, f3, by omega, kp _ _ c5 (fun z => sdn z.symm) (fun z => pdn z.symm) (fun z => nd z.symm), by rw [List.length_append, h6, hl]; rfl, kp _ _ e3 (fun z => sun z.symm) (fun z => pun z.symm) (fun z => nu z.symm), h8, h9⟩
  simp only [List.mem_cons, List.not_mem_nil, or_false, not_or] at nb
  exact kp _ _ (b3 _ _ (b2 _ _ (g1 _ _ e) nb.2.2.2.1) nb.2.2.2.2) nb.2.1 nb.2.2.1 nb.1
theorem sc_check_person : FnScope ["hearth", "name", "side"] ["hearth", "name", "side"] (defScope s_check_person) := ⟨rfl, rfl, rfl, by decide +kernel, rfl, by decide +kernel, by decide +kernel⟩
theorem ok_check_person (F : Fun K "check_person" "check_person" s_check_person f fd) (h_is_name : HasFn P w K mg base 1 "is_name" ["text"] spIsName) {t1 t2 : Tok} (m_MAN : mg "MAN" = some (.str "man" t1)) (m_WOMAN : mg "WOMAN" = some (.str "woman" t2)) (h_Hearth_people : HasMt P w K mg base 1 "people" C ["self"] (spPeople C))
    (e_BadName : HasErr P w K mg base "BadName" "no name" cB) (e_Taken : HasErr P w K mg base "Taken" "name taken" cT) (bl : Bl mg) : FnOk P w K mg base (CXe P w) 4 f fd ["hearth", "name", "side"] (spCheckP C cB cT) := by
  refine F.okX sc_check_person (fun vs H Q E h => ?_) (fun cdv A outer s H vs Q E hr h => ?_)
  · obtain ⟨h, sd, pl, dn, un, n, s, ps, rfl, _⟩ := h
    rfl
  obtain ⟨h, sd, pl, dn, un, n, s, ps, rfl, ha, ln, ls, x1, x2, q⟩ := h
  refine ⟨_, (pss_cons (ps_if (PW.pt (pw_or (pt_not (pt_val (pe_fn h_is_name hr (by omega) rfl (pa_cons (pv 1) pa_nil)))) (pw_or1 (pt_cmpR (notInK (K := K) rfl) (pv 2) (pe_tupN (pa_cons (pe_glob (v := .str "man") rfl m_MAN ⟨_, rfl⟩) (pa_cons (pe_glob (v := .str "woman") rfl m_WOMAN ⟨_, rfl⟩) pa_nil))) (by with_unfolding_all rfl))))) (pss_one (ps_raiseE e_BadName hr (by omega) rfl rfl passF (pe_joinF (pf_cons (pe_fmt hr (pv 2)) (pf_cons pe_str (pf_cons (pe_fmt hr (pv 1)) pf_nil)))))) pss_nil) (pss_one (ps_if (pt_cmpR (inK (K := K) rfl) (pv 1) (pe_mt0 h_Hearth_people hr (by omega) (pv 0)) (by with_unfolding_all rfl)) (pss_one (ps_raiseE e_Taken hr (by omega) rfl rfl passF (pv 1))) pss_nil))), ?_⟩
  have sz : (10000 : Nat) ≤ sizeLine := by rw [sizeLine_eq]; omega
  have bad : ∀ H', Same H H' → ¬ GoodP n s → XP H' cB "no name" E := fun H' g ng => (x1 ng).same g
  refine ⟨_, rfl, n, rfl, ln, fun H1 g1 => ⟨_, rfl, ?_⟩⟩
  refine ite2 (fun cc => ?_) (fun cc => ?_)
  · refine ⟨_, rfl, .inl ⟨s, rfl, by omega, _, rfl, by omega, _, rfl, by decide, _, rfl, .inl ⟨n, rfl, by omega, _, rfl, by omega, fun z lz => ⟨z, rfl, Nat.le_trans lz (by show 4000 * 3 ≤ 1000000; omega), bad H1 g1 fun gd => ?_⟩⟩⟩⟩
    rw [gd.1] at cc
    cases cc
  have fn : fineN n = true := by
    cases e : fineN n
    · rw [e] at cc; exact absurd rfl cc
    · rfl
  refine ⟨_, rfl, by show 2 ≤ sizeLine; omega, fun p H2 np g2 hp => ⟨p, _, rfl, .inr (SqT.of hp), rfl, rfl, _, rfl, ite2 (fun cc => ?_) (fun cc => nextE ?_)⟩⟩
  · refine ⟨_, rfl, .inl ⟨s, rfl, by omega, _, rfl, by omega, _, rfl, by decide, _, rfl, .inl ⟨n, rfl, by omega, _, rfl, by omega, fun z lz => ⟨z, rfl, Nat.le_trans lz (by show 4000 * 3 ≤ 1000000; omega), bad H2 (g1.trans g2) fun gd => ?_⟩⟩⟩⟩
    have c2 : (!sideOk s) = true := cc
    rw [gd.2] at c2
    cases c2
  have so : sideOk s = true := by
    cases e : sideOk s
    · exact absurd (show (!sideOk s) = true by rw [e]; rfl) cc
    · rfl
  have g := g1.trans g2
  obtain ⟨dx, L, fc, kn, pr, pq, ds, h1, hrest⟩ := id (ha.same g)
  refine ⟨_, rfl, _, rfl, h, dx, _, rfl, h1, rfl, h, sd, pl, dn, un, ps, rfl, ha.same g, fun p2 H3 np2 g3 hp2 => ?_⟩
  refine ⟨p2, _, rfl, .inl (SqL.of hp2), rfl, flat_ps ps, _, rfl, ?_⟩
  dsimp only
  rw [if_neg Bool.false_ne_true, inV_ps]
  refine ite2 (fun e => ?_) (fun e => nextE ?_)
  · exact ⟨_, rfl, n, rfl, by omega, (x2 ⟨fn, so⟩ e).same (g.trans g3)⟩
  · refine q ⟨fn, so⟩ ?_ H3 (g.trans g3)
    cases e' : hasP ps n
    · rfl
    · exact absurd e' e
theorem sc_Hearth_person : FnScope ["self", "name", "side"] ["self", "name", "side"] (defScope s_Hearth_person) := ⟨rfl, rfl, rfl, by decide +kernel, rfl, by decide +kernel, by decide +kernel⟩
theorem ok_person (F : Fun K "person" "Hearth.person" s_Hearth_person f fd) (hc : HearthC K C) {t1 : Tok} (m_PUT_IN : mg "PUT_IN" = some (.int 1 t1)) (h_check_person : HasX P w K mg base 4 "check_person" ["hearth", "name", "side"] (spCheckP C cB cT)) (h_Hearth_do_deed : HasMt P w K mg base 4 "do_deed" C ["self", "way", "row", "coming"] (spDoDeed C)) (bl : Bl mg) :
    FnOk P w K mg base (CXe P w) 6 f fd ["self", "name", "side"] (spPerson C cB cT) := by
  refine F.okX sc_Hearth_person (fun vs H Q E h => ?_) (fun cdv A outer s H vs Q E hr h => ?_)
  · obtain ⟨h, sd, pl, dn, un, n, s, ps, rfl, _⟩ := h
    rfl
  obtain ⟨h, sd, pl, dn, un, n, s, ps, rfl, ha, ln, ls, lp, x1, x2, q⟩ := h
  refine ⟨_, (pss_cons (ps_expr (pe_fnX h_check_person hr (by omega) passF rfl (pa_cons (pv 0) (pa_cons (pv 1) (pa_cons (pv 2) pa_nil))))) (pss_one (ps_expr (pe_mt h_Hearth_do_deed hr (by omega) (pv 0) (pa_cons (pe_glob (v := .int 1) rfl m_PUT_IN ⟨_, rfl⟩) (pa_cons (pe_tupN (pa_cons (pv 1) (pa_cons (pv 2) pa_nil))) (pa_cons (pe_fldK (K := K) rfl (pv 0) rfl) pa_nil))))))), ?_⟩
  refine ⟨_, rfl, _, rfl, _, rfl, h, sd, pl, dn, un, n, s, ps, rfl, ha, ln, ls, x1, x2, fun gd no H1 g1 => ?_⟩
  obtain ⟨dx, L, fc, kn, pr, pq, ds, h1, hrest⟩ := id (ha.same g1)
  refine ⟨_, rfl, h, dx, _, rfl, h1, rfl, _, rfl, _, rfl, by show 2 ≤ sizeLine; decide, fun r H2 nr g2 hR => ?_⟩
  refine ⟨_, rfl, h, C, dx, _, _, rfl, g2 _ _ h1, hc.cls, hc.n_coming, rfl, h, r, sd, pl, dn, un, n, s, ps, rfl, (ha.same g1).same g2, hR, no, lp, fun H3 o3 a3 => ?_⟩
  exact q gd no H3 ((Out.of (g1.trans g2)).trans o3) a3
end
theorem join_len : ∀ ys : List Str, (Str.join "" ys).length = (ys.map (·.length)).sum
  | [] => rfl
  | [a] => by simp [Str.join]
  | a :: b :: r => by
    have ih := join_len (b :: r)
    have e : Str.join "" (a :: b :: r) = a ++ "" ++ Str.join "" (b :: r) := by simp [Str.join]
    have e0 : (Str.ofString "").length = 0 := rfl
    have e2 : ((a :: b :: r).map (·.length)).sum = a.length + ((b :: r).map (·.length)).sum := by rw [List.map_cons, List.sum_cons]
    rw [e, strLen_append, strLen_append, ih, e2, e0]
    omega
theorem sum_ones : ∀ ys : List Str, (∀ y ∈ ys, y.length = 1) → (ys.map (·.length)).sum = ys.length
  | [], _ => rfl
  | a :: r, h => by
    rw [List.map_cons, List.sum_cons, sum_ones r fun y hy => h y (List.mem_cons_of_mem _ hy), h a List.mem_cons_self, List.length_cons]
    omega
theorem bd_all : ∀ {rs : List Int} {k : Nat}, Paired Bd rs (List.replicate k 36) → ∀ m ∈ rs, 0 ≤ m ∧ m < 36
  | [], _, _, m, hm => by cases hm
  | a :: r, 0, h, _, _ => by cases h
  | a :: r, k + 1, h, m, hm => by
    rw [List.replicate_succ] at h
    cases h with | cons b h =>
    rcases List.mem_cons.mp hm with rfl | hm
    · exact b
    · exact bd_all h m hm
theorem valV_at : ∀ {ps : List (Str × Str)} {i : Nat} {p : Str × Str}, (ps.map (·.1)).Nodup → ps[i]? = some p → valV (psK ps) (.inr p.1) = some (.str p.2)
  | [], i, p, _, h => by cases h
  | a :: r, 0, p, nd, h => by
    have e : a = p := by simpa using h
    subst e
    exact valV_pos (p := ((Sum.inr a.1 : Key), V.str a.2)) rfl
  | a :: r, i + 1, p, nd, h => by
    have h' : r[i]? = some p := by simpa using h
    rw [List.map_cons, List.nodup_cons] at nd
    have ne : a.1 ≠ p.1 := fun z => nd.1 (by rw [z]; exact List.mem_map.mpr ⟨p, List.mem_of_getElem? h', rfl⟩)
    have e : valV (psK (a :: r)) (.inr p.1) = valV (psK r) (.inr p.1) := valV_neg (p := ((Sum.inr a.1 : Key), V.str a.2)) fun z => ne (Sum.inr.inj z)
    rw [e]
    exact valV_at nd.2 h'
theorem hasP_mem (n : Str) : ∀ ps : List (Str × Str), hasP ps n = false → n ∉ ps.map (·.1)
  | [], _ => by simp
  | a :: r, h => by
    have ne : a.1 ≠ n := fun z => by
      unfold hasP at h
      have e : valV (psK (a :: r)) (.inr n) = some (.str a.2) := valV_pos (p := ((Sum.inr a.1 : Key), V.str a.2)) (by rw [z])
      rw [e] at h
      cases h
    have e : valV (psK (a :: r)) (.inr n) = valV (psK r) (.inr n) := valV_neg (p := ((Sum.inr a.1 : Key), V.str a.2)) fun z => ne (Sum.inr.inj z)
    unfold hasP at h
    rw [e] at h
    have ih := hasP_mem n r h
    intro z
    rcases List.mem_cons.mp z with z | z
    · exact ne z.symm
    · exact ih z
theorem HAt.ne {H : Hp} {C h sd pl dn un p : Addr} {ps : List (Str × Str)} (a : HAt H C h sd pl dn un ps) (n : H p = none) : p ∉ [h, sd, pl, dn, un] := by
  obtain ⟨dx, L, fc, kn, pr, pq, ds, h1, h2, h3, h4, h5, h6, h7, h8⟩ := a
  intro z
  simp only [List.mem_cons, List.not_mem_nil, or_false] at z
  rcases z with rfl | rfl | rfl | rfl | rfl
  · rw [h1] at n; cases n
  · rw [h2] at n; cases n
  · rw [h3] at n; cases n
  · rw [h5] at n; cases n
  · rw [h7] at n; cases n
theorem HAt.bar {H H' : Hp} {C h sd pl dn un p : Addr} {ps : List (Str × Str)} (a : HAt H C h sd pl dn un ps) (b : Bar p H H') (n : p ∉ [h, sd, pl, dn, un]) : HAt H' C h sd pl dn un ps := by
  obtain ⟨dx, L, fc, kn, pr, pq, ds, h1, h2, h3, h4, h5, h6, h7, h8⟩ := a
  simp only [List.mem_cons, List.not_mem_nil, or_false, not_or] at n
  exact ⟨dx, L, fc, kn, pr, pq, ds, b _ _ h1 (fun z => n.1 z.symm), b _ _ h2 (fun z => n.2.1 z.symm), b _ _ h3 (fun z => n.2.2.1 z.symm), h4, b _ _ h5 (fun z => n.2.2.2.1 z.symm), h6, b _ _ h7 (fun z => n.2.2.2.2 z.symm), h8⟩
def spText : Sp := fun vs H Q _ => ∃ c : Int, vs = [.int c] ∧ ∀ (z : Str) (H' : Hp), z.length ≤ 100 → Same H H' → Q (.str z) H'
def spAsked (C : Addr) : Sp := fun vs H Q _ => ∃ (h sd pl dn un : Addr) (n s : Str) (ps : List (Str × Str)), vs = [.ref h, .str n, .str s] ∧ HAt H C h sd pl dn un ps ∧ n.length ≤ 1000 ∧ s.length ≤ 1000 ∧ ps.length < 1000 ∧
  (¬ GoodP n s → ∀ (p : Addr) (H' : Hp), Same H H' → H' p = some (.tup [.str "no name", .bl true, .bl false]) → Q (.ref p) H') ∧
  (GoodP n s → hasP ps n = true → ∀ (p : Addr) (H' : Hp), Same H H' → H' p = some (.tup [.str "name taken", .bl false, .bl true]) → Q (.ref p) H') ∧
  (GoodP n s → hasP ps n = false → ∀ H', Out [h, sd, pl, dn, un] H H' → HAt H' C h sd pl dn un (ps ++ [(n, s)]) → Q (.str "kept") H')
def spSide (C : Addr) : Sp := fun vs H Q _ => ∃ (h sd pl dn un : Addr) (ps : List (Str × Str)) (z : Str), vs = [.ref h, .str z] ∧ HAt H C h sd pl dn un ps ∧ z.length ≤ 1000 ∧ (∀ v, valV (psK ps) (.inr z) = some v → Q v H) ∧
  (valV (psK ps) (.inr z) = none → ∀ (p : Addr) (H' : Hp), Same H H' → H' p = some (.tup [.str "no person", .bl true]) → Q (.ref p) H')
abbrev sideL : List Str := ["man", "woman", "man", "woman", "Man", "", "sister"]
theorem side_tab {k : Nat} {s : Str} (h : sideL[k]? = some s) : sideOk s = decide (k ≤ 3) ∧ s.length ≤ 100 := by
  have hk : k < 7 := (List.getElem?_eq_some_iff.mp h).1
  have : k = 0 ∨ k = 1 ∨ k = 2 ∨ k = 3 ∨ k = 4 ∨ k = 5 ∨ k = 6 := by omega
  rcases this with rfl | rfl | rfl | rfl | rfl | rfl | rfl <;> (cases h; exact ⟨by decide +kernel, by decide +kernel⟩)
def spLaw (K : PySem.W.Frag) : Sp := fun vs H Q _ => ∃ (a : Addr) (ns : List Int), vs = [.ref a] ∧ SqL K H a (ns.map V.int) ∧ ns.length ≤ 63 ∧ ∀ H', Q (.bl true) H'
section
variable {P : Program} {w : World} {K : PySem.W.Frag} {mg : Str → Option Value} {base : Heap} {f C CL c_KinError c_BadName c_Taken c_NoPerson : Addr} {fd : FuncData}
theorem sc_law_fine : FnScope ["_law_name", "_law_signs"] ["_law_name"] (defScope s_law_fine) := ⟨rfl, rfl, rfl, by decide +kernel, rfl, by decide +kernel, by decide +kernel⟩
theorem ok_fine (F : Fun K "_law_fine" "_law_fine" s_law_fine f fd) (bl : Bl mg) : FnOk P w K mg base CX0 1 f fd ["_law_name"] spIsName := by
  refine F.ok sc_law_fine (fun vs H Q E h => ?_) (fun cdv A outer s H vs Q E hr h => ?_)
  · obtain ⟨z, rfl, _⟩ := h
    rfl
  obtain ⟨z, rfl, lz, q⟩ := h
  refine ⟨_, (pss_cons (ps_set (i := 1) sc_law_fine.nd rfl (Or.inr rfl) pe_str) (pss_cons (ps_if (PW.pt (pw_or (pt_cmpR op_eq (pv 0) pe_str (nomark _)) (pw_or (pt_cmpR op_gt (pe_callB (call_len_str) rfl bl.n_len bt_len (pa_cons (pv 0) pa_nil)) pe_int (nomark _)) (pw_or1 (pt_cmpR op_notin_str (pe_ix ix_str (pv 0) pe_int (fun _ _ => rfl)) (pe_slice sl_str (pv 1) po_none (po_some pe_int)) (by with_unfolding_all rfl)))))) (pss_one (ps_ret pe_bl)) pss_nil) (pss_one (ps_ret (pe_callB (allK (K := K) rfl rfl) rfl bl.n_all bt_all (pa_cons (pe_comp (x := "_law_sign") (fr := [("_law_signs", 1)]) (cl := [("_law_signs", s.heap.objs.size + 1)]) rfl ⟨by with_unfolding_all rfl, ⟨rfl, trivial⟩, rfl, by decide +kernel, rfl, by decide +kernel, rfl, ⟨⟨rfl, .inl rfl, .inl rfl, rfl⟩, trivial⟩, by decide +kernel⟩ (pi_str (pv 0)) (fun _ _ _ _ => ptl_nil) (fun _ _ _ _ => (pe_cmpR op_in_str (pv 0) (pv 1) (by with_unfolding_all rfl)))) pa_nil)))))), ?_⟩
  have sz : (10000 : Nat) ≤ sizeLine := by rw [sizeLine_eq]; omega
  have l36 : (Str.ofString "abcdefghijklmnopqrstuvwxyz0123456789").length = 36 := by decide +kernel
  have e26 : cutS (Str.ofString "abcdefghijklmnopqrstuvwxyz0123456789") none (some 26) = lettersS := by decide +kernel
  refine nameE ?_
  cases ez : z.cps.toList with
  | nil =>
    have e := str_nil ez
    rw [fine_nil ez] at q
    refine ⟨_, rfl, rfl, _, rfl, ite2 (fun _ => ?_) (fun c => absurd (decide_eq_true (by rw [e])) c)⟩
    exact q H (Same.refl H)
  | cons c r =>
    have zl := zlen z
    rw [ez, List.length_cons] at zl
    rw [fine_cons ez] at q
    refine ⟨_, rfl, rfl, _, rfl, ite2 (fun cc => ?_) (fun _ => ?_)⟩
    · have e : z = "" := V.str.inj (of_decide_eq_true cc)
      have e0 : (Str.ofString "").cps.toList = [] := by decide +kernel
      rw [e, e0] at ez
      cases ez
    refine ⟨_, rfl, z, rfl, by omega, _, _, rfl, rfl, _, rfl, ite2 (fun cc => ?_) (fun cc => ?_)⟩
    · have cc' : (12 : Int) < (z.length : Int) := of_decide_eq_true cc
      rw [decide_eq_false (by omega : ¬ z.length ≤ 12)] at q
      exact q H (Same.refl H)
    have l12 : z.length ≤ 12 := by
      have : ¬ ((12 : Int) < (z.length : Int)) := fun x => cc (decide_eq_true x)
      omega
    rw [decide_eq_true l12, Bool.true_and] at q
    refine ⟨_, rfl, _, _, _, rfl, rfl, by omega, atI_nat (j := 0) (by rw [ez]; rfl), _, rfl, _, rfl, _, rfl, by rw [l36]; omega, ?_⟩
    rw [e26]
    refine ⟨_, _, rfl, rfl, _, rfl, ite2 (fun cc => ?_) (fun cc => nextE ?_)⟩
    · have cc' : inS lettersS c = false := by
        have z : (!inS lettersS c) = true := cc
        cases e : inS lettersS c
        · rfl
        · rw [e] at z; cases z
      rw [cc', Bool.false_and] at q
      exact q H (Same.refl H)
    have cl : inS lettersS c = true := by
      cases e : inS lettersS c
      · exact absurd (show (!inS lettersS c) = true by rw [e]; rfl) cc
      · rfl
    rw [cl, Bool.true_and, ← ez] at q
    refine ⟨_, rfl, z, rfl, fun D hD => comp_strM (by omega) hD (fun c => V.bl (inS signsS c)) (fun i c hi H1 g1 Kt k => ?_) fun H1 g1 h1 => ?_⟩
    · exact ⟨_, rfl, _, rfl, _, _, rfl, rfl, k H1 (Same.refl _)⟩
    · refine ⟨D, z.cps.toList.map (inS signsS), rfl, SqL.of (by rw [h1, List.map_map]; rfl), ?_⟩
      rw [List.all_map]
      exact q H1 g1
theorem sc_law_asked : FnScope ["_law_book", "_law_name", "_law_side_here", "_law_told", "e"] ["_law_book", "_law_name", "_law_side_here"] (defScope s_law_asked) := ⟨rfl, rfl, rfl, by decide +kernel, rfl, by decide +kernel, by decide +kernel⟩
theorem ok_asked (F : Fun K "_law_asked" "_law_asked" s_law_asked f fd) (h_Hearth_person : HasMtX P w K mg base 6 "person" C ["self", "name", "side"] (spPerson C c_BadName c_Taken)) (m_KinError : mg "KinError" = some (.ref c_KinError)) (a_KinError : XAt K c_KinError)
    (m_BadName : mg "BadName" = some (.ref c_BadName)) (a_BadName : XAt K c_BadName) (na1 : NoAttr K c_BadName "word") (m_Taken : mg "Taken" = some (.ref c_Taken)) (a_Taken : XAt K c_Taken) (na2 : NoAttr K c_Taken "word")
    (mr1 : PySem.W.mroIn K c_BadName (.ref c_KinError) = some true) (mr2 : PySem.W.mroIn K c_Taken (.ref c_KinError) = some true) (mr3 : PySem.W.mroIn K c_BadName (.ref c_Taken) = some false) (mr4 : PySem.W.mroIn K c_Taken (.ref c_BadName) = some false) (mr5 : PySem.W.mroIn K c_BadName (.ref c_BadName) = some true) (bl : Bl mg) :
    FnOk P w K mg base CX0 7 f fd ["_law_book", "_law_name", "_law_side_here"] (spAsked C) := by
  refine F.ok sc_law_asked (fun vs H Q E h => ?_) (fun cdv A outer s H vs Q E hr h => ?_)
  · obtain ⟨h, sd, pl, dn, un, n, s, ps, rfl, _⟩ := h
    rfl
  obtain ⟨h, sd, pl, dn, un, n, s, ps, rfl, ha, ln, ls, lp, x1, x2, q⟩ := h
  have ne : c_BadName ≠ c_Taken := fun z => by subst z; rw [mr5] at mr3; cases mr3
  refine ⟨_, (pss_one (ps_try (B := c_KinError) (i := 4) ⟨rfl, rfl⟩ sc_law_asked.nd rfl rfl rfl m_KinError a_KinError (fun pn xe E hx ow => (pss_cons (ps_set (i := 3) sc_law_asked.nd rfl (Or.inl rfl) (pe_mtX h_Hearth_person hr (by omega) hx (pv 0) (pa_cons (pv 1) (pa_cons (pv 2) pa_nil)))) (pss_one (ps_ret (pe_ifExp (pt_cmpR op_isN (pv 3) pe_non (nomark _)) pe_str pe_str))))) (fun _ => (pss_one (ps_ret (pe_tupN (pa_cons (pe_xfldK (K := K) rfl (pv 4)) (pa_cons (pe_callB (isinstXK (K := K) rfl) rfl bl.n_isinstance bt_isinstance (pa_cons (pv 4) (pa_cons (pe_glob (v := .ref c_BadName) rfl m_BadName rfl) pa_nil))) (pa_cons (pe_callB (isinstXK (K := K) rfl) rfl bl.n_isinstance bt_isinstance (pa_cons (pv 4) (pa_cons (pe_glob (v := .ref c_Taken) rfl m_Taken rfl) pa_nil))) pa_nil))))))))), ?_⟩
  obtain ⟨dx, L, fc, kn, pr, pq, ds, h1, hrest⟩ := id ha
  refine ⟨_, rfl, h, dx, _, rfl, h1, rfl, _, rfl, _, rfl, h, sd, pl, dn, un, n, s, ps, rfl, ha, ln, ls, lp, fun ng => ?_, fun gd hs => ?_, fun gd hs H' o' a' => ?_⟩
  · intro a' d' H1 _ _ g e1 e2
    refine ⟨c_BadName, d', rfl, rfl, a_BadName, mr1, fun z' e3 => ?_⟩
    refine ⟨_, rfl, z', c_BadName, d', _, _, rfl, e3, e2, a_BadName, na1, rfl, ?_⟩
    refine ⟨_, rfl, z', c_BadName, d', _, _, _, true, rfl, rfl, e3, e2, a_BadName, kit_self _, ?_⟩
    refine ⟨_, rfl, z', c_BadName, d', _, _, _, false, rfl, rfl, e3, e2, a_BadName, kit_other a_Taken ne mr3, ?_⟩
    exact ⟨by show 3 ≤ sizeLine; decide, fun p H4 np g4 hp => x1 ng p H4 (g.trans g4) hp⟩
  · intro a' d' H1 _ _ g e1 e2
    refine ⟨c_Taken, d', rfl, rfl, a_Taken, mr2, fun z' e3 => ?_⟩
    refine ⟨_, rfl, z', c_Taken, d', _, _, rfl, e3, e2, a_Taken, na2, rfl, ?_⟩
    refine ⟨_, rfl, z', c_Taken, d', _, _, _, false, rfl, rfl, e3, e2, a_Taken, kit_other a_BadName (fun z => ne z.symm) mr4, ?_⟩
    refine ⟨_, rfl, z', c_Taken, d', _, _, _, true, rfl, rfl, e3, e2, a_Taken, kit_self _, ?_⟩
    exact ⟨by show 3 ≤ sizeLine; decide, fun p H4 np g4 hp => x2 gd hs p H4 (g.trans g4) hp⟩
  · refine nameE ?_
    exact ⟨_, rfl, rfl, _, rfl, iteT (q gd hs H' o' a')⟩
theorem sc_law_side : FnScope ["_law_book", "_law_name", "e"] ["_law_book", "_law_name"] (defScope s_law_side) := ⟨rfl, rfl, rfl, by decide +kernel, rfl, by decide +kernel, by decide +kernel⟩
theorem ok_side (F : Fun K "_law_side" "_law_side" s_law_side f fd) (h_Hearth_side_of : HasMtX P w K mg base 4 "side_of" C ["self", "name"] (spSideOf C c_NoPerson)) (m_KinError : mg "KinError" = some (.ref c_KinError)) (a_KinError : XAt K c_KinError)
    (m_NoPerson : mg "NoPerson" = some (.ref c_NoPerson)) (a_NoPerson : XAt K c_NoPerson) (na1 : NoAttr K c_NoPerson "word") (mr1 : PySem.W.mroIn K c_NoPerson (.ref c_KinError) = some true) (bl : Bl mg) : FnOk P w K mg base CX0 7 f fd ["_law_book", "_law_name"] (spSide C) := by
  refine F.ok sc_law_side (fun vs H Q E h => ?_) (fun cdv A outer s H vs Q E hr h => ?_)
  · obtain ⟨h, sd, pl, dn, un, ps, z, rfl, _⟩ := h
    rfl
  obtain ⟨h, sd, pl, dn, un, ps, z, rfl, ha, lz, q, x⟩ := h
  refine ⟨_, (pss_one (ps_try (B := c_KinError) (i := 2) ⟨rfl, rfl⟩ sc_law_side.nd rfl rfl rfl m_KinError a_KinError (fun pn xe E hx ow => (pss_one (ps_ret (pe_mtX h_Hearth_side_of hr (by omega) hx (pv 0) (pa_cons (pv 1) pa_nil))))) (fun _ => (pss_one (ps_ret (pe_tupN (pa_cons (pe_xfldK (K := K) rfl (pv 2)) (pa_cons (pe_callB (isinstXK (K := K) rfl) rfl bl.n_isinstance bt_isinstance (pa_cons (pv 2) (pa_cons (pe_glob (v := .ref c_NoPerson) rfl m_NoPerson rfl) pa_nil))) pa_nil)))))))), ?_⟩
  obtain ⟨dx, L, fc, kn, pr, pq, ds, h1, hrest⟩ := id ha
  refine ⟨_, rfl, h, dx, _, rfl, h1, rfl, _, rfl, h, sd, pl, dn, un, ps, z, rfl, ha, lz, q, fun no => ?_⟩
  intro a' d' H1 _ _ g e1 e2
  refine ⟨c_NoPerson, d', rfl, rfl, a_NoPerson, mr1, fun z' e3 => ?_⟩
  refine ⟨_, rfl, z', c_NoPerson, d', _, _, rfl, e3, e2, a_NoPerson, na1, rfl, ?_⟩
  refine ⟨_, rfl, z', c_NoPerson, d', _, _, _, true, rfl, rfl, e3, e2, a_NoPerson, kit_self _, ?_⟩
  exact ⟨by show 2 ≤ sizeLine; decide, fun p H4 np g4 hp => x no p H4 (g.trans g4) hp⟩
end
section
variable {P : Program} {w : World} {K : PySem.W.Frag} {mg : Str → Option Value} {base : Heap} {f C CL c_KinError c_BadName c_Taken c_NoPerson : Addr} {fd : FuncData}
theorem sc_law_text : FnScope ["_law_cell", "_law_signs", "_law_odd", "_law_drawn", "_law_text_here", "_law_at", "_law_sign"] ["_law_cell"] (defScope s_law_text) := ⟨rfl, rfl, rfl, by decide +kernel, rfl, by decide +kernel, by decide +kernel⟩
theorem ok_text (F : Fun K "_law_text" "_law_text" s_law_text f fd) (h_law_draws : HasFn P w K mg base 1 "_law_draws" ["_law_cell", "_law_parts"] (spDraws K)) (bl : Bl mg) : FnOk P w K mg base CX0 2 f fd ["_law_cell"] spText := by
  refine F.ok sc_law_text (fun vs H Q E h => ?_) (fun cdv A outer s H vs Q E hr h => ?_)
  · obtain ⟨c, rfl, _⟩ := h
    rfl
  obtain ⟨c, rfl, q⟩ := h
  refine ⟨_, (pss_cons (ps_set (i := 1) sc_law_text.nd rfl (Or.inr rfl) pe_str) (pss_cons (ps_set (i := 2) sc_law_text.nd rfl (Or.inl rfl) pe_str) (pss_cons (ps_set (i := 3) sc_law_text.nd rfl (Or.inl rfl) (pe_fn h_law_draws hr (by omega) rfl (pa_cons (pv 0) (pa_cons (pe_op op_catN (pe_lstN (pa_cons pe_int (pa_cons pe_int (pa_cons pe_int (pa_cons pe_int pa_nil))))) (pe_op op_repN (pe_lstN (pa_cons pe_int pa_nil)) pe_int)) pa_nil)))) (pss_cons (ps_set (i := 4) sc_law_text.nd rfl (Or.inl rfl) (pe_bm PySem.F.plainAttrs_str PySem.F.slot_str_join PySem.F.type_str_join (mt_joinK (K := K) rfl) pe_str (pa_cons (pe_comp (x := "_law_at") (fr := [("_law_signs", 1)]) (cl := [("_law_signs", s.heap.objs.size + 1)]) rfl ⟨by with_unfolding_all rfl, ⟨rfl, trivial⟩, rfl, by decide +kernel, rfl, by decide +kernel, rfl, ⟨⟨rfl, .inl rfl, .inl rfl, rfl⟩, trivial⟩, by decide +kernel⟩ (pi_list (pe_slice (sl_listN (K := K) rfl) (pv 3) (po_some pe_int) (po_some (pe_op op_add pe_int (pe_ix (ix_listK (K := K) rfl) (pv 3) pe_int (fun _ _ => rfl)))))) (fun _ _ _ _ => ptl_nil) (fun _ _ _ _ => (pe_ix ix_str (pv 1) (pv 0) (fun _ _ => rfl)))) pa_nil))) (pss_cons (ps_if (pt_cmpR op_gt (pe_ix (ix_listK (K := K) rfl) (pv 3) pe_int (fun _ _ => rfl)) pe_int (nomark _)) (pss_one (ps_set (i := 4) sc_law_text.nd rfl (Or.inl rfl) (pe_slice sl_str (pe_op op_add_str (pe_ix ix_str (pv 1) (pe_op op_mod (pe_ix (ix_listK (K := K) rfl) (pv 3) pe_int (fun _ _ => rfl)) pe_int) (fun _ _ => rfl)) (pv 4)) po_none (po_some pe_int)))) pss_nil) (pss_cons (ps_if (PW.pt (pw_and (pt_cmpR op_eq (pe_ix (ix_listK (K := K) rfl) (pv 3) pe_int (fun _ _ => rfl)) pe_int (nomark _)) (pw_and1 (pt_cmpR op_gt (pe_ix (ix_listK (K := K) rfl) (pv 3) pe_int (fun _ _ => rfl)) pe_int (nomark _))))) (pss_cons (ps_set (i := 5) sc_law_text.nd rfl (Or.inl rfl) (pe_op op_mod (pe_ix (ix_listK (K := K) rfl) (pv 3) pe_int (fun _ _ => rfl)) (pe_callB (call_len_str) rfl bl.n_len bt_len (pa_cons (pv 4) pa_nil)))) (pss_cons (ps_set (i := 6) sc_law_text.nd rfl (Or.inl rfl) (pe_ix ix_str (pv 2) (pe_op op_mod (pe_op op_add (pe_ix (ix_listK (K := K) rfl) (pv 3) pe_int (fun _ _ => rfl)) (pe_op op_mul pe_int (pe_ix (ix_listK (K := K) rfl) (pv 3) pe_int (fun _ _ => rfl)))) (pe_callB (call_len_str) rfl bl.n_len bt_len (pa_cons (pv 2) pa_nil))) (fun _ _ => rfl))) (pss_one (ps_set (i := 4) sc_law_text.nd rfl (Or.inl rfl) (pe_op op_add_str (pe_op op_add_str (pe_slice sl_str (pv 4) po_none (po_some (pv 5))) (pv 6)) (pe_slice sl_str (pv 4) (po_some (pe_op op_add (pv 5) pe_int)) po_none)))))) pss_nil) (pss_one (ps_ret (pv 4))))))))), ?_⟩
  have sz : (10000 : Nat) ≤ sizeLine := by rw [sizeLine_eq]; omega
  have l36 : (Str.ofString "abcdefghijklmnopqrstuvwxyz0123456789").length = 36 := by decide +kernel
  have lod : (Str.ofString " !\"#$&'()*+,-./:;<=>?@ABCXYZ[\\]^_`{|}~").length = 38 := by decide +kernel
  refine setC (setC (setT ?_))
  have r15 : ∀ p2 : Addr, ∀ H2 : Hp, H2 p2 = some (.lst [.int 36]) → ∀ Q : VK, Nw H2 (.lst ((List.replicate 15 (36 : Int)).map V.int)) Q → rRepN (.ref p2) (.int 15) H2 Q := by
    intro p2 H2 e2 Q k
    refine ⟨p2, 15, [.int 36], rfl, rfl, e2, by omega, by omega, ?_, ?_⟩
    · have e : ([V.int 36] : List V).length * (15 : Int).toNat = 15 := rfl
      rw [e]
      omega
    · have e : (List.replicate (15 : Int).toNat [V.int 36]).flatten = (List.replicate 15 (36 : Int)).map V.int := rfl
      rw [e]
      exact k
  refine ⟨_, rfl, by show 4 ≤ sizeLine; omega, fun p1 H1 n1 g1 e1 => ⟨by show 1 ≤ sizeLine; omega, fun p2 H2 n2 g2 e2 => r15 p2 H2 e2 _ fun p3 H3 n3 g3 e3 => ?_⟩⟩
  refine ⟨p1, p3, _, _, rfl, rfl, g3 _ _ (g2 _ _ e1), e3, by rw [List.length_map, List.length_replicate]; show 4 + 15 ≤ sizeLine; omega, fun p4 H4 n4 g4 e4 => ?_⟩
  have e4' : H4 p4 = some (.lst (([16, 4, 40, 13] ++ List.replicate 15 36 : List Int).map V.int)) := e4
  refine ⟨c, p4, [16, 4, 40, 13] ++ List.replicate 15 36, rfl, SqL.of e4', by decide, by decide, fun dl ds H5 nd g5 h5 bd => ?_⟩
  have g05 := ((g1.trans g2).trans (g3.trans g4)).trans g5
  clear e4 e4' e3 r15
  obtain ⟨d0, d1, d2, d3, rs, rfl, b0, b1, b2, b3, br⟩ : ∃ d0 d1 d2 d3 rs, ds = d0 :: d1 :: d2 :: d3 :: rs ∧ Bd d0 16 ∧ Bd d1 4 ∧ Bd d2 40 ∧ Bd d3 13 ∧ Paired Bd rs (List.replicate 15 36) := by
    cases bd with | cons h1 p => cases p with | cons h2 p => cases p with | cons h3 p => cases p with | cons h4 p =>
      exact ⟨_, _, _, _, _, rfl, h1, h2, h3, h4, p⟩
  have rl := paired_len br
  rw [List.length_replicate] at rl
  refine setT ?_
  obtain ⟨ms, em⟩ := cut_ints (d0 :: d1 :: d2 :: d3 :: rs) (some 4) (some (4 + d0))
  have inb : ∀ m ∈ ms, 0 ≤ m ∧ m < 36 := fun m hm => by
    have z : V.int m ∈ cutV ((d0 :: d1 :: d2 :: d3 :: rs).map V.int) (some 4) (some (4 + d0)) := by rw [em]; exact List.mem_map.mpr ⟨m, hm, rfl⟩
    have z1 := List.mem_of_mem_take z
    have e0 : HT.sIx ((d0 :: d1 :: d2 :: d3 :: rs).map V.int).length 0 (some 4) = 4 := by
      rw [show (some (4 : Int)) = some ((4 : Nat) : Int) from rfl, HT.sIx_nat, List.length_map]
      show min 4 (rs.length + 1 + 1 + 1 + 1) = 4
      omega
    rw [e0] at z1
    have z2 : V.int m ∈ rs.map V.int := z1
    obtain ⟨m', hm', e⟩ := List.mem_map.mp z2
    cases e
    exact bd_all br m hm'
  have ml : ms.length ≤ 19 := by
    have z : (ms.map V.int).length ≤ ((d0 :: d1 :: d2 :: d3 :: rs).map V.int).length := by rw [← em]; exact cutV_length _ _ _
    rw [List.length_map, List.length_map, List.length_cons, List.length_cons, List.length_cons, List.length_cons] at z
    omega
  let gS : Int → Str := fun m => ⟨#[(Str.ofString "abcdefghijklmnopqrstuvwxyz0123456789").cps.toList.getD m.toNat 0]⟩
  refine ⟨rfl, ?_⟩
  refine ⟨_, rfl, _, rfl, _, rfl, dl, _, _, _, rfl, rfl, SqL.of h5, atI_nat (j := 0) rfl, _, _, rfl, rfl, _, rfl, dl, _, rfl, SqL.of h5, fun cl H6 ncl g6 hcl => ?_⟩
  rw [em] at hcl
  refine ⟨cl, rfl, ⟨_, SqL.of hcl⟩, fun D hD => comp_listM (xs := ms.map V.int) (SqL.of hcl) (by rw [List.length_map]; omega) hD (fun v => match v with | .int m => .str (gS m) | _ => .non) (fun i v hi H7 g7 Kt k => ?_) fun H7 g7 h7 => ?_⟩
  · obtain ⟨m, rfl, hm⟩ := get_int hi
    obtain ⟨m0, m1⟩ := inb m (List.mem_of_getElem? hm)
    have hz := zlen (Str.ofString "abcdefghijklmnopqrstuvwxyz0123456789")
    rw [l36] at hz
    have e2 := atI_nat (xs := (Str.ofString "abcdefghijklmnopqrstuvwxyz0123456789").cps.toList) (j := m.toNat) (v := (Str.ofString "abcdefghijklmnopqrstuvwxyz0123456789").cps.toList.getD m.toNat 0) (by rw [List.getD_eq_getElem?_getD, List.getElem?_eq_getElem (by omega)]; rfl)
    rw [show ((m.toNat : Nat) : Int) = m by omega] at e2
    exact ⟨_, rfl, _, rfl, _, _, _, rfl, rfl, by omega, e2, k H7 (Same.refl _)⟩
  have hy : H7 D = some (.lst ((ms.map gS).map V.str)) := by
    rw [h7, List.map_map, List.map_map]
    rfl
  have y1 : ∀ y ∈ ms.map gS, y.length = 1 := fun y hy => by
    obtain ⟨m, _, rfl⟩ := List.mem_map.mp hy
    rfl
  have s1 := sum_ones _ y1
  have e0 : (Str.ofString "").length = 0 := rfl
  have jl := join_len (ms.map gS)
  rw [List.length_map] at s1
  refine ⟨"", D, ms.map gS, rfl, rfl, SqL.of hy, by rw [s1, e0]; omega, ?_⟩
  rw [s1] at jl
  generalize Str.join (Str.ofString "") (ms.map gS) = t0 at jl ⊢
  have g07 := g05.trans (g6.trans g7)
  have h57 := g7 _ _ (g6 _ _ h5)
  clear h7 hy y1 s1 inb em hcl h5 g7 g6 g5 g1 g2 g3 g4 bd
  have hz := zlen (Str.ofString "abcdefghijklmnopqrstuvwxyz0123456789")
  rw [l36] at hz
  have sgl : ∀ c : Nat, (⟨#[c]⟩ : Str).length = 1 := fun _ => rfl
  refine if_mid (fun σ H8 => H8 = H7 ∧ ∃ z : Str, z.length ≤ 40 ∧ (0 < d1 → 1 ≤ z.length) ∧ σ = [some (.int c), some (.str "abcdefghijklmnopqrstuvwxyz0123456789"), some (.str " !\"#$&'()*+,-./:;<=>?@ABCXYZ[\\]^_`{|}~"), some (.ref dl), some (.str z), none, none]) (fun nx hn => ?_) ?_
  · refine ⟨_, rfl, dl, _, _, _, rfl, rfl, SqL.of h57, atI_nat (j := 1) rfl, _, _, rfl, rfl, _, rfl, ite2 (fun cc => ?_) (fun cc => nextE (hn _ _ ⟨rfl, t0, by omega, fun z => absurd (decide_eq_true z) cc, rfl⟩))⟩
    have m0 := Int.emod_nonneg d2 (show (26 : Int) ≠ 0 by decide)
    have m1 := Int.emod_lt_of_pos d2 (show (0 : Int) < 26 by decide)
    have e2 := atI_nat (xs := (Str.ofString "abcdefghijklmnopqrstuvwxyz0123456789").cps.toList) (j := (d2 % 26).toNat) (v := (Str.ofString "abcdefghijklmnopqrstuvwxyz0123456789").cps.toList.getD (d2 % 26).toNat 0) (by rw [List.getD_eq_getElem?_getD, List.getElem?_eq_getElem (by omega)]; rfl)
    rw [show (((d2 % 26).toNat : Nat) : Int) = d2 % 26 by omega] at e2
    refine ⟨_, rfl, _, rfl, dl, _, _, _, rfl, rfl, SqL.of h57, atI_nat (j := 2) rfl, _, _, rfl, rfl, (by show (0 : Int) < 26; decide), _, _, _, rfl, rfl, by omega, e2, _, rfl, _, _, rfl, rfl, by rw [sgl]; omega, _, rfl, _, rfl, by rw [strLen_append, sgl]; omega, ?_⟩
    refine nameE (hn _ _ ⟨rfl, _, Nat.le_trans (cutS_length_le _ _ _) (by rw [strLen_append, sgl]; omega), fun _ => ?_, rfl⟩)
    generalize ey : (⟨#[(Str.ofString "abcdefghijklmnopqrstuvwxyz0123456789").cps.toList.getD (d2 % 26).toNat 0]⟩ : Str) ++ t0 = y
    have yl : 1 ≤ y.length := by rw [← ey, strLen_append, sgl]; omega
    show 1 ≤ (((y.cps.toList.drop _).take _).toArray).size
    rw [List.size_toArray, List.length_take, List.length_drop, zlen]
    have a1 : HT.sIx y.length y.length (some 12) = min 12 y.length := HT.sIx_nat _ _ 12
    have a2 : HT.sIx y.length 0 none = 0 := rfl
    rw [a1, a2]
    omega
  rintro σ H8 ⟨rfl, z, lz, z1, rfl⟩
  refine if_mid (fun σ H9 => H9 = H8 ∧ ∃ (z : Str) (o5 o6 : Option V), z.length ≤ 100 ∧ σ = [some (.int c), some (.str "abcdefghijklmnopqrstuvwxyz0123456789"), some (.str " !\"#$&'()*+,-./:;<=>?@ABCXYZ[\\]^_`{|}~"), some (.ref dl), some (.str z), o5, o6]) (fun nx hn => ?_) ?_
  · refine ⟨_, rfl, dl, _, _, _, rfl, rfl, SqL.of h57, atI_nat (j := 1) rfl, rfl, _, rfl, ite2 (fun cc => ?_) (fun cc => nextE (hn _ _ ⟨rfl, z, none, none, by omega, rfl⟩))⟩
    refine ⟨_, rfl, dl, _, _, _, rfl, rfl, SqL.of h57, atI_nat (j := 2) rfl, _, _, rfl, rfl, _, rfl, ite2 (fun _ => ?_) (fun _ => nextE (hn _ _ ⟨rfl, z, none, none, by omega, rfl⟩))⟩
    have d1e : d1 = 2 := V.int.inj (of_decide_eq_true cc)
    have zp := z1 (by omega)
    have ho := zlen (Str.ofString " !\"#$&'()*+,-./:;<=>?@ABCXYZ[\\]^_`{|}~")
    rw [lod] at ho
    refine setT ?_
    refine ⟨_, rfl, dl, _, _, _, rfl, rfl, SqL.of h57, atI_nat (j := 3) rfl, _, rfl, z, rfl, by omega, _, _, rfl, rfl, by omega, ?_⟩
    refine setT ?_
    have m0 := Int.emod_nonneg (d2 + 7 * d3) (show (38 : Int) ≠ 0 by decide)
    have m1 := Int.emod_lt_of_pos (d2 + 7 * d3) (show (0 : Int) < 38 by decide)
    have e2 := atI_nat (xs := (Str.ofString " !\"#$&'()*+,-./:;<=>?@ABCXYZ[\\]^_`{|}~").cps.toList) (j := ((d2 + 7 * d3) % 38).toNat) (v := (Str.ofString " !\"#$&'()*+,-./:;<=>?@ABCXYZ[\\]^_`{|}~").cps.toList.getD ((d2 + 7 * d3) % 38).toNat 0) (by rw [List.getD_eq_getElem?_getD, List.getElem?_eq_getElem (by omega)]; rfl)
    rw [show ((((d2 + 7 * d3) % 38).toNat : Nat) : Int) = (d2 + 7 * d3) % 38 by omega] at e2
    have l38 : (((Str.ofString " !\"#$&'()*+,-./:;<=>?@ABCXYZ[\\]^_`{|}~").length : Nat) : Int) = 38 := by rw [lod]; rfl
    refine ⟨_, rfl, _, rfl, dl, _, _, _, rfl, rfl, SqL.of h57, atI_nat (j := 2) rfl, _, rfl, dl, _, _, _, rfl, rfl, SqL.of h57, atI_nat (j := 3) rfl, _, _, rfl, rfl, .inl ⟨by decide, by decide⟩, _, _, rfl, rfl, _, rfl, _, rfl, by omega, _, _, rfl, rfl, (by rw [l38]; show (0 : Int) < 38; decide), ?_⟩
    rw [l38]
    refine ⟨_, _, _, rfl, rfl, by omega, e2, ?_⟩
    have c1 := cutS_length_le z none (some (d3 % ((z.length : Nat) : Int)))
    have c2 := cutS_length_le z (some (d3 % ((z.length : Nat) : Int) + 1)) none
    refine ⟨_, rfl, _, rfl, _, rfl, z, rfl, by omega, _, rfl, _, _, rfl, rfl, by rw [sgl]; omega, _, rfl, _, rfl, _, _, rfl, rfl, _, rfl, z, rfl, by omega, _, _, rfl, rfl, by rw [strLen_append, sgl]; omega, nameE (hn _ _ ⟨rfl, _, _, _, ?_, rfl⟩)⟩
    rw [strLen_append, strLen_append, sgl]
    omega
  rintro σ H9 ⟨rfl, z, o5, o6, lz, rfl⟩
  exact ⟨_, rfl, q z _ lz g07⟩
end
section
variable {P : Program} {w : World} {K : PySem.W.Frag} {mg : Str → Option Value} {base : Heap} {f C CL c_KinError c_BadName c_Taken c_NoPerson : Addr} {fd : FuncData}
theorem at_strs {H : Hp} {m : Nat} : ∀ zs : List Str, Paired (At H m) (zs.map V.str) (zs.map Dt.str)
  | [] => .nil
  | z :: zs => .cons (at_str z) (at_strs zs)
theorem at_names {H : Hp} {m : Nat} {a : Addr} {zs : List Str} (h : H a = some (.lst (zs.map V.str))) (l : zs.length ≤ 1000) : At H (m + 1) (.ref a) (.lst (zs.map Dt.str)) := at_lst h (by rw [List.length_map]; exact l) (at_strs zs)
def LI (H : Hp) (C h sd pl dn un s1 nm sa : Addr) (ms : List Int) (ps : List (Str × Str)) : Prop :=
  HAt H C h sd pl dn un ps ∧ H s1 = some (.lst (ms.map V.int)) ∧ s1 ∉ [h, sd, pl, dn, un] ∧ H nm = some (.lst ((ps.map (·.1)).map V.str)) ∧ nm ∉ [h, sd, pl, dn, un] ∧ H sa = some (.lst ((ps.map (·.2)).map V.str)) ∧ sa ∉ [h, sd, pl, dn, un] ∧
  (ps.map (·.1)).Nodup ∧ (∀ p ∈ ps, p.1.length ≤ 1000)
theorem LI.same {H H' : Hp} {C h sd pl dn un s1 nm sa : Addr} {ms : List Int} {ps : List (Str × Str)} (a : LI H C h sd pl dn un s1 nm sa ms ps) (g : Same H H') : LI H' C h sd pl dn un s1 nm sa ms ps :=
  ⟨a.1.same g, g _ _ a.2.1, a.2.2.1, g _ _ a.2.2.2.1, a.2.2.2.2.1, g _ _ a.2.2.2.2.2.1, a.2.2.2.2.2.2⟩
theorem LI.bar {H Hb H' : Hp} {C h sd pl dn un s1 nm sa p : Addr} {ms : List Int} {ps : List (Str × Str)} (a : LI H C h sd pl dn un s1 nm sa ms ps) (n : H p = none) (g : Same H Hb) (b : Bar p Hb H') : LI H' C h sd pl dn un s1 nm sa ms ps :=
  ⟨(a.1.same g).bar b (a.1.ne n), b _ _ (g _ _ a.2.1) (ne_of_none a.2.1 n), a.2.2.1, b _ _ (g _ _ a.2.2.2.1) (ne_of_none a.2.2.2.1 n), a.2.2.2.2.1, b _ _ (g _ _ a.2.2.2.2.2.1) (ne_of_none a.2.2.2.2.2.1 n), a.2.2.2.2.2.2⟩
theorem inV_ps' (n : Str) (ps : List (Str × Str)) : inV (.str n) ((ps.map (·.1)).map V.str) = hasP ps n := by
  rw [List.map_map]
  exact inV_ps n ps
theorem flat_ps' (ps : List (Str × Str)) : ((ps.map (·.1)).map V.str).all flatV = true := by
  rw [List.map_map]
  exact flat_ps ps
theorem nodup_snoc {ps : List (Str × Str)} {n s : Str} (h : (ps.map (·.1)).Nodup) (no : hasP ps n = false) : ((ps ++ [(n, s)]).map (·.1)).Nodup := by
  rw [List.map_append, List.nodup_append]
  refine ⟨h, by simp, fun a ha b hb => ?_⟩
  have e : b = n := by simpa using hb
  intro z
  rw [z, e] at ha
  exact hasP_mem n ps no ha
theorem sc_law : FnScope ["_law_script", "_law_book", "_law_names", "_law_sides", "_law_k", "_law_drawn", "_law_name", "_law_side_here", "_law_due", "_law_told"] ["_law_script"] (defScope s_law) := ⟨rfl, rfl, rfl, by decide +kernel, rfl, by decide +kernel, by decide +kernel⟩
theorem ok_law (F : Fun K "law" "law" s_law f fd) (h_law_draws : HasFn P w K mg base 1 "_law_draws" ["_law_cell", "_law_parts"] (spDraws K)) (h_law_same : HasFn P w K mg base 4 "_law_same" ["_law_found", "_law_due"] (spSame 4)) (h_law_text : HasFn P w K mg base 2 "_law_text" ["_law_cell"] spText)
    (h_law_fine : HasFn P w K mg base 1 "_law_fine" ["_law_name"] spIsName) (h_law_asked : HasFn P w K mg base 7 "_law_asked" ["_law_book", "_law_name", "_law_side_here"] (spAsked C)) (h_law_side : HasFn P w K mg base 7 "_law_side" ["_law_book", "_law_name"] (spSide C))
    (h_land_of : HasFn P w K mg base 7 "land_of" ["mother", "wife"] (spLandOf CL)) (h_Hearth : HasMk P w K mg base 1 "Hearth" C ["self", "land"] (spHInit C)) (h_Hearth_people : HasMt P w K mg base 1 "people" C ["self"] (spPeople C)) (h_Hearth_undoable : HasMt P w K mg base 1 "undoable" C ["self"] (spUndoable C)) (bl : Bl mg) :
    FnOk P w K mg base (CXe P w) 10 f fd ["_law_script"] (spLaw K) := by
  refine F.okX sc_law (fun vs H Q E h => ?_) (fun cdv A outer s H vs Q E hr h => ?_)
  · obtain ⟨a, ns, rfl, _⟩ := h
    rfl
  obtain ⟨a, ns, rfl, hs, hlen, q⟩ := h
  have hu := hr.units0
  refine ⟨_, (pss_cons (ps_set (i := 0) sc_law.nd rfl (Or.inl rfl) (pe_slice (sl_listN (K := K) rfl) (pv 0) po_none (po_some pe_int))) (pss_cons (ps_set (i := 1) sc_law.nd rfl (Or.inl rfl) (pe_mk h_Hearth hr (by omega) rfl (pa_cons (pe_fn h_land_of hr (by omega) rfl (pa_cons (pe_tupN (pa_cons pe_int (pa_cons pe_int pa_nil))) (pa_cons (pe_tupN (pa_cons pe_int (pa_cons pe_int pa_nil))) pa_nil))) pa_nil))) (pss_cons (ps_set (i := 2) sc_law.nd rfl (Or.inl rfl) (pe_lstN pa_nil)) (pss_cons (ps_set (i := 3) sc_law.nd rfl (Or.inl rfl) (pe_lstN pa_nil)) (pss_cons (ps_for ownF rfl (pi_range1 rfl bl.n_range (pa_cons (pe_callB (lenK (K := K) rfl) rfl bl.n_len bt_len (pa_cons (pv 0) pa_nil)) pa_nil)) (pg_name (i := 4) sc_law.nd rfl (Or.inl rfl)) (pss_cons (ps_set (i := 5) sc_law.nd rfl (Or.inl rfl) (pe_fn h_law_draws hr (by omega) rfl (pa_cons (pe_op op_add (pe_ix (ix_listK (K := K) rfl) (pv 0) (pv 4) (fun _ _ => rfl)) (pv 4)) (pa_cons (pe_lstN (pa_cons pe_int (pa_cons pe_int (pa_cons pe_int pa_nil)))) pa_nil)))) (pss_cons (ps_set (i := 6) sc_law.nd rfl (Or.inl rfl) (pe_fn h_law_text hr (by omega) rfl (pa_cons (pe_ix (ix_listK (K := K) rfl) (pv 0) (pv 4) (fun _ _ => rfl)) pa_nil))) (pss_cons (ps_if (PW.pt (pw_and (pt_cmpR op_gt (pe_ix (ix_listK (K := K) rfl) (pv 5) pe_int (fun _ _ => rfl)) pe_int (nomark _)) (pw_and1 (pt_cmpR (op_neE hu) (pv 2) (pe_lstN pa_nil) (nomark _))))) (pss_one (ps_set (i := 6) sc_law.nd rfl (Or.inl rfl) (pe_ix (ix_listK (K := K) rfl) (pv 2) (pe_op op_mod (pe_ix (ix_listK (K := K) rfl) (pv 5) pe_int (fun _ _ => rfl)) (pe_callB (lenK (K := K) rfl) rfl bl.n_len bt_len (pa_cons (pv 2) pa_nil))) (fun _ _ => rfl)))) pss_nil) (pss_cons (ps_set (i := 7) sc_law.nd rfl (Or.inl rfl) (pe_ix (ix_listK (K := K) rfl) (pe_lstN (pa_cons pe_str (pa_cons pe_str (pa_cons pe_str (pa_cons pe_str (pa_cons pe_str (pa_cons pe_str (pa_cons pe_str pa_nil)))))))) (pe_ix (ix_listK (K := K) rfl) (pv 5) pe_int (fun _ _ => rfl)) (fun _ _ => rfl))) (pss_cons (ps_set (i := 8) sc_law.nd rfl (Or.inl rfl) pe_str) (pss_cons (ps_if (PW.pt (pw_or (pt_not (pt_val (pe_fn h_law_fine hr (by omega) rfl (pa_cons (pv 6) pa_nil)))) (pw_or1 (pt_cmpR op_gt (pe_ix (ix_listK (K := K) rfl) (pv 5) pe_int (fun _ _ => rfl)) pe_int (nomark _))))) (pss_one (ps_set (i := 8) sc_law.nd rfl (Or.inl rfl) (pe_tupN (pa_cons pe_str (pa_cons pe_bl (pa_cons pe_bl pa_nil)))))) (pss_one (ps_if (pt_cmpR (inK (K := K) rfl) (pv 6) (pv 2) (by with_unfolding_all rfl)) (pss_one (ps_set (i := 8) sc_law.nd rfl (Or.inl rfl) (pe_tupN (pa_cons pe_str (pa_cons pe_bl (pa_cons pe_bl pa_nil)))))) pss_nil))) (pss_cons (ps_if (pt_not (pt_val (pe_fn h_law_same hr (by omega) rfl (pa_cons (pe_fn h_law_asked hr (by omega) rfl (pa_cons (pv 1) (pa_cons (pv 6) (pa_cons (pv 7) pa_nil)))) (pa_cons (pv 8) pa_nil))))) (pss_one (ps_ret pe_bl)) pss_nil) (pss_cons (ps_if (pt_cmpR (op_eqU (K := K) rfl hu) (pv 8) pe_str (nomark _)) (pss_cons (ps_set (i := 2) sc_law.nd rfl (Or.inl rfl) (pe_op op_catN (pv 2) (pe_lstN (pa_cons (pv 6) pa_nil)))) (pss_one (ps_set (i := 3) sc_law.nd rfl (Or.inl rfl) (pe_op op_catN (pv 3) (pe_lstN (pa_cons (pv 7) pa_nil)))))) pss_nil) (pss_cons (ps_set (i := 9) sc_law.nd rfl (Or.inl rfl) (pe_mt0 h_Hearth_people hr (by omega) (pv 1))) (pss_cons (ps_if (pt_not (pt_val (pe_fn h_law_same hr (by omega) rfl (pa_cons (pv 9) (pa_cons (pv 2) pa_nil))))) (pss_one (ps_ret pe_bl)) pss_nil) (pss_cons (ps_if (pt_not (pt_val (pe_fn h_law_same hr (by omega) rfl (pa_cons (pe_mt0 h_Hearth_undoable hr (by omega) (pv 1)) (pa_cons (pe_callB (lenK (K := K) rfl) rfl bl.n_len bt_len (pa_cons (pv 2) pa_nil)) pa_nil))))) (pss_one (ps_ret pe_bl)) pss_nil) (pss_one (ps_expr (pe_bm PySem.F.plainAttrs_list PySem.F.slot_list_append PySem.F.type_list_append mt_appendN (pv 9) (pa_cons pe_str pa_nil)))))))))))))))) (pss_cons (ps_for ownF rfl (pi_range1 rfl bl.n_range (pa_cons (pe_callB (lenK (K := K) rfl) rfl bl.n_len bt_len (pa_cons (pv 2) pa_nil)) pa_nil)) (pg_name (i := 4) sc_law.nd rfl (Or.inl rfl)) (pss_one (ps_if (pt_not (pt_val (pe_fn h_law_same hr (by omega) rfl (pa_cons (pe_fn h_law_side hr (by omega) rfl (pa_cons (pv 1) (pa_cons (pe_ix (ix_listK (K := K) rfl) (pv 2) (pv 4) (fun _ _ => rfl)) pa_nil))) (pa_cons (pe_ix (ix_listK (K := K) rfl) (pv 3) (pv 4) (fun _ _ => rfl)) pa_nil))))) (pss_one (ps_ret pe_bl)) pss_nil))) (pss_cons (ps_if (pt_cmpR (inK (K := K) rfl) pe_str (pv 2) (by with_unfolding_all rfl)) (pss_one (ps_ret pe_bl)) pss_nil) (pss_cons (ps_if (pt_not (pt_val (pe_fn h_law_same hr (by omega) rfl (pa_cons (pe_fn h_law_side hr (by omega) rfl (pa_cons (pv 1) (pa_cons pe_str pa_nil))) (pa_cons (pe_tupN (pa_cons pe_str (pa_cons pe_bl pa_nil))) pa_nil))))) (pss_one (ps_ret pe_bl)) pss_nil) (pss_one (ps_ret (pe_fn h_law_same hr (by omega) rfl (pa_cons (pe_mt0 h_Hearth_people hr (by omega) (pv 1)) (pa_cons (pv 2) pa_nil))))))))))))), ?_⟩
  have sz : (10000 : Nat) ≤ sizeLine := by rw [sizeLine_eq]; omega
  obtain ⟨ms, em⟩ := cut_ints ns none (some 63)
  have lms : ms.length ≤ ns.length := by
    have := cutV_length (ns.map V.int) none (some 63)
    rw [em, List.length_map, List.length_map] at this
    exact this
  refine setT ?_
  refine ⟨_, rfl, _, rfl, a, _, rfl, hs, fun s1 H0 n1 g0 hs0 => ?_⟩
  rw [em] at hs0
  refine setT ?_
  refine ⟨by show 2 ≤ sizeLine; omega, fun m H1 nm g1 hM => ⟨by show 2 ≤ sizeLine; omega, fun wi H2 nw g2 hW => ?_⟩⟩
  refine ⟨m, wi, [0, 1], [1, 0], rfl, g2 _ _ hM, hW, by decide, by decide, rfl, by decide, by decide, fun L H3 g3 la => fun x dx nx ndx nd => ?_⟩
  have nx' : upd H3 dx (.own x) x = none := by rw [upd_ne (fun z => nd z.symm)]; exact nx
  have g4 : Same H3 (upd (upd H3 dx (.own x)) x (.ins C dx [])) := (same_new ndx _).trans (same_new nx' _)
  refine ⟨x, dx, L, rfl, upd_same, fun sd pl dn un H4 f1 f2 f3 f4 b4 ha => ⟨rfl, ?_⟩⟩
  have hs3 := g4 _ _ (g3 _ _ (g2 _ _ (g1 _ _ hs0)))
  have nsx : s1 ≠ x := ne_of_none (g3 _ _ (g2 _ _ (g1 _ _ hs0))) nx
  have hs4 := b4 _ _ hs3 nsx
  have nfp : s1 ∉ [x, sd, pl, dn, un] := by
    intro z
    simp only [List.mem_cons, List.not_mem_nil, or_false] at z
    rcases z with z | z | z | z | z
    · exact nsx z
    · rw [← z, hs3] at f1; cases f1
    · rw [← z, hs3] at f2; cases f2
    · rw [← z, hs3] at f3; cases f3
    · rw [← z, hs3] at f4; cases f4
  clear f1 f2 f3 f4 b4 hs3 g4 nx' nx ndx nd la g3 hM hW hs0 g1 g2 g0 n1 nm nw hs em
  refine setT ?_
  refine ⟨by show 0 ≤ sizeLine; omega, fun nm0 H5 n5 g5 h5 => ?_⟩
  refine setT ?_
  refine ⟨by show 0 ≤ sizeLine; omega, fun sa0 H6 n6 g6 h6 => ?_⟩
  have li0 : LI H6 C x sd pl dn un s1 nm0 sa0 ms [] := ⟨(ha.same g5).same g6, g6 _ _ (g5 _ _ hs4), nfp, g6 _ _ h5, ha.ne n5, h6, (ha.same g5).ne n6, List.nodup_nil, fun p hp => by cases hp⟩
  clear h5 h6 n5 n6 g5 g6 hs4 ha
  dsimp only
  have el : ∀ zs : List Int, (zs.map V.int).length = zs.length := fun zs => List.length_map _
  have nl : ∀ qs : List (Str × Str), ((qs.map (·.1)).map V.str).length = qs.length := fun qs => by rw [List.length_map, List.length_map]
  have nl2 : ∀ qs : List (Str × Str), ((qs.map (·.2)).map V.str).length = qs.length := fun qs => by rw [List.length_map, List.length_map]
  refine seq_mid (fun σ H7 => ∃ (nm sa : Addr) (ps : List (Str × Str)) (o4 o5 o6 o7 o8 o9 : Option V), LI H7 C x sd pl dn un s1 nm sa ms ps ∧ ps.length ≤ ms.length ∧ σ = [some (.ref s1), some (.ref x), some (.ref nm), some (.ref sa), o4, o5, o6, o7, o8, o9]) (fun nx0 hn0 => ?_) ?_
  · refine ⟨_, rfl, s1, _, rfl, .inl (SqL.of li0.2.1), _, rfl, by rw [el]; omega, by rw [el]; omega, for_range (lo := 0) (n := (((ms.map V.int).length : Nat) : Int).toNat)
      (fun i σ H7 => ∃ (nm sa : Addr) (ps : List (Str × Str)) (o4 o5 o6 o7 o8 o9 : Option V), LI H7 C x sd pl dn un s1 nm sa ms ps ∧ ps.length ≤ i ∧ σ = [some (.ref s1), some (.ref x), some (.ref nm), some (.ref sa), o4, o5, o6, o7, o8, o9])
      ⟨nm0, sa0, [], none, none, none, none, none, none, li0, Nat.le_refl _, rfl⟩ ?_ ?_⟩
    · rintro i σ H7 hi ⟨nm, sa, ps, o4, o5, o6, o7, o8, o9, li, lp, rfl⟩
      rw [Int.toNat_natCast, el] at hi
      rw [Int.zero_add]
      have ci : ms[i]? = some ms[i] := List.getElem?_eq_getElem hi
      have at1 : atI (ms.map V.int) (i : Int) = some (.int ms[i]) := atI_nat (by rw [List.getElem?_map, ci]; rfl)
      refine nameE ?_
      refine setT ?_
      refine ⟨_, rfl, _, rfl, s1, _, _, _, rfl, rfl, SqL.of li.2.1, at1, _, rfl, _, _, rfl, rfl, by show 3 ≤ sizeLine; omega, fun p1 H8 n8 g8 e8 => ?_⟩
      refine ⟨ms[i] + (i : Int), p1, [11, 61, 7], rfl, SqL.of e8, by decide, by decide, fun dl ds H9 nd g9 h9 bd => ?_⟩
      obtain ⟨d0, d1, d2, rfl, b0, b1, b2⟩ := paired3 bd
      have li9 := (li.same g8).same g9
      refine setT ?_
      refine ⟨_, rfl, _, rfl, s1, _, _, _, rfl, rfl, SqL.of li9.2.1, at1, ms[i], rfl, fun z0 H10 lz0 g10 => ?_⟩
      have li10 := li9.same g10
      have h10 := g10 _ _ h9
      refine if_mid (fun σ H11 => ∃ z : Str, z.length ≤ 1000 ∧ Same H10 H11 ∧ σ = [some (.ref s1), some (.ref x), some (.ref nm), some (.ref sa), some (.int (i : Int)), some (.ref dl), some (.str z), o7, o8, o9]) (fun nx hn => ?_) ?_
      · refine ⟨_, rfl, dl, _, _, _, rfl, rfl, SqL.of h10, atI_nat (j := 0) rfl, _, _, rfl, rfl, _, rfl, ite2 (fun _ => ?_) (fun _ => nextE (hn _ _ ⟨z0, by omega, Same.refl _, rfl⟩))⟩
        refine ⟨_, rfl, by show 0 ≤ sizeLine; omega, fun p2 H11 n11 g11 e11 => ⟨nm, p2, _, rfl, rfl, SqL.of (g11 _ _ li10.2.2.2.1), SqL.of e11, _, rfl, ?_⟩⟩
        rw [if_pos rfl]
        refine ite2 (fun cc => ?_) (fun _ => nextE (hn _ _ ⟨z0, by omega, g11, rfl⟩))
        have pp : 0 < ps.length := by
          cases ps with
          | nil => cases cc
          | cons p r => simp
        have m0 := Int.emod_nonneg d1 (show ((ps.length : Nat) : Int) ≠ 0 by omega)
        have m1 := Int.emod_lt_of_pos d1 (show (0 : Int) < ((ps.length : Nat) : Int) by omega)
        have jl : (d1 % ((ps.length : Nat) : Int)).toNat < ps.length := by omega
        have e2 := atI_nat (xs := (ps.map (·.1)).map V.str) (j := (d1 % ((ps.length : Nat) : Int)).toNat) (v := .str (ps[(d1 % ((ps.length : Nat) : Int)).toNat]).1) (by rw [List.getElem?_map, List.getElem?_map, List.getElem?_eq_getElem jl]; rfl)
        rw [show (((d1 % ((ps.length : Nat) : Int)).toNat : Nat) : Int) = d1 % ((ps.length : Nat) : Int) by omega] at e2
        refine ⟨_, rfl, _, rfl, dl, _, _, _, rfl, rfl, SqL.of (g11 _ _ h10), atI_nat (j := 1) rfl, _, rfl, nm, _, rfl, .inl (SqL.of (g11 _ _ li10.2.2.2.1)), _, _, rfl, rfl, ?_, ?_⟩
        · rw [nl]
          show (0 : Int) < _
          omega
        rw [nl]
        refine ⟨nm, _, _, _, rfl, rfl, SqL.of (g11 _ _ li10.2.2.2.1), e2, nameE (hn _ _ ⟨_, li10.2.2.2.2.2.2.2.2 _ (List.getElem_mem jl), g11, rfl⟩)⟩
      rintro σ H11 ⟨z, lz, g11, rfl⟩
      obtain ⟨k, rfl⟩ : ∃ k : Nat, d2 = (k : Int) := ⟨d2.toNat, by have := b2.1; omega⟩
      have hk : k < sideL.length := by have := b2.2; show k < 7; omega
      obtain ⟨so, ls⟩ := side_tab (List.getElem?_eq_getElem hk)
      generalize es : sideL[k] = s at so ls
      have ats : atI (sideL.map V.str) (k : Int) = some (.str s) := atI_nat (by rw [List.getElem?_map, List.getElem?_eq_getElem hk, es]; rfl)
      refine setT ?_
      refine ⟨by show 7 ≤ sizeLine; omega, fun p3 H12 n12 g12 e12 => ⟨_, rfl, dl, _, _, _, rfl, rfl, SqL.of (g12 _ _ (g11 _ _ h10)), atI_nat (j := 2) rfl, p3, _, _, _, rfl, rfl, SqL.of e12, ats, ?_⟩⟩
      have li12 := li10.same (g11.trans g12)
      have h12 := g12 _ _ (g11 _ _ h10)
      refine setC ?_
      refine if_mid (fun σ H13 => ∃ dv : V, Same H12 H13 ∧ σ = [some (.ref s1), some (.ref x), some (.ref nm), some (.ref sa), some (.int (i : Int)), some (.ref dl), some (.str z), some (.str s), some dv, o9] ∧
        ((¬ GoodP z s ∧ ∃ p, dv = .ref p ∧ H13 p = some (.tup [.str "no name", .bl true, .bl false])) ∨ (GoodP z s ∧ hasP ps z = true ∧ ∃ p, dv = .ref p ∧ H13 p = some (.tup [.str "name taken", .bl false, .bl true])) ∨ (GoodP z s ∧ hasP ps z = false ∧ dv = .str "kept"))) (fun nx hn => ?_) ?_
      · refine ⟨_, rfl, z, rfl, lz, fun H13 g13 => ⟨_, rfl, ite2 (fun cc => ?_) (fun cc => ?_)⟩⟩
        · exact ⟨by show 3 ≤ sizeLine; omega, fun p H14 np g14 hp => nameE (hn _ _ ⟨_, g13.trans g14, rfl, .inl ⟨(fun gd => by rw [gd.1] at cc; cases cc), p, rfl, hp⟩⟩)⟩
        have fn : fineN z = true := by
          cases e : fineN z
          · rw [e] at cc; exact absurd rfl cc
          · rfl
        refine ⟨_, rfl, dl, _, _, _, rfl, rfl, SqL.of (g13 _ _ h12), atI_nat (j := 2) rfl, _, _, rfl, rfl, _, rfl, ite2 (fun c2 => ?_) (fun c2 => ?_)⟩
        · have c3 : (3 : Int) < (k : Int) := of_decide_eq_true c2
          rw [decide_eq_false (by omega : ¬ k ≤ 3)] at so
          exact ⟨by show 3 ≤ sizeLine; omega, fun p H14 np g14 hp => nameE (hn _ _ ⟨_, g13.trans g14, rfl, .inl ⟨(fun gd => by rw [gd.2] at so; cases so), p, rfl, hp⟩⟩)⟩
        have c3 : ¬ (3 : Int) < (k : Int) := fun h => c2 (decide_eq_true h)
        rw [decide_eq_true (by omega : k ≤ 3)] at so
        refine ⟨_, rfl, _, rfl, nm, _, rfl, .inl (SqL.of (g13 _ _ li12.2.2.2.1)), rfl, flat_ps' ps, _, rfl, ?_⟩
        rw [if_neg Bool.false_ne_true, inV_ps']
        refine ite2 (fun hh => ?_) (fun hh => ?_)
        · exact ⟨by show 3 ≤ sizeLine; omega, fun p H14 np g14 hp => nameE (hn _ _ ⟨_, g13.trans g14, rfl, .inr (.inl ⟨⟨fn, so⟩, hh, p, rfl, hp⟩)⟩)⟩
        · refine nextE (hn _ _ ⟨_, g13, rfl, .inr (.inr ⟨⟨fn, so⟩, ?_, rfl⟩)⟩)
          cases e : hasP ps z
          · rfl
          · exact absurd e hh
      rintro σ H13 ⟨dv, g13, rfl, cs⟩
      have li13 := li12.same g13
      refine if_mid (fun σ H14 => ∃ ps2 : List (Str × Str), HAt H14 C x sd pl dn un ps2 ∧ H14 s1 = some (.lst (ms.map V.int)) ∧ H14 nm = some (.lst ((ps.map (·.1)).map V.str)) ∧ H14 sa = some (.lst ((ps.map (·.2)).map V.str)) ∧ σ = [some (.ref s1), some (.ref x), some (.ref nm), some (.ref sa), some (.int (i : Int)), some (.ref dl), some (.str z), some (.str s), some dv, o9] ∧
        ((ps2 = ps ∧ ∃ p xs, dv = .ref p ∧ H14 p = some (.tup xs)) ∨ (ps2 = ps ++ [(z, s)] ∧ hasP ps z = false ∧ dv = .str "kept"))) (fun nx hn => ?_) ?_
      · refine ⟨_, rfl, _, rfl, _, rfl, x, sd, pl, dn, un, z, s, ps, rfl, li13.1, lz, by omega, by omega, fun ng p H14 g14 hp => ?_, fun gd hs p H14 g14 hp => ?_, fun gd hs H14 o14 a14 => ?_⟩
        · rcases cs with ⟨_, p', rfl, hp'⟩ | ⟨gd, _⟩ | ⟨gd, _⟩
          · refine ⟨_, rfl, _, _, .tup [.str "no name", .bl true, .bl false], 3, rfl, rfl, at_tup hp (by show 3 ≤ 1000; decide) (.cons (at_str _) (.cons (at_bl _) (.cons (at_bl _) .nil))), at_tup (g14 _ _ hp') (by show 3 ≤ 1000; decide) (.cons (at_str _) (.cons (at_bl _) (.cons (at_bl _) .nil))), fun H15 g15 => ⟨_, rfl, iteF (nextE (hn _ _ ?_))⟩⟩
            have l15 := li13.same (g14.trans g15)
            exact ⟨ps, l15.1, l15.2.1, l15.2.2.2.1, l15.2.2.2.2.2.1, rfl, .inl ⟨rfl, p', _, rfl, g15 _ _ (g14 _ _ hp')⟩⟩
          · exact absurd gd ng
          · exact absurd gd ng
        · rcases cs with ⟨ng, _⟩ | ⟨_, _, p', rfl, hp'⟩ | ⟨_, no, _⟩
          · exact absurd gd ng
          · refine ⟨_, rfl, _, _, .tup [.str "name taken", .bl false, .bl true], 3, rfl, rfl, at_tup hp (by show 3 ≤ 1000; decide) (.cons (at_str _) (.cons (at_bl _) (.cons (at_bl _) .nil))), at_tup (g14 _ _ hp') (by show 3 ≤ 1000; decide) (.cons (at_str _) (.cons (at_bl _) (.cons (at_bl _) .nil))), fun H15 g15 => ⟨_, rfl, iteF (nextE (hn _ _ ?_))⟩⟩
            have l15 := li13.same (g14.trans g15)
            exact ⟨ps, l15.1, l15.2.1, l15.2.2.2.1, l15.2.2.2.2.2.1, rfl, .inl ⟨rfl, p', _, rfl, g15 _ _ (g14 _ _ hp')⟩⟩
          · rw [hs] at no
            cases no
        · rcases cs with ⟨ng, _⟩ | ⟨_, hh, _⟩ | ⟨_, no, rfl⟩
          · exact absurd gd ng
          · rw [hs] at hh
            cases hh
          · refine ⟨_, rfl, _, _, .str "kept", 3, rfl, rfl, at_str _, at_str _, fun H15 g15 => ⟨_, rfl, iteF (nextE (hn _ _ ?_))⟩⟩
            exact ⟨_, a14.same g15, g15 _ _ (o14 _ _ li13.2.1 li13.2.2.1), g15 _ _ (o14 _ _ li13.2.2.2.1 li13.2.2.2.2.1), g15 _ _ (o14 _ _ li13.2.2.2.2.2.1 li13.2.2.2.2.2.2.1), rfl, .inr ⟨rfl, no, rfl⟩⟩
      clear cs
      rintro σ H14 ⟨ps2, a14, k1, k2, k3, rfl, cs⟩
      refine if_mid (fun σ H16 => ∃ (nm' sa' : Addr), LI H16 C x sd pl dn un s1 nm' sa' ms ps2 ∧ ps2.length ≤ i + 1 ∧ σ = [some (.ref s1), some (.ref x), some (.ref nm'), some (.ref sa'), some (.int (i : Int)), some (.ref dl), some (.str z), some (.str s), some dv, o9]) (fun nx hn => ?_) ?_
      · rcases cs with ⟨rfl, p, xs, rfl, hp⟩ | ⟨rfl, no, rfl⟩
        · exact ⟨_, rfl, "kept", rfl, .inr ⟨p, xs, rfl, SqT.of hp, _, rfl, iteF (nextE (hn _ _ ⟨nm, sa, ⟨a14, k1, li.2.2.1, k2, li.2.2.2.2.1, k3, li.2.2.2.2.2.2⟩, by omega, rfl⟩))⟩⟩
        · refine ⟨_, rfl, "kept", rfl, .inl ⟨"kept", rfl, _, rfl, ?_⟩⟩
          rw [decide_eq_true rfl]
          refine iteT ?_
          refine setT ?_
          refine ⟨_, rfl, _, rfl, by show 1 ≤ sizeLine; omega, fun p H15 n15 g15 e15 => ⟨nm, p, _, _, rfl, rfl, g15 _ _ k2, e15, by rw [nl]; show ps.length + 1 ≤ _; omega, fun nm' H16 n16 g16 e16 => ?_⟩⟩
          have g1 := g15.trans g16
          refine ⟨_, rfl, _, rfl, by show 1 ≤ sizeLine; omega, fun p' H17 n17 g17 e17 => ⟨sa, p', _, _, rfl, rfl, g17 _ _ (g1 _ _ k3), e17, by rw [nl2]; show ps.length + 1 ≤ _; omega, fun sa' H18 n18 g18 e18 => nameE (hn _ _ ⟨nm', sa', ?_, by rw [List.length_append]; show ps.length + 1 ≤ _; omega, rfl⟩)⟩⟩
          have g2 := g1.trans (g17.trans g18)
          refine ⟨a14.same g2, g2 _ _ k1, li.2.2.1, ?_, (a14.same g15).ne n16, ?_, (a14.same (g1.trans g17)).ne n18, nodup_snoc li.2.2.2.2.2.2.2.1 no, fun r hr => ?_⟩
          · rw [g18 _ _ (g17 _ _ e16), List.map_append, List.map_append]
            rfl
          · rw [e18, List.map_append, List.map_append]
            rfl
          · rcases List.mem_append.mp hr with hr | hr
            · exact li.2.2.2.2.2.2.2.2 r hr
            · have e : r = (z, s) := by simpa using hr
              rw [e]
              exact lz
      clear cs a14 k1 k2 k3 li13 li12 li10 li9 li
      rintro σ H16 ⟨nm', sa', li, lp2, rfl⟩
      refine setT ?_
      obtain ⟨dx', L', fc, kn, pr, pq, dsn, hx, hrest⟩ := id li.1
      refine ⟨_, rfl, x, dx', _, rfl, hx, rfl, x, sd, pl, dn, un, ps2, rfl, li.1, fun tl H17 n17 g17 e17 => ?_⟩
      have li17 := li.same g17
      have et : H17 tl = some (.lst ((ps2.map (·.1)).map V.str)) := by rw [e17, List.map_map]; rfl
      refine ⟨_, rfl, _, rfl, _, _, .lst ((ps2.map (·.1)).map Dt.str), 3, rfl, rfl, at_names et (by rw [List.length_map]; omega), at_names li17.2.2.2.1 (by rw [List.length_map]; omega), fun H18 g18 => ⟨_, rfl, iteF (nextE ?_)⟩⟩
      have li18 := li17.same g18
      refine ⟨_, rfl, x, dx', _, rfl, g18 _ _ (g17 _ _ hx), rfl, x, sd, pl, dn, un, ps2, rfl, li18.1, _, rfl, nm', _, rfl, .inl (SqL.of li18.2.2.2.1), _, _, .int (ps2.length : Int), 3, rfl, rfl, at_int _, by rw [nl]; exact at_int _, fun H19 g19 => ⟨_, rfl, iteF (nextE ?_)⟩⟩
      have et19 := g19 _ _ (g18 _ _ et)
      refine ⟨_, rfl, .inl ⟨rfl, _, SqL.of et19⟩, tl, _, _, rfl, rfl, et19, by rw [nl]; omega, fun H20 b20 e20 => ?_⟩
      exact ⟨nm', sa', ps2, _, _, _, _, _, _, li.bar n17 (g17.trans (g18.trans g19)) b20, lp2, rfl⟩
    · rintro σ H7 ⟨nm, sa, ps, o4, o5, o6, o7, o8, o9, li, lp, rfl⟩
      rw [Int.toNat_natCast, el] at lp
      exact hn0 _ _ ⟨nm, sa, ps, o4, o5, o6, o7, o8, o9, li, lp, rfl⟩
  clear li0
  rintro σ H7 ⟨nm, sa, ps, o4, o5, o6, o7, o8, o9, li, lp, rfl⟩
  refine seq_mid (fun σ H8 => LI H8 C x sd pl dn un s1 nm sa ms ps ∧ ∃ o4 : Option V, σ = [some (.ref s1), some (.ref x), some (.ref nm), some (.ref sa), o4, o5, o6, o7, o8, o9]) (fun nx0 hn0 => ?_) ?_
  · refine ⟨_, rfl, nm, _, rfl, .inl (SqL.of li.2.2.2.1), _, rfl, by rw [nl]; omega, by rw [nl]; omega, for_range (lo := 0) (n := ((((ps.map (·.1)).map V.str).length : Nat) : Int).toNat)
      (fun i σ H8 => LI H8 C x sd pl dn un s1 nm sa ms ps ∧ ∃ o4 : Option V, σ = [some (.ref s1), some (.ref x), some (.ref nm), some (.ref sa), o4, o5, o6, o7, o8, o9]) ⟨li, o4, rfl⟩ ?_ ?_⟩
    · rintro i σ H8 hi ⟨li, o4, rfl⟩
      rw [Int.toNat_natCast, nl] at hi
      rw [Int.zero_add]
      have ci : ps[i]? = some ps[i] := List.getElem?_eq_getElem hi
      have at1 : atI ((ps.map (·.1)).map V.str) (i : Int) = some (.str ps[i].1) := atI_nat (by rw [List.getElem?_map, List.getElem?_map, ci]; rfl)
      have at2 : atI ((ps.map (·.2)).map V.str) (i : Int) = some (.str ps[i].2) := atI_nat (by rw [List.getElem?_map, List.getElem?_map, ci]; rfl)
      have vv := valV_at li.2.2.2.2.2.2.2.1 ci
      refine nameE ?_
      refine ⟨_, rfl, _, rfl, _, rfl, nm, _, _, _, rfl, rfl, SqL.of li.2.2.2.1, at1, x, sd, pl, dn, un, ps, ps[i].1, rfl, li.1, li.2.2.2.2.2.2.2.2 _ (List.getElem_mem hi), fun v hv => ?_, fun no => by rw [vv] at no; cases no⟩
      rw [vv] at hv
      cases hv
      exact ⟨_, rfl, _, rfl, sa, _, _, _, rfl, rfl, SqL.of li.2.2.2.2.2.1, at2, _, _, .str ps[i].2, 3, rfl, rfl, at_str _, at_str _, fun H9 g9 => ⟨_, rfl, iteF (nextE ⟨li.same g9, _, rfl⟩)⟩⟩
    · rintro σ H8 ⟨li, o4, rfl⟩
      exact hn0 _ _ ⟨li, o4, rfl⟩
  clear li
  rintro σ H8 ⟨li, o4, rfl⟩
  refine ⟨_, rfl, nm, _, rfl, .inl (SqL.of li.2.2.2.1), rfl, flat_ps' ps, _, rfl, ?_⟩
  rw [if_neg Bool.false_ne_true, inV_ps']
  refine ite2 (fun _ => q _) (fun hh => nextE ?_)
  have nv : valV (psK ps) (.inr "stranger") = none := by
    cases e : valV (psK ps) (.inr "stranger") with
    | none => rfl
    | some v => exact absurd (show hasP ps "stranger" = true by unfold hasP; rw [e]; rfl) hh
  have l8 : (Str.ofString "stranger").length ≤ 1000 := by decide +kernel
  refine ⟨_, rfl, x, sd, pl, dn, un, ps, "stranger", rfl, li.1, l8, (fun v hv => by rw [nv] at hv; cases hv), fun _ p H9 g9 hp => ?_⟩
  refine ⟨by show 2 ≤ sizeLine; omega, fun p2 H10 n10 g10 e10 => ⟨_, _, .tup [.str "no person", .bl true], 3, rfl, rfl, at_tup (g10 _ _ hp) (by show 2 ≤ 1000; decide) (.cons (at_str _) (.cons (at_bl _) .nil)), at_tup e10 (by show 2 ≤ 1000; decide) (.cons (at_str _) (.cons (at_bl _) .nil)), fun H11 g11 => ⟨_, rfl, iteF (nextE ?_)⟩⟩⟩
  have li11 := li.same (g9.trans (g10.trans g11))
  obtain ⟨dx', L', fc, kn, pr, pq, dsn, hx, hrest⟩ := id li11.1
  refine ⟨_, rfl, x, dx', _, rfl, hx, rfl, x, sd, pl, dn, un, ps, rfl, li11.1, fun tl H12 n12 g12 e12 => ?_⟩
  have et : H12 tl = some (.lst ((ps.map (·.1)).map V.str)) := by rw [e12, List.map_map]; rfl
  exact ⟨_, rfl, _, _, .lst ((ps.map (·.1)).map Dt.str), 3, rfl, rfl, at_names et (by rw [List.length_map]; omega), at_names (li11.same g12).2.2.2.1 (by rw [List.length_map]; omega), fun H13 _ => q H13⟩
end
theorem us0 {C : List Value → Prop} (us : List Value) (hl : us.length = 0) (z : C []) : C us := by
  have e := List.eq_nil_of_length_eq_zero hl
  rw [e]
  exact z
theorem usS {C : List Value → Prop} {n : Nat} (us : List Value) (hl : us.length = n + 1) (z : ∀ a r, r.length = n → C (a :: r)) : C us := by
  cases us with
  | nil => cases hl
  | cons a r => exact z a r (Nat.succ.inj hl)
theorem us1 {C : List Value → Prop} (us : List Value) (hl : us.length = 1) (z : ∀ a, C [a]) : C us := usS us hl fun a r h => us0 (C := fun r => C (a :: r)) r h (z a)
theorem us2 {C : List Value → Prop} (us : List Value) (hl : us.length = 2) (z : ∀ a b, C [a, b]) : C us := usS us hl fun a r h => us1 (C := fun r => C (a :: r)) r h (z a)
theorem us3 {C : List Value → Prop} (us : List Value) (hl : us.length = 3) (z : ∀ a b c, C [a, b, c]) : C us := usS us hl fun a r h => us2 (C := fun r => C (a :: r)) r h (z a)
theorem us4 {C : List Value → Prop} (us : List Value) (hl : us.length = 4) (z : ∀ a b c d, C [a, b, c, d]) : C us := usS us hl fun a r h => us3 (C := fun r => C (a :: r)) r h (z a)
theorem all_mk {l : PySem.W.OpenLaw} {w : World} {K : PySem.W.Frag} {h : Heap} {mg : Str → Option Value} {fa : Addr}
    {f1 : Addr} {od1 an1 : Option Addr} {sl1 : Array (Option Value)} {oc1 kV1 dc1 pm1 cd1 ct1 : Value}
    {f2 : Addr} {od2 an2 : Option Addr} {sl2 : Array (Option Value)} {oc2 kV2 dc2 pm2 cd2 ct2 : Value}
    {f3 : Addr} {od3 an3 : Option Addr} {sl3 : Array (Option Value)} {oc3 kV3 dc3 pm3 cd3 ct3 : Value}
    {f4 : Addr} {od4 an4 : Option Addr} {sl4 : Array (Option Value)} {oc4 kV4 dc4 pm4 cd4 ct4 : Value}
    {f5 : Addr} {od5 an5 : Option Addr} {sl5 : Array (Option Value)} {oc5 kV5 dc5 pm5 cd5 ct5 : Value}
    {f6 : Addr} {od6 an6 : Option Addr} {sl6 : Array (Option Value)} {oc6 kV6 dc6 pm6 cd6 ct6 : Value}
    {f7 : Addr} {od7 an7 : Option Addr} {sl7 : Array (Option Value)} {oc7 kV7 dc7 pm7 cd7 ct7 : Value}
    {f8 : Addr} {od8 an8 : Option Addr} {sl8 : Array (Option Value)} {oc8 kV8 dc8 pm8 cd8 ct8 : Value}
    {f9 : Addr} {od9 an9 : Option Addr} {sl9 : Array (Option Value)} {oc9 kV9 dc9 pm9 cd9 ct9 : Value}
    {f10 : Addr} {od10 an10 : Option Addr} {sl10 : Array (Option Value)} {oc10 kV10 dc10 pm10 cd10 ct10 : Value}
    {f11 : Addr} {od11 an11 : Option Addr} {sl11 : Array (Option Value)} {oc11 kV11 dc11 pm11 cd11 ct11 : Value}
    {f12 : Addr} {od12 an12 : Option Addr} {sl12 : Array (Option Value)} {oc12 kV12 dc12 pm12 cd12 ct12 : Value}
    {f13 : Addr} {od13 an13 : Option Addr} {sl13 : Array (Option Value)} {oc13 kV13 dc13 pm13 cd13 ct13 : Value}
    {f14 : Addr} {od14 an14 : Option Addr} {sl14 : Array (Option Value)} {oc14 kV14 dc14 pm14 cd14 ct14 : Value}
    {f15 : Addr} {od15 an15 : Option Addr} {sl15 : Array (Option Value)} {oc15 kV15 dc15 pm15 cd15 ct15 : Value}
    {f16 : Addr} {od16 an16 : Option Addr} {sl16 : Array (Option Value)} {oc16 kV16 dc16 pm16 cd16 ct16 : Value}
    {f17 : Addr} {od17 an17 : Option Addr} {sl17 : Array (Option Value)} {oc17 kV17 dc17 pm17 cd17 ct17 : Value}
    {f18 : Addr} {od18 an18 : Option Addr} {sl18 : Array (Option Value)} {oc18 kV18 dc18 pm18 cd18 ct18 : Value}
    {f19 : Addr} {od19 an19 : Option Addr} {sl19 : Array (Option Value)} {oc19 kV19 dc19 pm19 cd19 ct19 : Value}
    {f20 : Addr} {od20 an20 : Option Addr} {sl20 : Array (Option Value)} {oc20 kV20 dc20 pm20 cd20 ct20 : Value}
    {c_KinError fi_KinError N_KinError : Addr} {nm_KinError q_KinError : Str} {bs_KinError sub_KinError : List Value} {sn_KinError : List Str} {ab_KinError : Bool} {col_KinError : Option Bool} {dd_KinError : Option Addr} {k0_KinError k1_KinError k2_KinError k3_KinError k5_KinError : Option Value} {od_KinError an_KinError : Option Addr} {sl_KinError : Array (Option Value)} {oc_KinError kV_KinError dc_KinError pm_KinError cd_KinError ct_KinError : Value} {t_KinError : Addr} {td_KinError : Option Addr} {ts_KinError : Array (Option Value)} {tc_KinError it_KinError : Value} {tn_KinError : Nat}
    {c_BadName fi_BadName N_BadName : Addr} {nm_BadName q_BadName : Str} {bs_BadName sub_BadName : List Value} {sn_BadName : List Str} {ab_BadName : Bool} {col_BadName : Option Bool} {dd_BadName : Option Addr} {k0_BadName k1_BadName k2_BadName k3_BadName k5_BadName : Option Value} {od_BadName an_BadName : Option Addr} {sl_BadName : Array (Option Value)} {oc_BadName kV_BadName dc_BadName pm_BadName cd_BadName ct_BadName : Value} {t_BadName : Addr} {td_BadName : Option Addr} {ts_BadName : Array (Option Value)} {tc_BadName it_BadName : Value} {tn_BadName : Nat}
    {c_Taken fi_Taken N_Taken : Addr} {nm_Taken q_Taken : Str} {bs_Taken sub_Taken : List Value} {sn_Taken : List Str} {ab_Taken : Bool} {col_Taken : Option Bool} {dd_Taken : Option Addr} {k0_Taken k1_Taken k2_Taken k3_Taken k5_Taken : Option Value} {od_Taken an_Taken : Option Addr} {sl_Taken : Array (Option Value)} {oc_Taken kV_Taken dc_Taken pm_Taken cd_Taken ct_Taken : Value} {t_Taken : Addr} {td_Taken : Option Addr} {ts_Taken : Array (Option Value)} {tc_Taken it_Taken : Value} {tn_Taken : Nat}
    {c_NoPerson fi_NoPerson N_NoPerson : Addr} {nm_NoPerson q_NoPerson : Str} {bs_NoPerson sub_NoPerson : List Value} {sn_NoPerson : List Str} {ab_NoPerson : Bool} {col_NoPerson : Option Bool} {dd_NoPerson : Option Addr} {k0_NoPerson k1_NoPerson k2_NoPerson k3_NoPerson k5_NoPerson : Option Value} {od_NoPerson an_NoPerson : Option Addr} {sl_NoPerson : Array (Option Value)} {oc_NoPerson kV_NoPerson dc_NoPerson pm_NoPerson cd_NoPerson ct_NoPerson : Value} {t_NoPerson : Addr} {td_NoPerson : Option Addr} {ts_NoPerson : Array (Option Value)} {tc_NoPerson it_NoPerson : Value} {tn_NoPerson : Nat}
    {tk_LEAST_SIZE : Tok}
    {tk_MOST_SIZE : Tok}
    {tk_LONGEST_NAME : Tok}
    {tk_PUT_IN : Tok}
    {tk_MAN : Tok}
    {tk_WOMAN : Tok}
    {tk_LETTERS_OF_NAMES : Tok}
    {tk_SIGNS_OF_NAMES : Tok}
    {c_Land : Addr}
    {f_Land_init : Addr} {od_Land_init an_Land_init : Option Addr} {sl_Land_init : Array (Option Value)} {oc_Land_init kV_Land_init dc_Land_init pm_Land_init cd_Land_init ct_Land_init : Value}
    {c_Hearth : Addr}
    {f_Hearth_init : Addr} {od_Hearth_init an_Hearth_init : Option Addr} {sl_Hearth_init : Array (Option Value)} {oc_Hearth_init kV_Hearth_init dc_Hearth_init pm_Hearth_init cd_Hearth_init ct_Hearth_init : Value}
    {f_Hearth_person : Addr} {od_Hearth_person an_Hearth_person : Option Addr} {sl_Hearth_person : Array (Option Value)} {oc_Hearth_person kV_Hearth_person dc_Hearth_person pm_Hearth_person cd_Hearth_person ct_Hearth_person : Value}
    {f_Hearth_people : Addr} {od_Hearth_people an_Hearth_people : Option Addr} {sl_Hearth_people : Array (Option Value)} {oc_Hearth_people kV_Hearth_people dc_Hearth_people pm_Hearth_people cd_Hearth_people ct_Hearth_people : Value}
    {f_Hearth_undoable : Addr} {od_Hearth_undoable an_Hearth_undoable : Option Addr} {sl_Hearth_undoable : Array (Option Value)} {oc_Hearth_undoable kV_Hearth_undoable dc_Hearth_undoable pm_Hearth_undoable cd_Hearth_undoable ct_Hearth_undoable : Value}
    {f_Hearth_side_of : Addr} {od_Hearth_side_of an_Hearth_side_of : Option Addr} {sl_Hearth_side_of : Array (Option Value)} {oc_Hearth_side_of kV_Hearth_side_of dc_Hearth_side_of pm_Hearth_side_of cd_Hearth_side_of ct_Hearth_side_of : Value}
    {f_Hearth_do_deed : Addr} {od_Hearth_do_deed an_Hearth_do_deed : Option Addr} {sl_Hearth_do_deed : Array (Option Value)} {oc_Hearth_do_deed kV_Hearth_do_deed dc_Hearth_do_deed pm_Hearth_do_deed cd_Hearth_do_deed ct_Hearth_do_deed : Value}
    {f_Hearth_shift : Addr} {od_Hearth_shift an_Hearth_shift : Option Addr} {sl_Hearth_shift : Array (Option Value)} {oc_Hearth_shift kV_Hearth_shift dc_Hearth_shift pm_Hearth_shift cd_Hearth_shift ct_Hearth_shift : Value}
    {f_Hearth_put_in : Addr} {od_Hearth_put_in an_Hearth_put_in : Option Addr} {sl_Hearth_put_in : Array (Option Value)} {oc_Hearth_put_in kV_Hearth_put_in dc_Hearth_put_in pm_Hearth_put_in cd_Hearth_put_in ct_Hearth_put_in : Value}
    (X : K.In h) (G : h.Ns mainGlobals mg) (hfa : mg "law" = some (.ref fa))
    (a1 : PySem.W.nsIn K mainGlobals "is_turn" = some (some (.ref f1)))
    (l1 : K.lookup f1 = some ⟨oc1, od1, .func (PySem.W.fnOf "is_turn" "is_turn" (defArgs s_is_turn) (defBody s_is_turn) (defScope s_is_turn) .none kV1 dc1 pm1 an1 cd1 ct1), sl1⟩)
    (c1 : PySem.W.codeIn K cd1 "is_turn" = true)
    (k1 : PySem.W.keepIn K (.ref f1) = true)
    (a2 : PySem.W.nsIn K mainGlobals "still" = some (some (.ref f2)))
    (l2 : K.lookup f2 = some ⟨oc2, od2, .func (PySem.W.fnOf "still" "still" (defArgs s_still) (defBody s_still) (defScope s_still) .none kV2 dc2 pm2 an2 cd2 ct2), sl2⟩)
    (c2 : PySem.W.codeIn K cd2 "still" = true)
    (k2 : PySem.W.keepIn K (.ref f2) = true)
    (a3 : PySem.W.nsIn K mainGlobals "behind" = some (some (.ref f3)))
    (l3 : K.lookup f3 = some ⟨oc3, od3, .func (PySem.W.fnOf "behind" "behind" (defArgs s_behind) (defBody s_behind) (defScope s_behind) .none kV3 dc3 pm3 an3 cd3 ct3), sl3⟩)
    (c3 : PySem.W.codeIn K cd3 "behind" = true)
    (k3 : PySem.W.keepIn K (.ref f3) = true)
    (a4 : PySem.W.nsIn K mainGlobals "back" = some (some (.ref f4)))
    (l4 : K.lookup f4 = some ⟨oc4, od4, .func (PySem.W.fnOf "back" "back" (defArgs s_back) (defBody s_back) (defScope s_back) .none kV4 dc4 pm4 an4 cd4 ct4), sl4⟩)
    (c4 : PySem.W.codeIn K cd4 "back" = true)
    (k4 : PySem.W.keepIn K (.ref f4) = true)
    (a5 : PySem.W.nsIn K mainGlobals "check_turn" = some (some (.ref f5)))
    (l5 : K.lookup f5 = some ⟨oc5, od5, .func (PySem.W.fnOf "check_turn" "check_turn" (defArgs s_check_turn) (defBody s_check_turn) (defScope s_check_turn) .none kV5 dc5 pm5 an5 cd5 ct5), sl5⟩)
    (c5 : PySem.W.codeIn K cd5 "check_turn" = true)
    (k5 : PySem.W.keepIn K (.ref f5) = true)
    (a6 : PySem.W.nsIn K mainGlobals "check_rows" = some (some (.ref f6)))
    (l6 : K.lookup f6 = some ⟨oc6, od6, .func (PySem.W.fnOf "check_rows" "check_rows" (defArgs s_check_rows) (defBody s_check_rows) (defScope s_check_rows) .none kV6 dc6 pm6 an6 cd6 ct6), sl6⟩)
    (c6 : PySem.W.codeIn K cd6 "check_rows" = true)
    (k6 : PySem.W.keepIn K (.ref f6) = true)
    (a7 : PySem.W.nsIn K mainGlobals "check_parents" = some (some (.ref f7)))
    (l7 : K.lookup f7 = some ⟨oc7, od7, .func (PySem.W.fnOf "check_parents" "check_parents" (defArgs s_check_parents) (defBody s_check_parents) (defScope s_check_parents) .none kV7 dc7 pm7 an7 cd7 ct7), sl7⟩)
    (c7 : PySem.W.codeIn K cd7 "check_parents" = true)
    (k7 : PySem.W.keepIn K (.ref f7) = true)
    (a8 : PySem.W.nsIn K mainGlobals "land_of" = some (some (.ref f8)))
    (l8 : K.lookup f8 = some ⟨oc8, od8, .func (PySem.W.fnOf "land_of" "land_of" (defArgs s_land_of) (defBody s_land_of) (defScope s_land_of) .none kV8 dc8 pm8 an8 cd8 ct8), sl8⟩)
    (c8 : PySem.W.codeIn K cd8 "land_of" = true)
    (k8 : PySem.W.keepIn K (.ref f8) = true)
    (a9 : PySem.W.nsIn K mainGlobals "followed" = some (some (.ref f9)))
    (l9 : K.lookup f9 = some ⟨oc9, od9, .func (PySem.W.fnOf "followed" "followed" (defArgs s_followed) (defBody s_followed) (defScope s_followed) .none kV9 dc9 pm9 an9 cd9 ct9), sl9⟩)
    (c9 : PySem.W.codeIn K cd9 "followed" = true)
    (k9 : PySem.W.keepIn K (.ref f9) = true)
    (a10 : PySem.W.nsIn K mainGlobals "turned_back" = some (some (.ref f10)))
    (l10 : K.lookup f10 = some ⟨oc10, od10, .func (PySem.W.fnOf "turned_back" "turned_back" (defArgs s_turned_back) (defBody s_turned_back) (defScope s_turned_back) .none kV10 dc10 pm10 an10 cd10 ct10), sl10⟩)
    (c10 : PySem.W.codeIn K cd10 "turned_back" = true)
    (k10 : PySem.W.keepIn K (.ref f10) = true)
    (a11 : PySem.W.nsIn K mainGlobals "is_name" = some (some (.ref f11)))
    (l11 : K.lookup f11 = some ⟨oc11, od11, .func (PySem.W.fnOf "is_name" "is_name" (defArgs s_is_name) (defBody s_is_name) (defScope s_is_name) .none kV11 dc11 pm11 an11 cd11 ct11), sl11⟩)
    (c11 : PySem.W.codeIn K cd11 "is_name" = true)
    (k11 : PySem.W.keepIn K (.ref f11) = true)
    (a12 : PySem.W.nsIn K mainGlobals "check_person" = some (some (.ref f12)))
    (l12 : K.lookup f12 = some ⟨oc12, od12, .func (PySem.W.fnOf "check_person" "check_person" (defArgs s_check_person) (defBody s_check_person) (defScope s_check_person) .none kV12 dc12 pm12 an12 cd12 ct12), sl12⟩)
    (c12 : PySem.W.codeIn K cd12 "check_person" = true)
    (k12 : PySem.W.keepIn K (.ref f12) = true)
    (a13 : PySem.W.nsIn K mainGlobals "is_person" = some (some (.ref f13)))
    (l13 : K.lookup f13 = some ⟨oc13, od13, .func (PySem.W.fnOf "is_person" "is_person" (defArgs s_is_person) (defBody s_is_person) (defScope s_is_person) .none kV13 dc13 pm13 an13 cd13 ct13), sl13⟩)
    (c13 : PySem.W.codeIn K cd13 "is_person" = true)
    (k13 : PySem.W.keepIn K (.ref f13) = true)
    (a14 : PySem.W.nsIn K mainGlobals "_law_draws" = some (some (.ref f14)))
    (l14 : K.lookup f14 = some ⟨oc14, od14, .func (PySem.W.fnOf "_law_draws" "_law_draws" (defArgs s_law_draws) (defBody s_law_draws) (defScope s_law_draws) .none kV14 dc14 pm14 an14 cd14 ct14), sl14⟩)
    (c14 : PySem.W.codeIn K cd14 "_law_draws" = true)
    (k14 : PySem.W.keepIn K (.ref f14) = true)
    (a15 : PySem.W.nsIn K mainGlobals "_law_same" = some (some (.ref f15)))
    (l15 : K.lookup f15 = some ⟨oc15, od15, .func (PySem.W.fnOf "_law_same" "_law_same" (defArgs s_law_same) (defBody s_law_same) (defScope s_law_same) .none kV15 dc15 pm15 an15 cd15 ct15), sl15⟩)
    (c15 : PySem.W.codeIn K cd15 "_law_same" = true)
    (k15 : PySem.W.keepIn K (.ref f15) = true)
    (a16 : PySem.W.nsIn K mainGlobals "_law_asked" = some (some (.ref f16)))
    (l16 : K.lookup f16 = some ⟨oc16, od16, .func (PySem.W.fnOf "_law_asked" "_law_asked" (defArgs s_law_asked) (defBody s_law_asked) (defScope s_law_asked) .none kV16 dc16 pm16 an16 cd16 ct16), sl16⟩)
    (c16 : PySem.W.codeIn K cd16 "_law_asked" = true)
    (k16 : PySem.W.keepIn K (.ref f16) = true)
    (a17 : PySem.W.nsIn K mainGlobals "_law_side" = some (some (.ref f17)))
    (l17 : K.lookup f17 = some ⟨oc17, od17, .func (PySem.W.fnOf "_law_side" "_law_side" (defArgs s_law_side) (defBody s_law_side) (defScope s_law_side) .none kV17 dc17 pm17 an17 cd17 ct17), sl17⟩)
    (c17 : PySem.W.codeIn K cd17 "_law_side" = true)
    (k17 : PySem.W.keepIn K (.ref f17) = true)
    (a18 : PySem.W.nsIn K mainGlobals "_law_text" = some (some (.ref f18)))
    (l18 : K.lookup f18 = some ⟨oc18, od18, .func (PySem.W.fnOf "_law_text" "_law_text" (defArgs s_law_text) (defBody s_law_text) (defScope s_law_text) .none kV18 dc18 pm18 an18 cd18 ct18), sl18⟩)
    (c18 : PySem.W.codeIn K cd18 "_law_text" = true)
    (k18 : PySem.W.keepIn K (.ref f18) = true)
    (a19 : PySem.W.nsIn K mainGlobals "_law_fine" = some (some (.ref f19)))
    (l19 : K.lookup f19 = some ⟨oc19, od19, .func (PySem.W.fnOf "_law_fine" "_law_fine" (defArgs s_law_fine) (defBody s_law_fine) (defScope s_law_fine) .none kV19 dc19 pm19 an19 cd19 ct19), sl19⟩)
    (c19 : PySem.W.codeIn K cd19 "_law_fine" = true)
    (k19 : PySem.W.keepIn K (.ref f19) = true)
    (a20 : PySem.W.nsIn K mainGlobals "law" = some (some (.ref f20)))
    (l20 : K.lookup f20 = some ⟨oc20, od20, .func (PySem.W.fnOf "law" "law" (defArgs s_law) (defBody s_law) (defScope s_law) .none kV20 dc20 pm20 an20 cd20 ct20), sl20⟩)
    (c20 : PySem.W.codeIn K cd20 "law" = true)
    (k20 : PySem.W.keepIn K (.ref f20) = true)
    (z_len : PySem.W.nsIn K mainGlobals "len" = some none)
    (z_abs : PySem.W.nsIn K mainGlobals "abs" = some none)
    (z_list : PySem.W.nsIn K mainGlobals "list" = some none)
    (z_range : PySem.W.nsIn K mainGlobals "range" = some none)
    (z_tuple : PySem.W.nsIn K mainGlobals "tuple" = some none)
    (z_any : PySem.W.nsIn K mainGlobals "any" = some none)
    (z_all : PySem.W.nsIn K mainGlobals "all" = some none)
    (z_isinstance : PySem.W.nsIn K mainGlobals "isinstance" = some none)
    (z_bool : PySem.W.nsIn K mainGlobals "bool" = some none)
    (z_int : PySem.W.nsIn K mainGlobals "int" = some none)
    (z_str : PySem.W.nsIn K mainGlobals "str" = some none)
    (z_sorted : PySem.W.nsIn K mainGlobals "sorted" = some none)
    (z_min : PySem.W.nsIn K mainGlobals "min" = some none)
    (z_max : PySem.W.nsIn K mainGlobals "max" = some none)
    (z_sum : PySem.W.nsIn K mainGlobals "sum" = some none)
    (z_dict : PySem.W.nsIn K mainGlobals "dict" = some none)
    (z_reversed : PySem.W.nsIn K mainGlobals "reversed" = some none)
    (z_ValueError : PySem.W.nsIn K mainGlobals "ValueError" = some none)
    (g5 : PySem.W.specialIn K (.builtin "object.__class__") "__get__" = some (some (.builtin "getset_descriptor.__get__")))
    (g6 : PySem.W.takesIn K (.builtin "object.__class__") = some true)
    (ca_KinError : PySem.W.nsIn K mainGlobals "KinError" = some (some (.ref c_KinError)))
    (cl_KinError : K.lookup c_KinError = some (excClassObj nm_KinError q_KinError c_KinError N_KinError bs_KinError vMro true sn_KinError sub_KinError ab_KinError col_KinError dd_KinError k0_KinError k1_KinError k2_KinError k3_KinError k5_KinError "ValueError.__new__"))
    (g1_KinError : PySem.W.findIn K (.ref c_KinError) "__getattribute__" = some (some (.builtin "BaseException.__getattribute__")))
    (g2_KinError : PySem.W.findIn K (.ref c_KinError) "__getattr__" = some none)
    (g3_KinError : PySem.W.findIn K (.ref c_KinError) "__setattr__" = some (some (.builtin "object.__setattr__")))
    (g4_KinError : PySem.W.findIn K (.ref c_KinError) "__class__" = some (some (.builtin "object.__class__")))
    (ci_KinError : PySem.W.findIn K (.ref c_KinError) "__init__" = some (some (.ref fi_KinError)))
    (cn_KinError : PySem.W.isFn K (.ref fi_KinError) = true)
    (ck_KinError : PySem.W.keepIn K (.ref c_KinError) = true)
    (fl_KinError : K.lookup fi_KinError = some ⟨oc_KinError, od_KinError, .func (PySem.W.fnOf "__init__" "KinError.__init__" (defArgs s_KinError_init) (defBody s_KinError_init) (defScope s_KinError_init) (.ref t_KinError) kV_KinError dc_KinError pm_KinError an_KinError cd_KinError ct_KinError), sl_KinError⟩)
    (fc_KinError : PySem.W.codeIn K cd_KinError "KinError.__init__" = true)
    (fk_KinError : PySem.W.keepIn K (.ref fi_KinError) = true)
    (ft_KinError : K.lookup t_KinError = some ⟨tc_KinError, td_KinError, .seq #[it_KinError] tn_KinError, ts_KinError⟩)
    (na_KinError : PySem.W.findIn K (.ref c_KinError) "word" = some none)
    (r1_KinError : PySem.W.specialIn K (.ref c_KinError) "__getattribute__" = some (some (.builtin "type.__getattribute__")))
    (r2_KinError : PySem.W.readsIn K c_KinError (.type "type") = true)
    (r3_KinError : PySem.W.findCls K (.ref c_KinError) (.type "type") "__init__" = some (.val (.ref fi_KinError)))
    (ca_BadName : PySem.W.nsIn K mainGlobals "BadName" = some (some (.ref c_BadName)))
    (cl_BadName : K.lookup c_BadName = some (excClassObj nm_BadName q_BadName c_BadName N_BadName bs_BadName (.ref c_KinError :: vMro) true sn_BadName sub_BadName ab_BadName col_BadName dd_BadName k0_BadName k1_BadName k2_BadName k3_BadName k5_BadName "ValueError.__new__"))
    (g1_BadName : PySem.W.findIn K (.ref c_BadName) "__getattribute__" = some (some (.builtin "BaseException.__getattribute__")))
    (g2_BadName : PySem.W.findIn K (.ref c_BadName) "__getattr__" = some none)
    (g3_BadName : PySem.W.findIn K (.ref c_BadName) "__setattr__" = some (some (.builtin "object.__setattr__")))
    (g4_BadName : PySem.W.findIn K (.ref c_BadName) "__class__" = some (some (.builtin "object.__class__")))
    (ci_BadName : PySem.W.findIn K (.ref c_BadName) "__init__" = some (some (.ref fi_BadName)))
    (cn_BadName : PySem.W.isFn K (.ref fi_BadName) = true)
    (ck_BadName : PySem.W.keepIn K (.ref c_BadName) = true)
    (fl_BadName : K.lookup fi_BadName = some ⟨oc_BadName, od_BadName, .func (PySem.W.fnOf "__init__" "BadName.__init__" (defArgs s_BadName_init) (defBody s_BadName_init) (defScope s_BadName_init) (.ref t_BadName) kV_BadName dc_BadName pm_BadName an_BadName cd_BadName ct_BadName), sl_BadName⟩)
    (fc_BadName : PySem.W.codeIn K cd_BadName "BadName.__init__" = true)
    (fk_BadName : PySem.W.keepIn K (.ref fi_BadName) = true)
    (ft_BadName : K.lookup t_BadName = some ⟨tc_BadName, td_BadName, .seq #[it_BadName] tn_BadName, ts_BadName⟩)
    (na_BadName : PySem.W.findIn K (.ref c_BadName) "word" = some none)
    (ca_Taken : PySem.W.nsIn K mainGlobals "Taken" = some (some (.ref c_Taken)))
    (cl_Taken : K.lookup c_Taken = some (excClassObj nm_Taken q_Taken c_Taken N_Taken bs_Taken (.ref c_KinError :: vMro) true sn_Taken sub_Taken ab_Taken col_Taken dd_Taken k0_Taken k1_Taken k2_Taken k3_Taken k5_Taken "ValueError.__new__"))
    (g1_Taken : PySem.W.findIn K (.ref c_Taken) "__getattribute__" = some (some (.builtin "BaseException.__getattribute__")))
    (g2_Taken : PySem.W.findIn K (.ref c_Taken) "__getattr__" = some none)
    (g3_Taken : PySem.W.findIn K (.ref c_Taken) "__setattr__" = some (some (.builtin "object.__setattr__")))
    (g4_Taken : PySem.W.findIn K (.ref c_Taken) "__class__" = some (some (.builtin "object.__class__")))
    (ci_Taken : PySem.W.findIn K (.ref c_Taken) "__init__" = some (some (.ref fi_Taken)))
    (cn_Taken : PySem.W.isFn K (.ref fi_Taken) = true)
    (ck_Taken : PySem.W.keepIn K (.ref c_Taken) = true)
    (fl_Taken : K.lookup fi_Taken = some ⟨oc_Taken, od_Taken, .func (PySem.W.fnOf "__init__" "Taken.__init__" (defArgs s_Taken_init) (defBody s_Taken_init) (defScope s_Taken_init) (.ref t_Taken) kV_Taken dc_Taken pm_Taken an_Taken cd_Taken ct_Taken), sl_Taken⟩)
    (fc_Taken : PySem.W.codeIn K cd_Taken "Taken.__init__" = true)
    (fk_Taken : PySem.W.keepIn K (.ref fi_Taken) = true)
    (ft_Taken : K.lookup t_Taken = some ⟨tc_Taken, td_Taken, .seq #[it_Taken] tn_Taken, ts_Taken⟩)
    (na_Taken : PySem.W.findIn K (.ref c_Taken) "word" = some none)
    (ca_NoPerson : PySem.W.nsIn K mainGlobals "NoPerson" = some (some (.ref c_NoPerson)))
    (cl_NoPerson : K.lookup c_NoPerson = some (excClassObj nm_NoPerson q_NoPerson c_NoPerson N_NoPerson bs_NoPerson (.ref c_KinError :: vMro) true sn_NoPerson sub_NoPerson ab_NoPerson col_NoPerson dd_NoPerson k0_NoPerson k1_NoPerson k2_NoPerson k3_NoPerson k5_NoPerson "ValueError.__new__"))
    (g1_NoPerson : PySem.W.findIn K (.ref c_NoPerson) "__getattribute__" = some (some (.builtin "BaseException.__getattribute__")))
    (g2_NoPerson : PySem.W.findIn K (.ref c_NoPerson) "__getattr__" = some none)
    (g3_NoPerson : PySem.W.findIn K (.ref c_NoPerson) "__setattr__" = some (some (.builtin "object.__setattr__")))
    (g4_NoPerson : PySem.W.findIn K (.ref c_NoPerson) "__class__" = some (some (.builtin "object.__class__")))
    (ci_NoPerson : PySem.W.findIn K (.ref c_NoPerson) "__init__" = some (some (.ref fi_NoPerson)))
    (cn_NoPerson : PySem.W.isFn K (.ref fi_NoPerson) = true)
    (ck_NoPerson : PySem.W.keepIn K (.ref c_NoPerson) = true)
    (fl_NoPerson : K.lookup fi_NoPerson = some ⟨oc_NoPerson, od_NoPerson, .func (PySem.W.fnOf "__init__" "NoPerson.__init__" (defArgs s_NoPerson_init) (defBody s_NoPerson_init) (defScope s_NoPerson_init) (.ref t_NoPerson) kV_NoPerson dc_NoPerson pm_NoPerson an_NoPerson cd_NoPerson ct_NoPerson), sl_NoPerson⟩)
    (fc_NoPerson : PySem.W.codeIn K cd_NoPerson "NoPerson.__init__" = true)
    (fk_NoPerson : PySem.W.keepIn K (.ref fi_NoPerson) = true)
    (ft_NoPerson : K.lookup t_NoPerson = some ⟨tc_NoPerson, td_NoPerson, .seq #[it_NoPerson] tn_NoPerson, ts_NoPerson⟩)
    (na_NoPerson : PySem.W.findIn K (.ref c_NoPerson) "word" = some none)
    (gi_LEAST_SIZE : PySem.W.nsIn K mainGlobals "LEAST_SIZE" = some (some (.int 2 tk_LEAST_SIZE)))
    (gi_MOST_SIZE : PySem.W.nsIn K mainGlobals "MOST_SIZE" = some (some (.int 8 tk_MOST_SIZE)))
    (gi_LONGEST_NAME : PySem.W.nsIn K mainGlobals "LONGEST_NAME" = some (some (.int 12 tk_LONGEST_NAME)))
    (gi_PUT_IN : PySem.W.nsIn K mainGlobals "PUT_IN" = some (some (.int 1 tk_PUT_IN)))
    (gs_MAN : PySem.W.nsIn K mainGlobals "MAN" = some (some (.str "man" tk_MAN)))
    (gs_WOMAN : PySem.W.nsIn K mainGlobals "WOMAN" = some (some (.str "woman" tk_WOMAN)))
    (gs_LETTERS_OF_NAMES : PySem.W.nsIn K mainGlobals "LETTERS_OF_NAMES" = some (some (.str "abcdefghijklmnopqrstuvwxyz" tk_LETTERS_OF_NAMES)))
    (gs_SIGNS_OF_NAMES : PySem.W.nsIn K mainGlobals "SIGNS_OF_NAMES" = some (some (.str "abcdefghijklmnopqrstuvwxyz0123456789" tk_SIGNS_OF_NAMES)))
    (ca_Land : PySem.W.nsIn K mainGlobals "Land" = some (some (.ref c_Land)))
    (cb_Land : PySem.W.makesIn K c_Land = true)
    (cc_Land : PySem.W.keepIn K (.ref c_Land) = true)
    (cd_Land_ : PySem.W.plainGet K c_Land Str.empty = true)
    (ce_Land : PySem.W.hasDictIn K c_Land = true)
    (cf_Land_ : PySem.W.plainOver K c_Land = true)
    (cg_Land : PySem.W.findIn K (.ref c_Land) "__setattr__" = some (some (.builtin "object.__setattr__")))
    (nf_Land_size : PySem.W.findIn K (.ref c_Land) "size" = some none)
    (nf_Land_mother : PySem.W.findIn K (.ref c_Land) "mother" = some none)
    (nf_Land_father : PySem.W.findIn K (.ref c_Land) "father" = some none)
    (nf_Land_wife : PySem.W.findIn K (.ref c_Land) "wife" = some none)
    (nf_Land_steps : PySem.W.findIn K (.ref c_Land) "steps" = some none)
    (fa_Land_init : PySem.W.findIn K (.ref c_Land) "__init__" = some (some (.ref f_Land_init)))
    (fb_Land_init : PySem.W.isFn K (.ref f_Land_init) = true)
    (fl_Land_init : K.lookup f_Land_init = some ⟨oc_Land_init, od_Land_init, .func (PySem.W.fnOf "__init__" "Land.__init__" (defArgs s_Land_init) (defBody s_Land_init) (defScope s_Land_init) .none kV_Land_init dc_Land_init pm_Land_init an_Land_init cd_Land_init ct_Land_init), sl_Land_init⟩)
    (fc_Land_init : PySem.W.codeIn K cd_Land_init "Land.__init__" = true)
    (fk_Land_init : PySem.W.keepIn K (.ref f_Land_init) = true)
    (ca_Hearth : PySem.W.nsIn K mainGlobals "Hearth" = some (some (.ref c_Hearth)))
    (cb_Hearth : PySem.W.makesIn K c_Hearth = true)
    (cc_Hearth : PySem.W.keepIn K (.ref c_Hearth) = true)
    (cd_Hearth_ : PySem.W.plainGet K c_Hearth Str.empty = true)
    (ce_Hearth : PySem.W.hasDictIn K c_Hearth = true)
    (cf_Hearth_ : PySem.W.plainOver K c_Hearth = true)
    (cg_Hearth : PySem.W.findIn K (.ref c_Hearth) "__setattr__" = some (some (.builtin "object.__setattr__")))
    (nf_Hearth_land : PySem.W.findIn K (.ref c_Hearth) "land" = some none)
    (nf_Hearth_sides : PySem.W.findIn K (.ref c_Hearth) "sides" = some none)
    (nf_Hearth_places : PySem.W.findIn K (.ref c_Hearth) "places" = some none)
    (nf_Hearth_facts : PySem.W.findIn K (.ref c_Hearth) "facts" = some none)
    (nf_Hearth_known : PySem.W.findIn K (.ref c_Hearth) "known" = some none)
    (nf_Hearth_parents : PySem.W.findIn K (.ref c_Hearth) "parents" = some none)
    (nf_Hearth_coming : PySem.W.findIn K (.ref c_Hearth) "coming" = some none)
    (nf_Hearth_done : PySem.W.findIn K (.ref c_Hearth) "done" = some none)
    (nf_Hearth_undone : PySem.W.findIn K (.ref c_Hearth) "undone" = some none)
    (nf_Hearth_reckoned : PySem.W.findIn K (.ref c_Hearth) "reckoned" = some none)
    (fa_Hearth_init : PySem.W.findIn K (.ref c_Hearth) "__init__" = some (some (.ref f_Hearth_init)))
    (fb_Hearth_init : PySem.W.isFn K (.ref f_Hearth_init) = true)
    (fl_Hearth_init : K.lookup f_Hearth_init = some ⟨oc_Hearth_init, od_Hearth_init, .func (PySem.W.fnOf "__init__" "Hearth.__init__" (defArgs s_Hearth_init) (defBody s_Hearth_init) (defScope s_Hearth_init) .none kV_Hearth_init dc_Hearth_init pm_Hearth_init an_Hearth_init cd_Hearth_init ct_Hearth_init), sl_Hearth_init⟩)
    (fc_Hearth_init : PySem.W.codeIn K cd_Hearth_init "Hearth.__init__" = true)
    (fk_Hearth_init : PySem.W.keepIn K (.ref f_Hearth_init) = true)
    (fa_Hearth_person : PySem.W.findIn K (.ref c_Hearth) "person" = some (some (.ref f_Hearth_person)))
    (fb_Hearth_person : PySem.W.isFn K (.ref f_Hearth_person) = true)
    (fl_Hearth_person : K.lookup f_Hearth_person = some ⟨oc_Hearth_person, od_Hearth_person, .func (PySem.W.fnOf "person" "Hearth.person" (defArgs s_Hearth_person) (defBody s_Hearth_person) (defScope s_Hearth_person) .none kV_Hearth_person dc_Hearth_person pm_Hearth_person an_Hearth_person cd_Hearth_person ct_Hearth_person), sl_Hearth_person⟩)
    (fc_Hearth_person : PySem.W.codeIn K cd_Hearth_person "Hearth.person" = true)
    (fk_Hearth_person : PySem.W.keepIn K (.ref f_Hearth_person) = true)
    (fa_Hearth_people : PySem.W.findIn K (.ref c_Hearth) "people" = some (some (.ref f_Hearth_people)))
    (fb_Hearth_people : PySem.W.isFn K (.ref f_Hearth_people) = true)
    (fl_Hearth_people : K.lookup f_Hearth_people = some ⟨oc_Hearth_people, od_Hearth_people, .func (PySem.W.fnOf "people" "Hearth.people" (defArgs s_Hearth_people) (defBody s_Hearth_people) (defScope s_Hearth_people) .none kV_Hearth_people dc_Hearth_people pm_Hearth_people an_Hearth_people cd_Hearth_people ct_Hearth_people), sl_Hearth_people⟩)
    (fc_Hearth_people : PySem.W.codeIn K cd_Hearth_people "Hearth.people" = true)
    (fk_Hearth_people : PySem.W.keepIn K (.ref f_Hearth_people) = true)
    (fa_Hearth_undoable : PySem.W.findIn K (.ref c_Hearth) "undoable" = some (some (.ref f_Hearth_undoable)))
    (fb_Hearth_undoable : PySem.W.isFn K (.ref f_Hearth_undoable) = true)
    (fl_Hearth_undoable : K.lookup f_Hearth_undoable = some ⟨oc_Hearth_undoable, od_Hearth_undoable, .func (PySem.W.fnOf "undoable" "Hearth.undoable" (defArgs s_Hearth_undoable) (defBody s_Hearth_undoable) (defScope s_Hearth_undoable) .none kV_Hearth_undoable dc_Hearth_undoable pm_Hearth_undoable an_Hearth_undoable cd_Hearth_undoable ct_Hearth_undoable), sl_Hearth_undoable⟩)
    (fc_Hearth_undoable : PySem.W.codeIn K cd_Hearth_undoable "Hearth.undoable" = true)
    (fk_Hearth_undoable : PySem.W.keepIn K (.ref f_Hearth_undoable) = true)
    (fa_Hearth_side_of : PySem.W.findIn K (.ref c_Hearth) "side_of" = some (some (.ref f_Hearth_side_of)))
    (fb_Hearth_side_of : PySem.W.isFn K (.ref f_Hearth_side_of) = true)
    (fl_Hearth_side_of : K.lookup f_Hearth_side_of = some ⟨oc_Hearth_side_of, od_Hearth_side_of, .func (PySem.W.fnOf "side_of" "Hearth.side_of" (defArgs s_Hearth_side_of) (defBody s_Hearth_side_of) (defScope s_Hearth_side_of) .none kV_Hearth_side_of dc_Hearth_side_of pm_Hearth_side_of an_Hearth_side_of cd_Hearth_side_of ct_Hearth_side_of), sl_Hearth_side_of⟩)
    (fc_Hearth_side_of : PySem.W.codeIn K cd_Hearth_side_of "Hearth.side_of" = true)
    (fk_Hearth_side_of : PySem.W.keepIn K (.ref f_Hearth_side_of) = true)
    (fa_Hearth_do_deed : PySem.W.findIn K (.ref c_Hearth) "do_deed" = some (some (.ref f_Hearth_do_deed)))
    (fb_Hearth_do_deed : PySem.W.isFn K (.ref f_Hearth_do_deed) = true)
    (fl_Hearth_do_deed : K.lookup f_Hearth_do_deed = some ⟨oc_Hearth_do_deed, od_Hearth_do_deed, .func (PySem.W.fnOf "do_deed" "Hearth.do_deed" (defArgs s_Hearth_do_deed) (defBody s_Hearth_do_deed) (defScope s_Hearth_do_deed) .none kV_Hearth_do_deed dc_Hearth_do_deed pm_Hearth_do_deed an_Hearth_do_deed cd_Hearth_do_deed ct_Hearth_do_deed), sl_Hearth_do_deed⟩)
    (fc_Hearth_do_deed : PySem.W.codeIn K cd_Hearth_do_deed "Hearth.do_deed" = true)
    (fk_Hearth_do_deed : PySem.W.keepIn K (.ref f_Hearth_do_deed) = true)
    (fa_Hearth_shift : PySem.W.findIn K (.ref c_Hearth) "shift" = some (some (.ref f_Hearth_shift)))
    (fb_Hearth_shift : PySem.W.isFn K (.ref f_Hearth_shift) = true)
    (fl_Hearth_shift : K.lookup f_Hearth_shift = some ⟨oc_Hearth_shift, od_Hearth_shift, .func (PySem.W.fnOf "shift" "Hearth.shift" (defArgs s_Hearth_shift) (defBody s_Hearth_shift) (defScope s_Hearth_shift) .none kV_Hearth_shift dc_Hearth_shift pm_Hearth_shift an_Hearth_shift cd_Hearth_shift ct_Hearth_shift), sl_Hearth_shift⟩)
    (fc_Hearth_shift : PySem.W.codeIn K cd_Hearth_shift "Hearth.shift" = true)
    (fk_Hearth_shift : PySem.W.keepIn K (.ref f_Hearth_shift) = true)
    (fa_Hearth_put_in : PySem.W.findIn K (.ref c_Hearth) "put_in" = some (some (.ref f_Hearth_put_in)))
    (fb_Hearth_put_in : PySem.W.isFn K (.ref f_Hearth_put_in) = true)
    (fl_Hearth_put_in : K.lookup f_Hearth_put_in = some ⟨oc_Hearth_put_in, od_Hearth_put_in, .func (PySem.W.fnOf "put_in" "Hearth.put_in" (defArgs s_Hearth_put_in) (defBody s_Hearth_put_in) (defScope s_Hearth_put_in) .none kV_Hearth_put_in dc_Hearth_put_in pm_Hearth_put_in an_Hearth_put_in cd_Hearth_put_in ct_Hearth_put_in), sl_Hearth_put_in⟩)
    (fc_Hearth_put_in : PySem.W.codeIn K cd_Hearth_put_in "Hearth.put_in" = true)
    (fk_Hearth_put_in : PySem.W.keepIn K (.ref f_Hearth_put_in) = true)
    (mr_BadName_KinError : PySem.W.mroIn K c_BadName (.ref c_KinError) = some true)
    (mr_Taken_KinError : PySem.W.mroIn K c_Taken (.ref c_KinError) = some true)
    (mr_NoPerson_KinError : PySem.W.mroIn K c_NoPerson (.ref c_KinError) = some true)
    (mr_BadName_Taken : PySem.W.mroIn K c_BadName (.ref c_Taken) = some false)
    (mr_Taken_BadName : PySem.W.mroIn K c_Taken (.ref c_BadName) = some false)
    (mr_BadName_BadName : PySem.W.mroIn K c_BadName (.ref c_BadName) = some true)
    : ∃ fd : FuncData, (∀ (s : Shared) (v : Value), BindsTo s fd ⟨[v], []⟩ [("_law_script", v)]) ∧ ∀ base : Heap, K.In base → base.Ns mainGlobals mg → FnOk l.prog w K mg base (CXe l.prog w) 10 fa fd ["_law_script"] (spLaw K) := by
  have e := hfa.symm.trans (PySem.W.mg_of X G a20)
  cases e
  have F1 := fun_mk (st := s_is_turn) l1 c1 k1
  have b1 := F1.binds (ps := ["row"]) fun _ _ _ _ _ _ us hl => us1 (C := fun us => bindArgs _ ⟨us, []⟩ = pure (List.zip _ us)) us hl fun _ => rfl
  have m1 := PySem.W.mg_of X G a1
  have F2 := fun_mk (st := s_still) l2 c2 k2
  have b2 := F2.binds (ps := ["size"]) fun _ _ _ _ _ _ us hl => us1 (C := fun us => bindArgs _ ⟨us, []⟩ = pure (List.zip _ us)) us hl fun _ => rfl
  have m2 := PySem.W.mg_of X G a2
  have F3 := fun_mk (st := s_behind) l3 c3 k3
  have b3 := F3.binds (ps := ["first", "then"]) fun _ _ _ _ _ _ us hl => us2 (C := fun us => bindArgs _ ⟨us, []⟩ = pure (List.zip _ us)) us hl fun _ _ => rfl
  have m3 := PySem.W.mg_of X G a3
  have F4 := fun_mk (st := s_back) l4 c4 k4
  have b4 := F4.binds (ps := ["turn"]) fun _ _ _ _ _ _ us hl => us1 (C := fun us => bindArgs _ ⟨us, []⟩ = pure (List.zip _ us)) us hl fun _ => rfl
  have m4 := PySem.W.mg_of X G a4
  have F5 := fun_mk (st := s_check_turn) l5 c5 k5
  have b5 := F5.binds (ps := ["row"]) fun _ _ _ _ _ _ us hl => us1 (C := fun us => bindArgs _ ⟨us, []⟩ = pure (List.zip _ us)) us hl fun _ => rfl
  have m5 := PySem.W.mg_of X G a5
  have F6 := fun_mk (st := s_check_rows) l6 c6 k6
  have b6 := F6.binds (ps := ["rows"]) fun _ _ _ _ _ _ us hl => us1 (C := fun us => bindArgs _ ⟨us, []⟩ = pure (List.zip _ us)) us hl fun _ => rfl
  have m6 := PySem.W.mg_of X G a6
  have F7 := fun_mk (st := s_check_parents) l7 c7 k7
  have b7 := F7.binds (ps := ["mother", "father", "wife"]) fun _ _ _ _ _ _ us hl => us3 (C := fun us => bindArgs _ ⟨us, []⟩ = pure (List.zip _ us)) us hl fun _ _ _ => rfl
  have m7 := PySem.W.mg_of X G a7
  have F8 := fun_mk (st := s_land_of) l8 c8 k8
  have b8 := F8.binds (ps := ["mother", "wife"]) fun _ _ _ _ _ _ us hl => us2 (C := fun us => bindArgs _ ⟨us, []⟩ = pure (List.zip _ us)) us hl fun _ _ => rfl
  have m8 := PySem.W.mg_of X G a8
  have F9 := fun_mk (st := s_followed) l9 c9 k9
  have b9 := F9.binds (ps := ["first", "then"]) fun _ _ _ _ _ _ us hl => us2 (C := fun us => bindArgs _ ⟨us, []⟩ = pure (List.zip _ us)) us hl fun _ _ => rfl
  have m9 := PySem.W.mg_of X G a9
  have F10 := fun_mk (st := s_turned_back) l10 c10 k10
  have b10 := F10.binds (ps := ["turn"]) fun _ _ _ _ _ _ us hl => us1 (C := fun us => bindArgs _ ⟨us, []⟩ = pure (List.zip _ us)) us hl fun _ => rfl
  have m10 := PySem.W.mg_of X G a10
  have F11 := fun_mk (st := s_is_name) l11 c11 k11
  have b11 := F11.binds (ps := ["text"]) fun _ _ _ _ _ _ us hl => us1 (C := fun us => bindArgs _ ⟨us, []⟩ = pure (List.zip _ us)) us hl fun _ => rfl
  have m11 := PySem.W.mg_of X G a11
  have F12 := fun_mk (st := s_check_person) l12 c12 k12
  have b12 := F12.binds (ps := ["hearth", "name", "side"]) fun _ _ _ _ _ _ us hl => us3 (C := fun us => bindArgs _ ⟨us, []⟩ = pure (List.zip _ us)) us hl fun _ _ _ => rfl
  have m12 := PySem.W.mg_of X G a12
  have F13 := fun_mk (st := s_is_person) l13 c13 k13
  have b13 := F13.binds (ps := ["row"]) fun _ _ _ _ _ _ us hl => us1 (C := fun us => bindArgs _ ⟨us, []⟩ = pure (List.zip _ us)) us hl fun _ => rfl
  have m13 := PySem.W.mg_of X G a13
  have F14 := fun_mk (st := s_law_draws) l14 c14 k14
  have b14 := F14.binds (ps := ["_law_cell", "_law_parts"]) fun _ _ _ _ _ _ us hl => us2 (C := fun us => bindArgs _ ⟨us, []⟩ = pure (List.zip _ us)) us hl fun _ _ => rfl
  have m14 := PySem.W.mg_of X G a14
  have F15 := fun_mk (st := s_law_same) l15 c15 k15
  have b15 := F15.binds (ps := ["_law_found", "_law_due"]) fun _ _ _ _ _ _ us hl => us2 (C := fun us => bindArgs _ ⟨us, []⟩ = pure (List.zip _ us)) us hl fun _ _ => rfl
  have m15 := PySem.W.mg_of X G a15
  have F16 := fun_mk (st := s_law_asked) l16 c16 k16
  have b16 := F16.binds (ps := ["_law_book", "_law_name", "_law_side_here"]) fun _ _ _ _ _ _ us hl => us3 (C := fun us => bindArgs _ ⟨us, []⟩ = pure (List.zip _ us)) us hl fun _ _ _ => rfl
  have m16 := PySem.W.mg_of X G a16
  have F17 := fun_mk (st := s_law_side) l17 c17 k17
  have b17 := F17.binds (ps := ["_law_book", "_law_name"]) fun _ _ _ _ _ _ us hl => us2 (C := fun us => bindArgs _ ⟨us, []⟩ = pure (List.zip _ us)) us hl fun _ _ => rfl
  have m17 := PySem.W.mg_of X G a17
  have F18 := fun_mk (st := s_law_text) l18 c18 k18
  have b18 := F18.binds (ps := ["_law_cell"]) fun _ _ _ _ _ _ us hl => us1 (C := fun us => bindArgs _ ⟨us, []⟩ = pure (List.zip _ us)) us hl fun _ => rfl
  have m18 := PySem.W.mg_of X G a18
  have F19 := fun_mk (st := s_law_fine) l19 c19 k19
  have b19 := F19.binds (ps := ["_law_name"]) fun _ _ _ _ _ _ us hl => us1 (C := fun us => bindArgs _ ⟨us, []⟩ = pure (List.zip _ us)) us hl fun _ => rfl
  have m19 := PySem.W.mg_of X G a19
  have F20 := fun_mk (st := s_law) l20 c20 k20
  have bl : Bl mg := ⟨PySem.W.mg_none_of X G z_len, PySem.W.mg_none_of X G z_abs, PySem.W.mg_none_of X G z_list, PySem.W.mg_none_of X G z_range, PySem.W.mg_none_of X G z_tuple, PySem.W.mg_none_of X G z_any, PySem.W.mg_none_of X G z_all, PySem.W.mg_none_of X G z_isinstance, PySem.W.mg_none_of X G z_bool, PySem.W.mg_none_of X G z_int, PySem.W.mg_none_of X G z_str, PySem.W.mg_none_of X G z_sorted, PySem.W.mg_none_of X G z_min, PySem.W.mg_none_of X G z_max, PySem.W.mg_none_of X G z_sum, PySem.W.mg_none_of X G z_dict, PySem.W.mg_none_of X G z_reversed, PySem.W.mg_none_of X G z_ValueError⟩
  have a_KinError : XAt K c_KinError := xat_top cl_KinError g1_KinError g2_KinError g3_KinError g4_KinError g5 g6
  have m_KinError := PySem.W.mg_of X G ca_KinError
  have x_KinError : XCls K c_KinError fi_KinError := XCls.of a_KinError ci_KinError cn_KinError ck_KinError
  have D_KinError : FunD K "__init__" "KinError.__init__" s_KinError_init fi_KinError _ := ⟨⟨_, _, _, _, _, _, _, _, _, _, rfl, fl_KinError, fc_KinError⟩, fk_KinError⟩
  have b_KinError : Binds K (PySem.W.fnOf "__init__" "KinError.__init__" (defArgs s_KinError_init) (defBody s_KinError_init) (defScope s_KinError_init) (.ref t_KinError) kV_KinError dc_KinError pm_KinError an_KinError cd_KinError ct_KinError) ["self", "word", "why"] [] := fun s us KX hl => us3 (C := fun us => BindsTo s _ ⟨us, []⟩ (List.zip _ (us ++ []))) us (by rw [List.append_nil] at hl; exact hl) fun _ _ _ => BindsTo.of_defaults rfl (KX _ _ ft_KinError) rfl rfl rfl
  have cf_KinError : ClsFn K c_KinError "__init__" fi_KinError := ⟨r1_KinError, r2_KinError, r3_KinError, fk_KinError⟩
  have a_BadName : XAt K c_BadName := xat_sub cl_BadName g1_BadName g2_BadName g3_BadName g4_BadName g5 g6
  have m_BadName := PySem.W.mg_of X G ca_BadName
  have x_BadName : XCls K c_BadName fi_BadName := XCls.of a_BadName ci_BadName cn_BadName ck_BadName
  have D_BadName : FunD K "__init__" "BadName.__init__" s_BadName_init fi_BadName _ := ⟨⟨_, _, _, _, _, _, _, _, _, _, rfl, fl_BadName, fc_BadName⟩, fk_BadName⟩
  have b_BadName : Binds K (PySem.W.fnOf "__init__" "BadName.__init__" (defArgs s_BadName_init) (defBody s_BadName_init) (defScope s_BadName_init) (.ref t_BadName) kV_BadName dc_BadName pm_BadName an_BadName cd_BadName ct_BadName) ["self", "why"] [] := fun s us KX hl => us2 (C := fun us => BindsTo s _ ⟨us, []⟩ (List.zip _ (us ++ []))) us (by rw [List.append_nil] at hl; exact hl) fun _ _ => BindsTo.of_defaults rfl (KX _ _ ft_BadName) rfl rfl rfl
  have a_Taken : XAt K c_Taken := xat_sub cl_Taken g1_Taken g2_Taken g3_Taken g4_Taken g5 g6
  have m_Taken := PySem.W.mg_of X G ca_Taken
  have x_Taken : XCls K c_Taken fi_Taken := XCls.of a_Taken ci_Taken cn_Taken ck_Taken
  have D_Taken : FunD K "__init__" "Taken.__init__" s_Taken_init fi_Taken _ := ⟨⟨_, _, _, _, _, _, _, _, _, _, rfl, fl_Taken, fc_Taken⟩, fk_Taken⟩
  have b_Taken : Binds K (PySem.W.fnOf "__init__" "Taken.__init__" (defArgs s_Taken_init) (defBody s_Taken_init) (defScope s_Taken_init) (.ref t_Taken) kV_Taken dc_Taken pm_Taken an_Taken cd_Taken ct_Taken) ["self", "why"] [] := fun s us KX hl => us2 (C := fun us => BindsTo s _ ⟨us, []⟩ (List.zip _ (us ++ []))) us (by rw [List.append_nil] at hl; exact hl) fun _ _ => BindsTo.of_defaults rfl (KX _ _ ft_Taken) rfl rfl rfl
  have a_NoPerson : XAt K c_NoPerson := xat_sub cl_NoPerson g1_NoPerson g2_NoPerson g3_NoPerson g4_NoPerson g5 g6
  have m_NoPerson := PySem.W.mg_of X G ca_NoPerson
  have x_NoPerson : XCls K c_NoPerson fi_NoPerson := XCls.of a_NoPerson ci_NoPerson cn_NoPerson ck_NoPerson
  have D_NoPerson : FunD K "__init__" "NoPerson.__init__" s_NoPerson_init fi_NoPerson _ := ⟨⟨_, _, _, _, _, _, _, _, _, _, rfl, fl_NoPerson, fc_NoPerson⟩, fk_NoPerson⟩
  have b_NoPerson : Binds K (PySem.W.fnOf "__init__" "NoPerson.__init__" (defArgs s_NoPerson_init) (defBody s_NoPerson_init) (defScope s_NoPerson_init) (.ref t_NoPerson) kV_NoPerson dc_NoPerson pm_NoPerson an_NoPerson cd_NoPerson ct_NoPerson) ["self", "why"] [] := fun s us KX hl => us2 (C := fun us => BindsTo s _ ⟨us, []⟩ (List.zip _ (us ++ []))) us (by rw [List.append_nil] at hl; exact hl) fun _ _ => BindsTo.of_defaults rfl (KX _ _ ft_NoPerson) rfl rfl rfl
  have m_LEAST_SIZE := PySem.W.mg_of X G gi_LEAST_SIZE
  have m_MOST_SIZE := PySem.W.mg_of X G gi_MOST_SIZE
  have m_LONGEST_NAME := PySem.W.mg_of X G gi_LONGEST_NAME
  have m_PUT_IN := PySem.W.mg_of X G gi_PUT_IN
  have m_MAN := PySem.W.mg_of X G gs_MAN
  have m_WOMAN := PySem.W.mg_of X G gs_WOMAN
  have m_LETTERS_OF_NAMES := PySem.W.mg_of X G gs_LETTERS_OF_NAMES
  have m_SIGNS_OF_NAMES := PySem.W.mg_of X G gs_SIGNS_OF_NAMES
  have m_Land := PySem.W.mg_of X G ca_Land
  have k_Land : Cls K c_Land := ⟨cd_Land_, ce_Land, cf_Land_, cg_Land⟩
  have F_Land_init := fun_mk (st := s_Land_init) fl_Land_init fc_Land_init fk_Land_init
  have b_Land_init := F_Land_init.binds (ps := ["self", "mother", "father", "wife"]) fun _ _ _ _ _ _ us hl => us4 (C := fun us => bindArgs _ ⟨us, []⟩ = pure (List.zip _ us)) us hl fun _ _ _ _ => rfl
  have mk_Land : Mk K c_Land f_Land_init := ⟨cb_Land, fa_Land_init, fb_Land_init, cc_Land⟩
  have m_Hearth := PySem.W.mg_of X G ca_Hearth
  have k_Hearth : Cls K c_Hearth := ⟨cd_Hearth_, ce_Hearth, cf_Hearth_, cg_Hearth⟩
  have F_Hearth_init := fun_mk (st := s_Hearth_init) fl_Hearth_init fc_Hearth_init fk_Hearth_init
  have b_Hearth_init := F_Hearth_init.binds (ps := ["self", "land"]) fun _ _ _ _ _ _ us hl => us2 (C := fun us => bindArgs _ ⟨us, []⟩ = pure (List.zip _ us)) us hl fun _ _ => rfl
  have mk_Hearth : Mk K c_Hearth f_Hearth_init := ⟨cb_Hearth, fa_Hearth_init, fb_Hearth_init, cc_Hearth⟩
  have F_Hearth_person := fun_mk (st := s_Hearth_person) fl_Hearth_person fc_Hearth_person fk_Hearth_person
  have b_Hearth_person := F_Hearth_person.binds (ps := ["self", "name", "side"]) fun _ _ _ _ _ _ us hl => us3 (C := fun us => bindArgs _ ⟨us, []⟩ = pure (List.zip _ us)) us hl fun _ _ _ => rfl
  have mt_Hearth_person : Meth K c_Hearth "person" f_Hearth_person := ⟨fa_Hearth_person, fb_Hearth_person, fk_Hearth_person⟩
  have F_Hearth_people := fun_mk (st := s_Hearth_people) fl_Hearth_people fc_Hearth_people fk_Hearth_people
  have b_Hearth_people := F_Hearth_people.binds (ps := ["self"]) fun _ _ _ _ _ _ us hl => us1 (C := fun us => bindArgs _ ⟨us, []⟩ = pure (List.zip _ us)) us hl fun _ => rfl
  have mt_Hearth_people : Meth K c_Hearth "people" f_Hearth_people := ⟨fa_Hearth_people, fb_Hearth_people, fk_Hearth_people⟩
  have F_Hearth_undoable := fun_mk (st := s_Hearth_undoable) fl_Hearth_undoable fc_Hearth_undoable fk_Hearth_undoable
  have b_Hearth_undoable := F_Hearth_undoable.binds (ps := ["self"]) fun _ _ _ _ _ _ us hl => us1 (C := fun us => bindArgs _ ⟨us, []⟩ = pure (List.zip _ us)) us hl fun _ => rfl
  have mt_Hearth_undoable : Meth K c_Hearth "undoable" f_Hearth_undoable := ⟨fa_Hearth_undoable, fb_Hearth_undoable, fk_Hearth_undoable⟩
  have F_Hearth_side_of := fun_mk (st := s_Hearth_side_of) fl_Hearth_side_of fc_Hearth_side_of fk_Hearth_side_of
  have b_Hearth_side_of := F_Hearth_side_of.binds (ps := ["self", "name"]) fun _ _ _ _ _ _ us hl => us2 (C := fun us => bindArgs _ ⟨us, []⟩ = pure (List.zip _ us)) us hl fun _ _ => rfl
  have mt_Hearth_side_of : Meth K c_Hearth "side_of" f_Hearth_side_of := ⟨fa_Hearth_side_of, fb_Hearth_side_of, fk_Hearth_side_of⟩
  have F_Hearth_do_deed := fun_mk (st := s_Hearth_do_deed) fl_Hearth_do_deed fc_Hearth_do_deed fk_Hearth_do_deed
  have b_Hearth_do_deed := F_Hearth_do_deed.binds (ps := ["self", "way", "row", "coming"]) fun _ _ _ _ _ _ us hl => us4 (C := fun us => bindArgs _ ⟨us, []⟩ = pure (List.zip _ us)) us hl fun _ _ _ _ => rfl
  have mt_Hearth_do_deed : Meth K c_Hearth "do_deed" f_Hearth_do_deed := ⟨fa_Hearth_do_deed, fb_Hearth_do_deed, fk_Hearth_do_deed⟩
  have F_Hearth_shift := fun_mk (st := s_Hearth_shift) fl_Hearth_shift fc_Hearth_shift fk_Hearth_shift
  have b_Hearth_shift := F_Hearth_shift.binds (ps := ["self", "way", "row", "coming"]) fun _ _ _ _ _ _ us hl => us4 (C := fun us => bindArgs _ ⟨us, []⟩ = pure (List.zip _ us)) us hl fun _ _ _ _ => rfl
  have mt_Hearth_shift : Meth K c_Hearth "shift" f_Hearth_shift := ⟨fa_Hearth_shift, fb_Hearth_shift, fk_Hearth_shift⟩
  have F_Hearth_put_in := fun_mk (st := s_Hearth_put_in) fl_Hearth_put_in fc_Hearth_put_in fk_Hearth_put_in
  have b_Hearth_put_in := F_Hearth_put_in.binds (ps := ["self", "row"]) fun _ _ _ _ _ _ us hl => us2 (C := fun us => bindArgs _ ⟨us, []⟩ = pure (List.zip _ us)) us hl fun _ _ => rfl
  have mt_Hearth_put_in : Meth K c_Hearth "put_in" f_Hearth_put_in := ⟨fa_Hearth_put_in, fb_Hearth_put_in, fk_Hearth_put_in⟩
  refine ⟨PySem.W.fnOf "law" "law" (defArgs s_law) (defBody s_law) (defScope s_law) .none kV20 dc20 pm20 an20 cd20 ct20, fun s v => .of_eq rfl, fun base _ _ => ?_⟩
  have F_KinError : FnOk l.prog w K mg base CX0 1 fi_KinError _ ["self", "word", "why"] (spKin K) := ok_KinError D_KinError bl
  have e_BadName : HasErr l.prog w K mg base "BadName" "no name" c_BadName := ⟨fi_BadName, _, x_BadName, ok_BadName D_BadName cf_KinError F_KinError b_KinError m_KinError a_BadName na_BadName, b_BadName, m_BadName, a_BadName, na_BadName⟩
  have e_Taken : HasErr l.prog w K mg base "Taken" "name taken" c_Taken := ⟨fi_Taken, _, x_Taken, ok_Taken D_Taken cf_KinError F_KinError b_KinError m_KinError a_Taken na_Taken, b_Taken, m_Taken, a_Taken, na_Taken⟩
  have e_NoPerson : HasErr l.prog w K mg base "NoPerson" "no person" c_NoPerson := ⟨fi_NoPerson, _, x_NoPerson, ok_NoPerson D_NoPerson cf_KinError F_KinError b_KinError m_KinError a_NoPerson na_NoPerson, b_NoPerson, m_NoPerson, a_NoPerson, na_NoPerson⟩
  have h_is_turn : HasFn l.prog w K mg base 1 "is_turn" ["row"] (spIs K) := ⟨_, _, ok_is_turn F1 bl, b1, k1, m1⟩
  have h_still : HasFn l.prog w K mg base 1 "still" ["size"] spStill := ⟨_, _, ok_still F2 bl, b2, k2, m2⟩
  have h_followed : HasFn l.prog w K mg base 1 "followed" ["first", "then"] (spFol K) := ⟨_, _, ok_followed F9 bl, b9, k9, m9⟩
  have h_turned_back : HasFn l.prog w K mg base 1 "turned_back" ["turn"] spTb := ⟨_, _, ok_turned_back F10 bl, b10, k10, m10⟩
  have h_check_turn : HasFn l.prog w K mg base 2 "check_turn" ["row"] (spChk K) := ⟨_, _, ok_chk F5 h_is_turn, b5, k5, m5⟩
  have h_behind : HasFn l.prog w K mg base 3 "behind" ["first", "then"] (spBe K) := ⟨_, _, ok_be F3 h_check_turn h_followed bl, b3, k3, m3⟩
  have h_back : HasFn l.prog w K mg base 3 "back" ["turn"] spBk := ⟨_, _, ok_bk F4 h_check_turn h_turned_back bl, b4, k4, m4⟩
  have h_check_rows : HasFn l.prog w K mg base 2 "check_rows" ["rows"] (spRows K) := ⟨_, _, ok_rows F6 h_is_turn m_LEAST_SIZE m_MOST_SIZE bl, b6, k6, m6⟩
  have h_check_parents : HasFn l.prog w K mg base 4 "check_parents" ["mother", "father", "wife"] (spParents K) := ⟨_, _, ok_parents F7 h_behind bl, b7, k7, m7⟩
  have lc : LandC K c_Land := ⟨k_Land, nf_Land_size, nf_Land_mother, nf_Land_father, nf_Land_wife, nf_Land_steps⟩
  have h_Land : HasMk l.prog w K mg base 5 "Land" c_Land ["self", "mother", "father", "wife"] (spInit c_Land) := ⟨_, _, mk_Land, ok_init F_Land_init lc h_check_rows h_check_parents h_back h_still bl, b_Land_init, m_Land⟩
  have h_land_of : HasFn l.prog w K mg base 7 "land_of" ["mother", "wife"] (spLandOf c_Land) := ⟨_, _, ok_land_of F8 h_check_rows h_behind h_Land, b8, k8, m8⟩
  have h_law_same : HasFn l.prog w K mg base 4 "_law_same" ["_law_found", "_law_due"] (spSame 4) := ⟨_, _, ok_same F15 b15 k15 m15 bl 4, b15, k15, m15⟩
  have hc : HearthC K c_Hearth := ⟨k_Hearth, nf_Hearth_land, nf_Hearth_sides, nf_Hearth_places, nf_Hearth_facts, nf_Hearth_known, nf_Hearth_parents, nf_Hearth_coming, nf_Hearth_done, nf_Hearth_undone, nf_Hearth_reckoned⟩
  have h_is_name : HasFn l.prog w K mg base 1 "is_name" ["text"] spIsName := ⟨_, _, ok_is_name F11 m_LONGEST_NAME m_LETTERS_OF_NAMES m_SIGNS_OF_NAMES bl, b11, k11, m11⟩
  have h_is_person : HasFn l.prog w K mg base 1 "is_person" ["row"] (spIsPerson K) := ⟨_, _, ok_is_person F13 bl, b13, k13, m13⟩
  have h_Hearth : HasMk l.prog w K mg base 1 "Hearth" c_Hearth ["self", "land"] (spHInit c_Hearth) := ⟨_, _, mk_Hearth, ok_hinit F_Hearth_init hc bl, b_Hearth_init, m_Hearth⟩
  have h_Hearth_people : HasMt l.prog w K mg base 1 "people" c_Hearth ["self"] (spPeople c_Hearth) := ⟨_, _, k_Hearth, mt_Hearth_people, ok_people F_Hearth_people hc bl, b_Hearth_people⟩
  have h_Hearth_undoable : HasMt l.prog w K mg base 1 "undoable" c_Hearth ["self"] (spUndoable c_Hearth) := ⟨_, _, k_Hearth, mt_Hearth_undoable, ok_undoable F_Hearth_undoable hc bl, b_Hearth_undoable⟩
  have h_Hearth_side_of : HasMtX l.prog w K mg base 4 "side_of" c_Hearth ["self", "name"] (spSideOf c_Hearth c_NoPerson) := ⟨_, _, k_Hearth, mt_Hearth_side_of, ok_side_of F_Hearth_side_of hc e_NoPerson bl, b_Hearth_side_of⟩
  have h_Hearth_put_in : HasMt l.prog w K mg base 2 "put_in" c_Hearth ["self", "row"] (spPutIn c_Hearth) := ⟨_, _, k_Hearth, mt_Hearth_put_in, ok_put_in F_Hearth_put_in hc h_is_person bl, b_Hearth_put_in⟩
  have h_Hearth_shift : HasMt l.prog w K mg base 3 "shift" c_Hearth ["self", "way", "row", "coming"] (spShift c_Hearth) := ⟨_, _, k_Hearth, mt_Hearth_shift, ok_shift F_Hearth_shift hc m_PUT_IN h_Hearth_put_in bl, b_Hearth_shift⟩
  have h_Hearth_do_deed : HasMt l.prog w K mg base 4 "do_deed" c_Hearth ["self", "way", "row", "coming"] (spDoDeed c_Hearth) := ⟨_, _, k_Hearth, mt_Hearth_do_deed, ok_do_deed F_Hearth_do_deed hc h_Hearth_shift bl, b_Hearth_do_deed⟩
  have h_check_person : HasX l.prog w K mg base 4 "check_person" ["hearth", "name", "side"] (spCheckP c_Hearth c_BadName c_Taken) := ⟨_, _, ok_check_person F12 h_is_name m_MAN m_WOMAN h_Hearth_people e_BadName e_Taken bl, b12, k12, m12⟩
  have h_Hearth_person : HasMtX l.prog w K mg base 6 "person" c_Hearth ["self", "name", "side"] (spPerson c_Hearth c_BadName c_Taken) := ⟨_, _, k_Hearth, mt_Hearth_person, ok_person F_Hearth_person hc m_PUT_IN h_check_person h_Hearth_do_deed bl, b_Hearth_person⟩
  have h_law_draws : HasFn l.prog w K mg base 1 "_law_draws" ["_law_cell", "_law_parts"] (spDraws K) := ⟨_, _, ok_draws F14 bl.n_abs, b14, k14, m14⟩
  have h_law_text : HasFn l.prog w K mg base 2 "_law_text" ["_law_cell"] spText := ⟨_, _, ok_text F18 h_law_draws bl, b18, k18, m18⟩
  have h_law_fine : HasFn l.prog w K mg base 1 "_law_fine" ["_law_name"] spIsName := ⟨_, _, ok_fine F19 bl, b19, k19, m19⟩
  have h_law_asked : HasFn l.prog w K mg base 7 "_law_asked" ["_law_book", "_law_name", "_law_side_here"] (spAsked c_Hearth) := ⟨_, _, ok_asked F16 h_Hearth_person m_KinError a_KinError m_BadName a_BadName na_BadName m_Taken a_Taken na_Taken mr_BadName_KinError mr_Taken_KinError mr_BadName_Taken mr_Taken_BadName mr_BadName_BadName bl, b16, k16, m16⟩
  have h_law_side : HasFn l.prog w K mg base 7 "_law_side" ["_law_book", "_law_name"] (spSide c_Hearth) := ⟨_, _, ok_side F17 h_Hearth_side_of m_KinError a_KinError m_NoPerson a_NoPerson na_NoPerson mr_NoPerson_KinError bl, b17, k17, m17⟩
  exact ok_law F20 h_law_draws h_law_same h_law_text h_law_fine h_law_asked h_law_side h_land_of h_Hearth h_Hearth_people h_Hearth_undoable bl
theorem walk {l : PySem.W.OpenLaw} {q : Program} {loose : List Str} {XP : (Str → Option Value) → Heap → Prop} {YP : World → Heap → Prop} {d : DefRec} {K : Params → PySem.W.Frag} (hn : l.most = some 63) (hdf : d.params.defaults = [])
    (hY : ∀ (w : World) (h : Heap), YP w h → (K w.params).In h)
    (F : ∀ (w : World) (mg : Str → Option Value) (fa : Addr) (h : Heap), (K w.params).In h → h.Ns mainGlobals mg → mg d.name = some (.ref fa) →
      ∃ fd : FuncData, (∀ (s : Shared) (u : Value), BindsTo s fd ⟨[u], []⟩ [("_law_script", u)]) ∧ ∀ base : Heap, (K w.params).In base → base.Ns mainGlobals mg → FnOk l.prog w (K w.params) mg base (CXe l.prog w) 10 fa fd ["_law_script"] (spLaw (K w.params))) :
    PySem.W.WalkO q loose XP YP l.row.toRowW d [] (fun f vs => PySem.call f vs) :=
  L2.walk_of (n := 63) (k := 10) (x := "_law_script") (CX := fun w => CXe l.prog w) (sp := fun w => spLaw (K w.params)) hn (by decide) hdf ⟨rfl, by decide, by decide, rfl⟩ hY F (fun _ _ a ns hl _ hS => ⟨a, ns, rfl, hS, hl, fun _ => rfl⟩) fun _ _ _ _ _ h => by obtain ⟨_, _, _, _, _, _, _, _, _, _, _, _, _, _, z⟩ := h; exact z
end K21
namespace PySem.W.Fast
theorem tw16337328683473538796 : True := trivial
theorem tw11545822339872802444 : True := trivial
theorem tw12203545320750625792 : True := trivial
theorem tw12625318997502035904 : True := trivial
theorem tw13588649764723019041 : True := trivial
theorem tw10296213896784200353 : True := trivial
theorem tw16427691023446595425 : True := trivial
theorem tw1563811143659240194 : True := trivial
theorem tw17156857781528632162 : True := trivial
theorem tw3097443653114950148 : True := trivial
theorem tw9555812648452962884 : True := trivial
theorem tw7203909289419149028 : True := trivial
theorem tw1823813999192707525 : True := trivial
theorem tw11177484847836270215 : True := trivial
theorem tw13344753210161766055 : True := trivial
theorem tw10873181658258800519 : True := trivial
theorem tw5823646496371531529 : True := trivial
theorem tw7095088125788717579 : True := trivial
theorem tw3756231113461628492 : True := trivial
theorem tw695814661192536301 : True := trivial
theorem tw8766148616014175597 : True := trivial
theorem tw17909311276232551470 : True := trivial
theorem tw10146595263445862638 : True := trivial
theorem tw7791438683137069071 : True := trivial
theorem tw7500428152987977967 : True := trivial
theorem tw11043854897155442768 : True := trivial
theorem tw5426569706449000560 : True := trivial
theorem tw16655817204234039984 : True := trivial
theorem tw11218250909435928849 : True := trivial
theorem tw10282775304790852755 : True := trivial
theorem tw9077769215879331667 : True := trivial
theorem tw9394236161017724148 : True := trivial
theorem tw14699893594118467413 : True := trivial
theorem tw6025961632553740438 : True := trivial
theorem tw8269049801031843030 : True := trivial
theorem tw9243860665174407638 : True := trivial
theorem tw14863684439076855511 : True := trivial
theorem tw1607055471123719063 : True := trivial
theorem tw11866662708955000952 : True := trivial
theorem tw12059452345499491960 : True := trivial
theorem tw13061653789506158552 : True := trivial
theorem tw7647000993201362169 : True := trivial
theorem tw13505806089050718585 : True := trivial
theorem tw7506051541639355098 : True := trivial
theorem tw572272206624823387 : True := trivial
theorem tw5551423360448464571 : True := trivial
theorem tw12169149716792932572 : True := trivial
theorem tw4384319399263016412 : True := trivial
theorem tw3168529680821587580 : True := trivial
theorem tw13025817643530557116 : True := trivial
theorem tw13782634104156133469 : True := trivial
theorem tw9682988686643983709 : True := trivial
theorem tw16989696614183170654 : True := trivial
theorem tw8919174299466719839 : True := trivial
theorem tw12212860544381717151 : True := trivial
theorem tw6181189022561854880 : True := trivial
theorem tw18417391795627003907 : True := trivial
theorem tw13000012286494782469 : True := trivial
theorem tw858398040628961317 : True := trivial
theorem tw5329700514598080948 : True := trivial
theorem tw14681918991445515616 : True := trivial
theorem tw3859823775082255634 : True := trivial
theorem tw17506702675863328100 : True := trivial
theorem tw2654162939100164034 : True := trivial
theorem tw15068546069822507650 : True := trivial
theorem tw17288483007845053536 : True := trivial
theorem tw9659218879938822211 : True := trivial
theorem tw10999296287155980640 : True := trivial
theorem tw7590858422189884672 : True := trivial
theorem tw15076523823855569348 : True := trivial
theorem tw3311370949916809731 : True := trivial
theorem tw12352075525029602336 : True := trivial
theorem tw6845837846355712003 : True := trivial
theorem tw2791133095996230667 : True := trivial
theorem tw12801750551098771077 : True := trivial
theorem tw2004631143019202753 : True := trivial
theorem tw8695520742344189384 : True := trivial
theorem tw15404250101871897992 : True := trivial
theorem tw6871201568401555682 : True := trivial
theorem tw7630518211141514758 : True := trivial
theorem tw5637889953710792043 : True := trivial
theorem tw6925910276434647685 : True := trivial
theorem tw13190810474685475855 : True := trivial
theorem tw3154345800788597573 : True := trivial
theorem tw14951678597293589958 : True := trivial
theorem tw10623177677741510729 : True := trivial
theorem tw15712120286230582216 : True := trivial
theorem tw13672622186362778050 : True := trivial
theorem tw9284320056240833312 : True := trivial
theorem tw8536913843663728513 : True := trivial
theorem tw9945080435289825510 : True := trivial
theorem tw11830779155302814658 : True := trivial
theorem tw17583682671780001889 : True := trivial
theorem tw16786113199302541012 : True := trivial
theorem tw13231119048934256545 : True := trivial
theorem tw16323172273828146414 : True := trivial
theorem tw13350568126476339138 : True := trivial
theorem tw9426926101319151524 : True := trivial
theorem tw13520882784109083715 : True := trivial
theorem tw12315420662085878432 : True := trivial
theorem tw10130032756253162520 : True := trivial
theorem tw2769865084883488549 : True := trivial
theorem tw991790531467077167 : True := trivial
theorem tw17840338531497064902 : True := trivial
theorem tw1832545325441296833 : True := trivial
theorem tw13943996435658263720 : True := trivial
theorem tw13879275292503607086 : True := trivial
theorem tw13050629838741799328 : True := trivial
theorem tw16519023475961738978 : True := trivial
theorem tw12103737401436588571 : True := trivial
theorem tw4198848041610194922 : True := trivial
theorem tw16869487156920537370 : True := trivial
theorem tw5984716537551860736 : True := trivial
theorem tw7954045730346620131 : True := trivial
theorem tw14625607588923986341 : True := trivial
theorem tw7904796712346704545 : True := trivial
theorem tw8810638078049859696 : True := trivial
theorem tw12742542070067524297 : True := trivial
theorem tw2415907348667293226 : True := trivial
theorem tw9195925951318186858 : True := trivial
theorem tw13568266987846667014 : True := trivial
theorem tw3825720426049160299 : True := trivial
theorem tw4668799609475504471 : True := trivial
theorem tw4990212578260001381 : True := trivial
theorem tw1785283450821964262 : True := trivial
theorem tw2720827765534285541 : True := trivial
theorem tw727396771118520002 : True := trivial
theorem tw8086614438102822208 : True := trivial
theorem tw14185899867563970880 : True := trivial
theorem tw2339081292455505216 : True := trivial
theorem tw15400109512101281184 : True := trivial
theorem tw1291600317356158656 : True := trivial
theorem tw9224001629276788737 : True := trivial
theorem tw16597576349755518529 : True := trivial
theorem tw365039608871403297 : True := trivial
theorem tw4923252854380355654 : True := trivial
theorem tw9066624493410547298 : True := trivial
theorem tw14562461517085184768 : True := trivial
theorem tw2224498543262256097 : True := trivial
theorem tw10622093073710139910 : True := trivial
theorem tw4284050004819823915 : True := trivial
theorem tw9880160452906307585 : True := trivial
theorem tw10646292234049264707 : True := trivial
theorem tw6883255719587201763 : True := trivial
theorem tw15083947604798442950 : True := trivial
theorem tw15949873976716348104 : True := trivial
theorem tw5110764002435127883 : True := trivial
theorem tw17107799261766105056 : True := trivial
theorem tw905732393989020579 : True := trivial
theorem tw13057348320298100804 : True := trivial
theorem tw14375949772559447910 : True := trivial
theorem tw16216745172046149196 : True := trivial
theorem tw10412889247100854029 : True := trivial
theorem tw14653858127670117703 : True := trivial
theorem tw3133861225649392395 : True := trivial
theorem tw1488712082363610516 : True := trivial
theorem tw18263390208921065566 : True := trivial
theorem tw2150257470157298890 : True := trivial
theorem tw1010147198637602446 : True := trivial
theorem tw9973775265503973653 : True := trivial
theorem tw482058072242865860 : True := trivial
theorem tw13202911679927239652 : True := trivial
theorem tw6570658715958444743 : True := trivial
theorem tw16532422546459648744 : True := trivial
theorem tw18113429565252758154 : True := trivial
theorem tw15154958064440755073 : True := trivial
theorem tw9537412371642780195 : True := trivial
theorem tw2077330560923566727 : True := trivial
theorem tw5414522352776883018 : True := trivial
theorem tw12475128919466951246 : True := trivial
theorem tw16964970614170404512 : True := trivial
theorem tw14843710280585201362 : True := trivial
theorem tw1838359237172495250 : True := trivial
theorem tw9155999874162003347 : True := trivial
theorem tw1918905737301676563 : True := trivial
theorem tw2948073378623261215 : True := trivial
theorem tw10963578159877254890 : True := trivial
theorem tw10705712224841583371 : True := trivial
theorem tw7036314162331923872 : True := trivial
theorem tw5632065830047067936 : True := trivial
theorem tw3070813074335759395 : True := trivial
theorem tw7152382002405330883 : True := trivial
theorem tw6981624604159502628 : True := trivial
theorem tw7730792514712119716 : True := trivial
theorem tw9259878357765409974 : True := trivial
theorem tw15729690011057734929 : True := trivial
theorem tw6850476017324975115 : True := trivial
theorem tw16224721266570890580 : True := trivial
theorem tw12598203098655686701 : True := trivial
theorem tw689346912370495117 : True := trivial
theorem tw3517142278957210190 : True := trivial
theorem tw10614973686941898803 : True := trivial
theorem tw16421719198581289879 : True := trivial
theorem tw2793240908268723554 : True := trivial
theorem tw14481186520231578378 : True := trivial
theorem tw16088790195749253227 : True := trivial
theorem tw78305247740730290 : True := trivial
theorem tw750900242450804133 : True := trivial
theorem tw11914683135333917446 : True := trivial
theorem tw12618763895436692333 : True := trivial
theorem tw13691720303558870784 : True := trivial
theorem tw10482965530163780195 : True := trivial
theorem tw11824972140724944896 : True := trivial
theorem tw6120697961935704037 : True := trivial
theorem tw1004668141095000225 : True := trivial
theorem tw8967026430915646179 : True := trivial
theorem tw3656220815615605673 : True := trivial
theorem tw10373617233376641957 : True := trivial
theorem tw6524290248498006573 : True := trivial
theorem tw13072636353466176595 : True := trivial
theorem tw184476065278745844 : True := trivial
theorem tw9395133016973961431 : True := trivial
theorem tw3310140815859476198 : True := trivial
theorem tw9009176943016245768 : True := trivial
theorem tw3319642564426594032 : True := trivial
end PySem.W.Fast
open PySem PySem.W PyProof.Rows
set_option maxRecDepth 100000 in
set_option maxHeartbeats 0 in
theorem PySem.Challenge.cw_kinhearth_k21_people_and_names_holds : PySem.Challenge.rw_kinhearth_k21_people_and_names.Holds := by
  w_on; o_law; k_head; (case hw => w_witness2)
  k_fill
  refine K21.walk (l := PySem.Challenge.rw_kinhearth_k21_people_and_names) rfl rfl (fun w h Y => PySem.W.kIn_of Y) ?F
  case F =>
    intro w mg fa h KX G hmg
    refine' K21.all_mk KX G hmg ?a1 ?l1 ?c1 ?k1 ?a2 ?l2 ?c2 ?k2 ?a3 ?l3 ?c3 ?k3 ?a4 ?l4 ?c4 ?k4 ?a5 ?l5 ?c5 ?k5 ?a6 ?l6 ?c6 ?k6 ?a7 ?l7 ?c7 ?k7 ?a8 ?l8 ?c8 ?k8 ?a9 ?l9 ?c9 ?k9 ?a10 ?l10 ?c10 ?k10 ?a11 ?l11 ?c11 ?k11 ?a12 ?l12 ?c12 ?k12 ?a13 ?l13 ?c13 ?k13 ?a14 ?l14 ?c14 ?k14 ?a15 ?l15 ?c15 ?k15 ?a16 ?l16 ?c16 ?k16 ?a17 ?l17 ?c17 ?k17 ?a18 ?l18 ?c18 ?k18 ?a19 ?l19 ?c19 ?k19 ?a20 ?l20 ?c20 ?k20 ?z_len ?z_abs ?z_list ?z_range ?z_tuple ?z_any ?z_all ?z_isinstance ?z_bool ?z_int ?z_str ?z_sorted ?z_min ?z_max ?z_sum ?z_dict ?z_reversed ?z_ValueError ?g5 ?g6 ?ca_KinError ?cl_KinError ?g1_KinError ?g2_KinError ?g3_KinError ?g4_KinError ?ci_KinError ?cn_KinError ?ck_KinError ?fl_KinError ?fc_KinError ?fk_KinError ?ft_KinError ?na_KinError ?r1_KinError ?r2_KinError ?r3_KinError ?ca_BadName ?cl_BadName ?g1_BadName ?g2_BadName ?g3_BadName ?g4_BadName ?ci_BadName ?cn_BadName ?ck_BadName ?fl_BadName ?fc_BadName ?fk_BadName ?ft_BadName ?na_BadName ?ca_Taken ?cl_Taken ?g1_Taken ?g2_Taken ?g3_Taken ?g4_Taken ?ci_Taken ?cn_Taken ?ck_Taken ?fl_Taken ?fc_Taken ?fk_Taken ?ft_Taken ?na_Taken ?ca_NoPerson ?cl_NoPerson ?g1_NoPerson ?g2_NoPerson ?g3_NoPerson ?g4_NoPerson ?ci_NoPerson ?cn_NoPerson ?ck_NoPerson ?fl_NoPerson ?fc_NoPerson ?fk_NoPerson ?ft_NoPerson ?na_NoPerson ?gi_LEAST_SIZE ?gi_MOST_SIZE ?gi_LONGEST_NAME ?gi_PUT_IN ?gs_MAN ?gs_WOMAN ?gs_LETTERS_OF_NAMES ?gs_SIGNS_OF_NAMES ?ca_Land ?cb_Land ?cc_Land ?cd_Land_ ?ce_Land ?cf_Land_ ?cg_Land ?nf_Land_size ?nf_Land_mother ?nf_Land_father ?nf_Land_wife ?nf_Land_steps ?fa_Land_init ?fb_Land_init ?fl_Land_init ?fc_Land_init ?fk_Land_init ?ca_Hearth ?cb_Hearth ?cc_Hearth ?cd_Hearth_ ?ce_Hearth ?cf_Hearth_ ?cg_Hearth ?nf_Hearth_land ?nf_Hearth_sides ?nf_Hearth_places ?nf_Hearth_facts ?nf_Hearth_known ?nf_Hearth_parents ?nf_Hearth_coming ?nf_Hearth_done ?nf_Hearth_undone ?nf_Hearth_reckoned ?fa_Hearth_init ?fb_Hearth_init ?fl_Hearth_init ?fc_Hearth_init ?fk_Hearth_init ?fa_Hearth_person ?fb_Hearth_person ?fl_Hearth_person ?fc_Hearth_person ?fk_Hearth_person ?fa_Hearth_people ?fb_Hearth_people ?fl_Hearth_people ?fc_Hearth_people ?fk_Hearth_people ?fa_Hearth_undoable ?fb_Hearth_undoable ?fl_Hearth_undoable ?fc_Hearth_undoable ?fk_Hearth_undoable ?fa_Hearth_side_of ?fb_Hearth_side_of ?fl_Hearth_side_of ?fc_Hearth_side_of ?fk_Hearth_side_of ?fa_Hearth_do_deed ?fb_Hearth_do_deed ?fl_Hearth_do_deed ?fc_Hearth_do_deed ?fk_Hearth_do_deed ?fa_Hearth_shift ?fb_Hearth_shift ?fl_Hearth_shift ?fc_Hearth_shift ?fk_Hearth_shift ?fa_Hearth_put_in ?fb_Hearth_put_in ?fl_Hearth_put_in ?fc_Hearth_put_in ?fk_Hearth_put_in ?mr_BadName_KinError ?mr_Taken_KinError ?mr_NoPerson_KinError ?mr_BadName_Taken ?mr_Taken_BadName ?mr_BadName_BadName
    (case a1 => k_is)
    (case l1 => k_is)
    (case c1 => k_is)
    (case k1 => k_is)
    (case a2 => k_is)
    (case l2 => k_is)
    (case c2 => k_is)
    (case k2 => k_is)
    (case a3 => k_is)
    (case l3 => k_is)
    (case c3 => k_is)
    (case k3 => k_is)
    (case a4 => k_is)
    (case l4 => k_is)
    (case c4 => k_is)
    (case k4 => k_is)
    (case a5 => k_is)
    (case l5 => k_is)
    (case c5 => k_is)
    (case k5 => k_is)
    (case a6 => k_is)
    (case l6 => k_is)
    (case c6 => k_is)
    (case k6 => k_is)
    (case a7 => k_is)
    (case l7 => k_is)
    (case c7 => k_is)
    (case k7 => k_is)
    (case a8 => k_is)
    (case l8 => k_is)
    (case c8 => k_is)
    (case k8 => k_is)
    (case a9 => k_is)
    (case l9 => k_is)
    (case c9 => k_is)
    (case k9 => k_is)
    (case a10 => k_is)
    (case l10 => k_is)
    (case c10 => k_is)
    (case k10 => k_is)
    (case a11 => k_is)
    (case l11 => k_is)
    (case c11 => k_is)
    (case k11 => k_is)
    (case a12 => k_is)
    (case l12 => k_is)
    (case c12 => k_is)
    (case k12 => k_is)
    (case a13 => k_is)
    (case l13 => k_is)
    (case c13 => k_is)
    (case k13 => k_is)
    (case a14 => k_is)
    (case l14 => k_is)
    (case c14 => k_is)
    (case k14 => k_is)
    (case a15 => k_is)
    (case l15 => k_is)
    (case c15 => k_is)
    (case k15 => k_is)
    (case a16 => k_is)
    (case l16 => k_is)
    (case c16 => k_is)
    (case k16 => k_is)
    (case a17 => k_is)
    (case l17 => k_is)
    (case c17 => k_is)
    (case k17 => k_is)
    (case a18 => k_is)
    (case l18 => k_is)
    (case c18 => k_is)
    (case k18 => k_is)
    (case a19 => k_is)
    (case l19 => k_is)
    (case c19 => k_is)
    (case k19 => k_is)
    (case a20 => k_is)
    (case l20 => k_is)
    (case c20 => k_is)
    (case k20 => k_is)
    (case z_len => k_is)
    (case z_abs => k_is)
    (case z_list => k_is)
    (case z_range => k_is)
    (case z_tuple => k_is)
    (case z_any => k_is)
    (case z_all => k_is)
    (case z_isinstance => k_is)
    (case z_bool => k_is)
    (case z_int => k_is)
    (case z_str => k_is)
    (case z_sorted => k_is)
    (case z_min => k_is)
    (case z_max => k_is)
    (case z_sum => k_is)
    (case z_dict => k_is)
    (case z_reversed => k_is)
    (case z_ValueError => k_is)
    (case g5 => k_is)
    (case g6 => k_is)
    (case ca_KinError => k_is)
    (case cl_KinError => k_is)
    (case g1_KinError => k_is)
    (case g2_KinError => k_is)
    (case g3_KinError => k_is)
    (case g4_KinError => k_is)
    (case ci_KinError => k_is)
    (case cn_KinError => k_is)
    (case ck_KinError => k_is)
    (case fl_KinError => k_is)
    (case fc_KinError => k_is)
    (case fk_KinError => k_is)
    (case ft_KinError => k_is)
    (case na_KinError => k_is)
    (case r1_KinError => k_is)
    (case r2_KinError => k_is)
    (case r3_KinError => k_is)
    (case ca_BadName => k_is)
    (case cl_BadName => k_is)
    (case g1_BadName => k_is)
    (case g2_BadName => k_is)
    (case g3_BadName => k_is)
    (case g4_BadName => k_is)
    (case ci_BadName => k_is)
    (case cn_BadName => k_is)
    (case ck_BadName => k_is)
    (case fl_BadName => k_is)
    (case fc_BadName => k_is)
    (case fk_BadName => k_is)
    (case ft_BadName => k_is)
    (case na_BadName => k_is)
    (case ca_Taken => k_is)
    (case cl_Taken => k_is)
    (case g1_Taken => k_is)
    (case g2_Taken => k_is)
    (case g3_Taken => k_is)
    (case g4_Taken => k_is)
    (case ci_Taken => k_is)
    (case cn_Taken => k_is)
    (case ck_Taken => k_is)
    (case fl_Taken => k_is)
    (case fc_Taken => k_is)
    (case fk_Taken => k_is)
    (case ft_Taken => k_is)
    (case na_Taken => k_is)
    (case ca_NoPerson => k_is)
    (case cl_NoPerson => k_is)
    (case g1_NoPerson => k_is)
    (case g2_NoPerson => k_is)
    (case g3_NoPerson => k_is)
    (case g4_NoPerson => k_is)
    (case ci_NoPerson => k_is)
    (case cn_NoPerson => k_is)
    (case ck_NoPerson => k_is)
    (case fl_NoPerson => k_is)
    (case fc_NoPerson => k_is)
    (case fk_NoPerson => k_is)
    (case ft_NoPerson => k_is)
    (case na_NoPerson => k_is)
    (case gi_LEAST_SIZE => k_is)
    (case gi_MOST_SIZE => k_is)
    (case gi_LONGEST_NAME => k_is)
    (case gi_PUT_IN => k_is)
    (case gs_MAN => k_is)
    (case gs_WOMAN => k_is)
    (case gs_LETTERS_OF_NAMES => k_is)
    (case gs_SIGNS_OF_NAMES => k_is)
    (case ca_Land => k_is)
    (case cb_Land => k_is)
    (case cc_Land => k_is)
    (case cd_Land_ => k_is)
    (case ce_Land => k_is)
    (case cf_Land_ => k_is)
    (case cg_Land => k_is)
    (case nf_Land_size => k_is)
    (case nf_Land_mother => k_is)
    (case nf_Land_father => k_is)
    (case nf_Land_wife => k_is)
    (case nf_Land_steps => k_is)
    (case fa_Land_init => k_is)
    (case fb_Land_init => k_is)
    (case fl_Land_init => k_is)
    (case fc_Land_init => k_is)
    (case fk_Land_init => k_is)
    (case ca_Hearth => k_is)
    (case cb_Hearth => k_is)
    (case cc_Hearth => k_is)
    (case cd_Hearth_ => k_is)
    (case ce_Hearth => k_is)
    (case cf_Hearth_ => k_is)
    (case cg_Hearth => k_is)
    (case nf_Hearth_land => k_is)
    (case nf_Hearth_sides => k_is)
    (case nf_Hearth_places => k_is)
    (case nf_Hearth_facts => k_is)
    (case nf_Hearth_known => k_is)
    (case nf_Hearth_parents => k_is)
    (case nf_Hearth_coming => k_is)
    (case nf_Hearth_done => k_is)
    (case nf_Hearth_undone => k_is)
    (case nf_Hearth_reckoned => k_is)
    (case fa_Hearth_init => k_is)
    (case fb_Hearth_init => k_is)
    (case fl_Hearth_init => k_is)
    (case fc_Hearth_init => k_is)
    (case fk_Hearth_init => k_is)
    (case fa_Hearth_person => k_is)
    (case fb_Hearth_person => k_is)
    (case fl_Hearth_person => k_is)
    (case fc_Hearth_person => k_is)
    (case fk_Hearth_person => k_is)
    (case fa_Hearth_people => k_is)
    (case fb_Hearth_people => k_is)
    (case fl_Hearth_people => k_is)
    (case fc_Hearth_people => k_is)
    (case fk_Hearth_people => k_is)
    (case fa_Hearth_undoable => k_is)
    (case fb_Hearth_undoable => k_is)
    (case fl_Hearth_undoable => k_is)
    (case fc_Hearth_undoable => k_is)
    (case fk_Hearth_undoable => k_is)
    (case fa_Hearth_side_of => k_is)
    (case fb_Hearth_side_of => k_is)
    (case fl_Hearth_side_of => k_is)
    (case fc_Hearth_side_of => k_is)
    (case fk_Hearth_side_of => k_is)
    (case fa_Hearth_do_deed => k_is)
    (case fb_Hearth_do_deed => k_is)
    (case fl_Hearth_do_deed => k_is)
    (case fc_Hearth_do_deed => k_is)
    (case fk_Hearth_do_deed => k_is)
    (case fa_Hearth_shift => k_is)
    (case fb_Hearth_shift => k_is)
    (case fl_Hearth_shift => k_is)
    (case fc_Hearth_shift => k_is)
    (case fk_Hearth_shift => k_is)
    (case fa_Hearth_put_in => k_is)
    (case fb_Hearth_put_in => k_is)
    (case fl_Hearth_put_in => k_is)
    (case fc_Hearth_put_in => k_is)
    (case fk_Hearth_put_in => k_is)
    (case mr_BadName_KinError => k_is)
    (case mr_Taken_KinError => k_is)
    (case mr_NoPerson_KinError => k_is)
    (case mr_BadName_Taken => k_is)
    (case mr_Taken_BadName => k_is)
    (case mr_BadName_BadName => k_is)
