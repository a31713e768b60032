import PyProof.Rows.All
import Wide.All
import OpenK.AllK
import Wide.FinOn
import Lean
import PyProof.EqAt
import PyProof.EqKinds
import PyProof.NeKinds
import PyProof.TupleCall
import PyProof.WalksEnum
import PyProof.EnumStmt
import PyProof.ZipIter
import PyProof.Rows.SetFrom
import PyProof.Rows.CatFin
import PyProof.Rows.StrClose
import PySem.Challenge.RW_fewboxes_k05_no_formulas_text
set_option Elab.async false
set_option linter.all false
set_option maxRecDepth 100000
/-! THE HAND LAYER, for ints, bools, texts, own classes, LISTS and tuples (index, slices, in, append, pop ..), calls, loops. Paste it whole ahead of your own text; what your proof does not reach may be deleted. -/
namespace L2
open PySem PySem.Spec PyProof.Rows

/-- a key: an int or a str -/
noncomputable abbrev Key := Sum Int Str
noncomputable def keyIs : Key → Value → Bool
  | .inl k, v => Value.isInt k v
  | .inr x, v => Value.isStrOf x v
noncomputable def keyH (w : World) : Key → Int
  | .inl k => hashInt k
  | .inr x => hashStr w x
theorem keyIs_shape : ∀ {k : Key} {v : Value}, keyIs k v = true → (∃ i t, k = Sum.inl i ∧ v = Value.int i t) ∨ (∃ x t, k = Sum.inr x ∧ v = Value.str x t)
  | .inl i, v, h => by
    obtain ⟨t, e⟩ := Value.isInt_shape (k := i) (v := v) h
    exact .inl ⟨i, t, rfl, e⟩
  | .inr x, v, h => by
    obtain ⟨t, e⟩ := Value.isStrOf_shape (x := x) (v := v) h
    exact .inr ⟨x, t, rfl, e⟩
theorem keyIs_int (i : Int) (t : Tok) : keyIs (.inl i) (.int i t) = true := by simp [keyIs, Value.isInt]
theorem keyIs_str (x : Str) (t : Tok) : keyIs (.inr x) (.str x t) = true := by simp [keyIs, Value.isStrOf]
theorem key_ll (a b : Int) : decide ((Sum.inl a : Key) = Sum.inl b) = (a == b) := by
  by_cases e : a = b
  · subst e; simp
  · have h : ¬ (Sum.inl a : Key) = Sum.inl b := fun q => e (Sum.inl.inj q)
    rw [decide_eq_false h]
    exact (beq_eq_false_iff_ne.mpr e).symm
theorem key_rr (a b : Str) : decide ((Sum.inr a : Key) = Sum.inr b) = decide (a = b) := by
  by_cases e : a = b
  · subst e; simp
  · have h : ¬ (Sum.inr a : Key) = Sum.inr b := fun q => e (Sum.inr.inj q)
    rw [decide_eq_false h, decide_eq_false e]
theorem key_lr (a : Int) (b : Str) : decide ((Sum.inl a : Key) = Sum.inr b) = false := decide_eq_false (fun q => nomatch q)
theorem key_rl (a : Str) (b : Int) : decide ((Sum.inr a : Key) = Sum.inl b) = false := decide_eq_false (fun q => nomatch q)

noncomputable def mixKind (prog : Program) (w : World) : PySem.KeyKind prog w Key where
  is := keyIs
  hash := keyH w
  inj := fun v a b ha hb => by
    rcases keyIs_shape ha with ⟨i, t, rfl, rfl⟩ | ⟨x, t, rfl, rfl⟩
    · rcases keyIs_shape hb with ⟨j, u, rfl, e⟩ | ⟨y, u, rfl, e⟩
      · injection e with e1 _; rw [e1]
      · exact nomatch e
    · rcases keyIs_shape hb with ⟨j, u, rfl, e⟩ | ⟨y, u, rfl, e⟩
      · exact nomatch e
      · injection e with e1 _; rw [e1]
  byValue := fun k v h => by
    rcases keyIs_shape h with ⟨i, t, rfl, rfl⟩ | ⟨x, t, rfl, rfl⟩ <;> rfl
  pyHash := fun hv h => by
    rcases keyIs_shape hv with ⟨i, t, rfl, rfl⟩ | ⟨x, t, rfl, rfl⟩
    · exact wpAny_pyHash_int h
    · exact wpAny_pyHash_str h
  eqBool := fun hu hv h => by
    rcases keyIs_shape hu with ⟨i, t, rfl, rfl⟩ | ⟨x, t, rfl, rfl⟩
    · rcases keyIs_shape hv with ⟨j, u, rfl, rfl⟩ | ⟨y, u, rfl, rfl⟩
      · rw [key_ll] at h; exact wpAny_eqBool_int h
      · rw [key_lr] at h; exact SeqAt.EqAt.int_str i t y u _ _ _ _ h
    · rcases keyIs_shape hv with ⟨j, u, rfl, rfl⟩ | ⟨y, u, rfl, rfl⟩
      · rw [key_rl] at h; exact SeqAt.EqAt.str_int x t j u _ _ _ _ h
      · rw [key_rr] at h; exact wpAny_eqBool_str h
  «strs» := fun k x t v h => by
    rcases keyIs_shape h with ⟨i, u, rfl, e⟩ | ⟨y, u, rfl, e⟩
    · exact nomatch e
    · injection e with e1 _
      subst e1
      cases v <;> rfl

theorem mixKind_int (prog : Program) (w : World) (i : Int) (t : Tok) : (mixKind prog w).is (.inl i) (.int i t) = true := keyIs_int i t
theorem mixKind_str (prog : Program) (w : World) (x : Str) (t : Tok) : (mixKind prog w).is (.inr x) (.str x t) = true := keyIs_str x t
end L2

namespace L2
open PySem PySem.Spec PyProof.Rows

/-- a value, without the heap -/
inductive V where
  | non | bl (b : Bool) | int (i : Int) | str (x : Str) | byt (b : Array UInt8) | flt (b : UInt64) | ref (a : Addr) | ty (n : String)
  deriving DecidableEq

noncomputable def RelV : V → Value → Prop
  | .non, u => u = Value.none
  | .bl b, u => u = Value.bool b
  | .int i, u => ∃ t, u = Value.int i t
  | .str x, u => ∃ t, u = Value.str x t
  | .byt b, u => ∃ t, u = Value.bytes b t
  | .flt b, u => ∃ t, u = Value.float b t
  | .ref a, u => u = Value.ref a
  | .ty n, u => u = Value.type n

noncomputable abbrev Vals : List V → List Value → Prop := Paired RelV
theorem Vals.length {xs : List V} {us : List Value} (r : Vals xs us) : xs.length = us.length := Paired.length r
theorem Vals.get : ∀ {xs : List V} {us : List Value} {i : Nat} {x : V}, Vals xs us → xs[i]? = some x → ∃ u, us[i]? = some u ∧ RelV x u
  | _, _, _, _, .nil, e => by simp at e
  | _, _, 0, _, .cons r _, e => by simp at e; subst e; exact ⟨_, rfl, r⟩
  | _, _, i + 1, x, .cons _ t, e => by
    obtain ⟨u, h1, h2⟩ := Vals.get (i := i) (x := x) t (by simpa using e)
    exact ⟨u, by simpa using h1, h2⟩
theorem Vals.set {x : V} {u : Value} (r : RelV x u) : ∀ {xs : List V} {us : List Value} (i : Nat), Vals xs us → Vals (xs.set i x) (us.set i u)
  | _, _, _, .nil => .nil
  | _, _, 0, .cons _ t => .cons r t
  | _, _, i + 1, .cons q t => .cons q (Vals.set r i t)
theorem Vals.append : ∀ {xs ys : List V} {us ws : List Value}, Vals xs us → Vals ys ws → Vals (xs ++ ys) (us ++ ws)
  | _, _, _, _, .nil, s => s
  | _, _, _, _, .cons r t, s => .cons r (Vals.append t s)
theorem Vals.take : ∀ {xs : List V} {us : List Value} (n : Nat), Vals xs us → Vals (xs.take n) (us.take n)
  | _, _, 0, _ => .nil
  | _, _, _ + 1, .nil => .nil
  | _, _, n + 1, .cons r t => .cons r (Vals.take n t)
theorem Vals.drop : ∀ {xs : List V} {us : List Value} (n : Nat), Vals xs us → Vals (xs.drop n) (us.drop n)
  | _, _, 0, r => r
  | _, _, _ + 1, .nil => .nil
  | _, _, n + 1, .cons _ t => Vals.drop n t

noncomputable def RelO : Option V → Option Value → Prop
  | some v, some u => RelV v u
  | none, none => True
  | _, _ => False
noncomputable def KV {κ : Type} : List (κ × V) → List (κ × Value) → Prop := Paired fun (p : κ × V) (q : κ × Value) => p.1 = q.1 ∧ RelV p.2 q.2

/-- a key of a dict (00_mix): an int or a text -/
noncomputable def kV : Key → V
  | .inl i => .int i
  | .inr x => .str x

/-- what stands at a tracked address -/
inductive HO where
  /-- a list -/
  | lst (xs : List V)
  /-- a tuple (never changes) -/
  | tup (xs : List V)
  /-- a dict whose keys are ints and texts; one whose keys are tuples of ints and texts (the empty one is both) -/
  | dK (kvs : List (Key × V)) | dT (kvs : List (List Key × V))
  /-- a set of ints: its members, its size -/
  | set (S : Int → Bool) (n : Nat)
  /-- an instance of the class at C, its dict at dx, its attributes -/
  | ins (C dx : Addr) (fs : List (Str × V))
  /-- the dict of the instance at x -/
  | own (x : Addr)
  /-- the dict of an exception -/
  | xd (fs : List (Str × V))
  /-- a bound method, f of x -/
  | met (f x : Addr)
  /-- a range object lo, lo + 1, .. below hi -/
  | rng (lo hi : Int)
  /-- a thing that is known to the object (the script; a dict while a loop walks it): read, never written while it is so -/
  | frz (o : Obj) (u : HO)
  /-- a code object's table -/
  | tbl (ps : Array Value)
  /-- any other thing, by what is true of its one object (a def of one's own: SetO a S n := HO.ext fun h => ..) -/
  | ext (φ : Heap → Prop)

noncomputable abbrev Hp := Addr → Option HO
noncomputable def upd (H : Hp) (a : Addr) (o : HO) : Hp := fun b => if b = a then some o else H b
theorem upd_same {H : Hp} {a : Addr} {o : HO} : upd H a o a = some o := by unfold upd; rw [if_pos rfl]
theorem upd_ne {H : Hp} {a b : Addr} {o : HO} (h : b ≠ a) : upd H a o b = H b := by unfold upd; rw [if_neg h]
/-- two objects of different content stand apart -/
theorem ne_of {H : Hp} {a b : Addr} {o u : HO} (h : H a = some o) (h' : H b = some u) (d : o ≠ u) : a ≠ b := by
  intro e; subst e; rw [h] at h'; exact d (Option.some.inj h')
theorem ne_of_none {H : Hp} {a b : Addr} {o : HO} (h : H a = some o) (h' : H b = none) : a ≠ b := by
  intro e; subst e; rw [h] at h'; cases h'

section
variable (P : Program) (w : World)
noncomputable def ObjOk (H : Hp) (h : Heap) (a : Addr) : HO → Prop
  | .lst xs => xs.length ≤ sizeLine ∧ ∃ (its : List Value) (n : Nat), Vals xs its ∧ h.get? a = some { cls := .type "list", data := .seq its.toArray n }
  | .tup xs => xs.length ≤ sizeLine ∧ ∃ its : List Value, Vals xs its ∧ IsTup h a its.toArray
  | .dK kvs => kvs.length ≤ sizeLine ∧ (a == sysModules) = false ∧ ∃ vs, KV kvs vs ∧ h.DictOf (mixKind P w) a vs
  | .dT kvs => kvs.length ≤ sizeLine ∧ (a == sysModules) = false ∧ ∃ xs : List (List Key × Addr × Value),
      Paired (fun (p : List Key × V) (q : List Key × Addr × Value) => p.1 = q.1 ∧ H q.2.1 = some (.tup (p.1.map kV)) ∧ RelV p.2 q.2.2) kvs xs ∧
      ∃ o es ep, h.get? a = some o ∧ o.ExactDict ∧ o.data = .dict es ep ∧ es.toList = xs.map (entryOfKey (tupleKind (mixKind P w))) ∧ (xs.map (·.1)).Nodup
  | .set S n => h.SetOf (intKind P w) a S n
  | .ins C dx fs => H dx = some (.own a) ∧ fs.length ≤ 1000 ∧ dx ≠ a ∧ h.get? a = some (PySem.W.instObj C dx) ∧
      ∃ mA, h.Ns1 dx mA ∧ (∀ f, RelO (fs.lookup f) (mA f)) ∧ PySem.Within mA (fs.map (·.1))
  | .own _ => ∃ o, h.get? a = some o
  | .xd fs => ∃ mA, h.Ns1 a mA ∧ ∀ f, RelO (fs.lookup f) (mA f)
  | .rng lo hi => ∃ t u v, h.get? a = some { cls := .type "range", data := .fields #[.int lo t, .int hi u, .int 1 v] }
  | .frz o u => h.get? a = some o ∧ ObjOk H h a u
  | .tbl ps => h.get? a = some { cls := .none, data := .fields ps }
  | .met f x => h.get? a = some (PySem.W.methodObj (.ref f) (.ref x))
  | .ext φ => φ h ∧ (∃ o, h.get? a = some o) ∧ ∀ h1 h2 : Heap, φ h1 → (∀ o, h1.get? a = some o → h2.get? a = some o) → φ h2
/-- the abstract heap is held -/
noncomputable def HOk (H : Hp) (h : Heap) : Prop := ∀ a o, H a = some o → ObjOk P w H h a o
end

section
variable {P : Program} {w : World} {H H' : Hp} {h h' : Heap} {a : Addr} {o : HO}
theorem ObjOk.lt (x : ObjOk P w H h a o) : a < h.objs.size := by
  cases o with
  | lst xs => obtain ⟨_, _, _, _, e⟩ := x; exact Heap.lt_size e
  | tup xs => obtain ⟨_, _, _, p⟩ := x; exact p.lt
  | dK kvs => obtain ⟨_, _, _, _, o, _, _, e, _⟩ := x; exact Heap.lt_size e
  | dT kvs => obtain ⟨_, _, _, _, o, _, _, e, _⟩ := x; exact Heap.lt_size e
  | set S n => obtain ⟨o, _, _, _, e, _⟩ := x; exact Heap.lt_size e
  | ins C dx fs => obtain ⟨_, _, _, e, _⟩ := x; exact Heap.lt_size e
  | own y => obtain ⟨_, e⟩ := x; exact Heap.lt_size e
  | xd fs => obtain ⟨_, ⟨_, _, _, e, _⟩, _⟩ := x; exact Heap.lt_size e
  | rng lo hi => obtain ⟨_, _, _, e⟩ := x; exact Heap.lt_size e
  | frz ob u => obtain ⟨e, _⟩ := x; exact Heap.lt_size e
  | tbl ps => exact Heap.lt_size (show h.get? a = some _ from x)
  | met f y => exact Heap.lt_size (show h.get? a = some _ from x)
  | ext φ => obtain ⟨_, ⟨_, e⟩, _⟩ := x; exact Heap.lt_size e
theorem Paired.mapP {α β : Type} {F G : α → β → Prop} : ∀ {l₁ : List α} {l₂ : List β}, Paired F l₁ l₂ → (∀ a b, F a b → G a b) → Paired G l₁ l₂
  | _, _, .nil, _ => .nil
  | _, _, .cons r t, f => .cons (f _ _ r) (Paired.mapP t f)
/-- what an object's description leans on: its own object, its own dict, the tuples -/
theorem ObjOk.stay (x : ObjOk P w H h a o) (k : ∀ b u, (b = a ∨ H b = some (.own a)) → h.get? b = some u → h'.get? b = some u)
    (ho : ∀ b, H b = some (.own a) → H' b = some (.own a)) (ht : ∀ b xs, H b = some (.tup xs) → H' b = some (.tup xs)) : ObjOk P w H' h' a o := by
  induction o with
  | lst xs => obtain ⟨z, its, n, r, e⟩ := x; exact ⟨z, its, n, r, k _ _ (.inl rfl) e⟩
  | tup xs => obtain ⟨z, its, r, ob, e, c⟩ := x; exact ⟨z, its, r, ob, k _ _ (.inl rfl) e, c⟩
  | dK kvs => obtain ⟨z, y, vs, r, ob, es, ep, e, c⟩ := x; exact ⟨z, y, vs, r, ob, es, ep, k _ _ (.inl rfl) e, c⟩
  | dT kvs =>
    obtain ⟨z, y, xs, r, ob, es, ep, e, c⟩ := x
    exact ⟨z, y, xs, Paired.mapP r fun p q z => ⟨z.1, ht _ _ z.2.1, z.2.2⟩, ob, es, ep, k _ _ (.inl rfl) e, c⟩
  | set S n => obtain ⟨ob, es, ep, t, e, c⟩ := x; exact ⟨ob, es, ep, t, k _ _ (.inl rfl) e, c⟩
  | ins C dx fs =>
    obtain ⟨d, z, ne, e, mA, ⟨od, es, ep, e2, c⟩, r⟩ := x
    exact ⟨ho _ d, z, ne, k _ _ (.inl rfl) e, mA, ⟨od, es, ep, k _ _ (.inr d) e2, c⟩, r⟩
  | own y => obtain ⟨ob, e⟩ := x; exact ⟨ob, k _ _ (.inl rfl) e⟩
  | xd fs => obtain ⟨mA, ⟨od, es, ep, e, c⟩, r⟩ := x; exact ⟨mA, ⟨od, es, ep, k _ _ (.inl rfl) e, c⟩, r⟩
  | rng lo hi => obtain ⟨t, u, v, e⟩ := x; exact ⟨t, u, v, k _ _ (.inl rfl) e⟩
  | frz ob u ih => obtain ⟨e, q⟩ := x; exact ⟨k _ _ (.inl rfl) e, ih q⟩
  | tbl ps =>
    have e : h.get? a = some { cls := .none, data := .fields ps } := x
    show h'.get? a = some { cls := .none, data := .fields ps }
    exact k a _ (.inl rfl) e
  | met f y =>
    have e : h.get? a = some (PySem.W.methodObj (.ref f) (.ref y)) := x
    show h'.get? a = some (PySem.W.methodObj (.ref f) (.ref y))
    exact k a _ (.inl rfl) e
  | ext φ => obtain ⟨p, ⟨o, e⟩, st⟩ := x; exact ⟨st _ _ p fun o q => k _ _ (.inl rfl) q, ⟨o, k _ _ (.inl rfl) e⟩, st⟩
theorem HOk.lt (x : HOk P w H h) (e : H a = some o) : a < h.objs.size := (x a o e).lt
theorem HOk.fresh (x : HOk P w H h) (e : h.objs.size ≤ a) : H a = none := by
  cases q : H a with
  | none => rfl
  | some u => exact absurd (Nat.lt_of_lt_of_le (x.lt q) e) (Nat.lt_irrefl _)
/-- every object of the heap is kept -/
theorem HOk.kept (x : HOk P w H h) (k : ∀ b u, h.get? b = some u → h'.get? b = some u) : HOk P w H h' := fun a o e =>
  (x a o e).stay (fun b u _ q => k b u q) (fun _ q => q) fun _ _ q => q
/-- a new object is laid and tracked -/
theorem HOk.laid (x : HOk P w H h) (k : ∀ b u, h.get? b = some u → h'.get? b = some u) (hp : h.objs.size ≤ a) (new : ObjOk P w (upd H a o) h' a o) : HOk P w (upd H a o) h' := fun b u e => by
  have hn := x.fresh hp
  by_cases hb : b = a
  · subst hb; rw [upd_same] at e; cases e; exact new
  · rw [upd_ne hb] at e
    exact (x b u e).stay (fun c v _ q => k c v q) (fun c q => by rw [upd_ne (ne_of_none q hn)]; exact q) fun c xs q => by rw [upd_ne (ne_of_none q hn)]; exact q
end

/-- what may be read as u: it is u, or a known u -/
noncomputable def Rd (H : Hp) (a : Addr) (u : HO) : Prop := H a = some u ∨ ∃ o, H a = some (.frz o u)
theorem Rd.of {H : Hp} {a : Addr} {u : HO} (h : H a = some u) : Rd H a u := .inl h
theorem Rd.ok {P : Program} {w : World} {H : Hp} {h : Heap} {a : Addr} {u : HO} (r : Rd H a u) (x : HOk P w H h) : ObjOk P w H h a u := by
  rcases r with r | ⟨o, r⟩
  · exact x a u r
  · obtain ⟨_, q⟩ := x a _ r
    exact q
/-- what may be written -/
noncomputable def Mut : Option HO → Prop
  | some (.lst _) => True
  | some (.dK _) => True
  | some (.dT _) => True
  | some (.set _ _) => True
  | some (.ins _ _ _) => True
  | some (.ext _) => True
  | _ => False
section
variable {P : Program} {w : World} {H : Hp} {h h' : Heap} {x e : Addr} {o' : HO}
/-- the object at e is changed: x itself, or the dict of the instance x -/
theorem HOk.write (ok : HOk P w H h) (mu : Mut (H x)) (he : e = x ∨ H e = some (.own x)) (k : ∀ b u, b ≠ e → h.get? b = some u → h'.get? b = some u) (heo : ∃ u, h'.get? e = some u)
    (new : ObjOk P w (upd H x o') h' x o') : HOk P w (upd H x o') h' := fun b u q => by
  have nown : ∀ c y, H c = some (.own y) → c ≠ x := fun c y r z => by subst z; rw [r] at mu; exact mu
  have ntup : ∀ c xs, H c = some (.tup xs) → c ≠ x := fun c xs r z => by subst z; rw [r] at mu; exact mu
  by_cases hb : b = x
  · subst hb; rw [upd_same] at q; cases q; exact new
  · rw [upd_ne hb] at q
    by_cases hbe : b = e
    · have q' : H b = some (.own x) := by
        rcases he with z | z
        · exact absurd (hbe.trans z) hb
        · rw [hbe]; exact z
      rw [q] at q'; cases q'
      obtain ⟨v, hv⟩ := heo
      exact ⟨v, by rw [hbe]; exact hv⟩
    · refine (ok b u q).stay (fun c v hc r => k c v ?_ r) (fun c r => by rw [upd_ne (nown c b r)]; exact r) fun c xs r => by rw [upd_ne (ntup c xs r)]; exact r
      rcases hc with rfl | hc
      · exact hbe
      · rintro rfl
        rcases he with z | z
        · exact nown c b hc z
        · rw [hc] at z; cases z; exact hb rfl
end

/-! ### kept unless tracked; of the frames at fs (the callers') the slots may change (an exception that passes writes there); of the records at ex (iterators) nothing is said -/
structure Un (fs ex : List Addr) (H H' : Hp) (h h' : Heap) : Prop where
  keep : ∀ b o, h.get? b = some o → H b = none → b ∉ fs → b ∉ ex → h'.get? b = some o
  slot : ∀ b o, h.get? b = some o → H b = none → b ∈ fs → b ∉ ex → ∃ sl, h'.get? b = some { o with slots := sl }
  free : ∀ b o, h.get? b = some o → H b = none → b ∉ ex → H' b = none
  there : ∀ b o, h.get? b = some o → b ∉ ex → ∃ o', h'.get? b = some o'
  tups : ∀ b xs, H b = some (.tup xs) → H' b = some (.tup xs)
  frzs : ∀ b o u, H b = some (.frz o u) → H' b = some (.frz o u)
  tbls : ∀ b ps, H b = some (.tbl ps) → ∃ more, H' b = some (.tbl (ps ++ more))
section
variable {fs fs' ex ex' : List Addr} {H H1 H2 : Hp} {h h1 h2 h' : Heap} {a x e : Addr} {o : HO}
theorem Un.any (u : Un fs ex H H1 h h1) {b : Addr} {ob : Obj} (q : h.get? b = some ob) (n : H b = none) (hx : b ∉ ex) : ∃ sl, h1.get? b = some { ob with slots := sl } := by
  by_cases hb : b ∈ fs
  · exact u.slot b ob q n hb hx
  · exact ⟨ob.slots, u.keep b ob q n hb hx⟩
theorem Un.trans (a : Un fs ex H H1 h h1) (b : Un fs ex H1 H2 h1 h2) : Un fs ex H H2 h h2 where
  keep := fun c ob q n hc hx => b.keep c ob (a.keep c ob q n hc hx) (a.free c ob q n hx) hc hx
  slot := fun c ob q n hc hx => by
    obtain ⟨sl, e1⟩ := a.slot c ob q n hc hx
    obtain ⟨sl', e2⟩ := b.slot c _ e1 (a.free c ob q n hx) hc hx
    exact ⟨sl', e2⟩
  free := fun c ob q n hx => by
    obtain ⟨o', e1⟩ := a.there c ob q hx
    exact b.free c o' e1 (a.free c ob q n hx) hx
  there := fun c ob q hx => by
    obtain ⟨o', e1⟩ := a.there c ob q hx
    exact b.there c o' e1 hx
  tups := fun c xs q => b.tups c xs (a.tups c xs q)
  frzs := fun c ob xs q => b.frzs c ob xs (a.frzs c ob xs q)
  tbls := fun c ps q => by
    obtain ⟨m1, e1⟩ := a.tbls c ps q
    obtain ⟨m2, e2⟩ := b.tbls c _ e1
    exact ⟨m1 ++ m2, by rw [e2, Array.append_assoc]⟩
theorem Un.kept (k : ∀ b u, h.get? b = some u → h'.get? b = some u) : Un fs ex H H h h' :=
  ⟨fun b ob q _ _ _ => k b ob q, fun b ob q _ _ _ => ⟨ob.slots, k b ob q⟩, fun _ _ _ n _ => n, fun b ob q _ => ⟨ob, k b ob q⟩, fun _ _ q => q, fun _ _ _ q => q, fun _ ps q => ⟨#[], by rw [q]; simp⟩⟩
theorem Un.refl : Un fs ex H H h h := Un.kept fun _ _ q => q
theorem Un.laid (k : ∀ b u, h.get? b = some u → h'.get? b = some u) (hp : h.objs.size ≤ a) (hn : H a = none) : Un fs ex H (upd H a o) h h' where
  keep := fun b u q _ _ _ => k b u q
  slot := fun b u q _ _ _ => ⟨u.slots, k b u q⟩
  free := fun b u q n _ => by rw [upd_ne (Nat.ne_of_lt (Nat.lt_of_lt_of_le (Heap.lt_size q) hp))]; exact n
  there := fun b u q _ => ⟨u, k b u q⟩
  tups := fun b xs q => by rw [upd_ne (ne_of_none q hn)]; exact q
  frzs := fun b u xs q => by rw [upd_ne (ne_of_none q hn)]; exact q
  tbls := fun b ps q => ⟨#[], by rw [upd_ne (ne_of_none q hn), q]; simp⟩
theorem Un.write (mu : Mut (H x)) (he : e = x ∨ H e = some (.own x)) (k : ∀ b u, b ≠ e → h.get? b = some u → h'.get? b = some u) (heo : ∃ u, h'.get? e = some u) : Un fs ex H (upd H x o) h h' := by
  have hx : ∀ b, H b = none → b ≠ x := fun b n z => by subst z; rw [n] at mu; exact mu
  have hb : ∀ b, H b = none → b ≠ e := fun b n z => by
    subst z
    rcases he with r | r
    · exact hx b n r
    · rw [n] at r; cases r
  have hm : ∀ b u, H b = some u → ¬ Mut (some u) → b ≠ x := fun b u q nm z => by subst z; rw [q] at mu; exact nm mu
  refine ⟨fun b u q n _ _ => k b u (hb b n) q, fun b u q n _ _ => ⟨u.slots, k b u (hb b n) q⟩, fun b u q n _ => by rw [upd_ne (hx b n)]; exact n, fun b u q _ => ?_,
    fun b xs q => by rw [upd_ne (hm b _ q fun z => z)]; exact q, fun b u xs q => by rw [upd_ne (hm b _ q fun z => z)]; exact q, fun b ps q => ⟨#[], by rw [upd_ne (hm b _ q fun z => z), q]; simp⟩⟩
  by_cases hbe : b = e
  · subst hbe; exact heo
  · exact ⟨u, k b u hbe q⟩
theorem Un.mono (u : Un fs ex H H1 h h1) (hs : ∀ b ∈ fs, b ∈ fs') (hx : ∀ b ∈ ex, b ∈ ex') : Un fs' ex' H H1 h h1 :=
  ⟨fun b ob q n hb he => u.keep b ob q n (fun z => hb (hs b z)) fun z => he (hx b z), fun _ _ q n _ he => u.any q n fun z => he (hx _ z), fun b ob q n he => u.free b ob q n fun z => he (hx b z), fun b ob q he => u.there b ob q fun z => he (hx b z), u.tups, u.frzs, u.tbls⟩
end

/-! ### the heap without what is tracked -/
noncomputable def trk (h : Heap) (H : Hp) : List Addr := (List.range h.objs.size).filter fun a => (H a).isSome
noncomputable def hidT (h : Heap) (H : Hp) : Heap := PySem.W.hideAll h (trk h H)
theorem hidT_size (h : Heap) (H : Hp) : (hidT h H).objs.size = h.objs.size := PySem.W.hideAll_size _ _
theorem hidT_get {h : Heap} {H : Hp} {b : Addr} {o : Obj} (e : h.get? b = some o) (n : H b = none) : (hidT h H).get? b = some o :=
  PySem.W.hideAll_get _ e fun hm => by
    have q : (H b).isSome = true := (List.mem_filter.mp hm).2
    rw [n] at q; simp at q
theorem of_hidT {h : Heap} {H : Hp} {b : Addr} {o : Obj} (e : (hidT h H).get? b = some o) : h.get? b = some o ∧ H b = none := by
  have e' : h.get? b = some o := PySem.W.of_hideAll (trk h H) e
  refine ⟨e', ?_⟩
  cases q : H b with
  | none => rfl
  | some x =>
    have hm : b ∈ trk h H := List.mem_filter.mpr ⟨List.mem_range.mpr (Heap.lt_size e'), by simp [q]⟩
    have z : (hidT h H).get? b = none := PySem.W.hideAll_none (trk h H) hm
    rw [z] at e; cases e

/-! ### OpenK's ledger, filled with every new object but one -/
noncomputable def allNews (g h : Heap) (L : Addr) : List (Addr × Obj) := (List.range h.objs.size).filterMap fun a => if a = L ∨ (g.get? a).isSome = true then none else (h.get? a).map fun o => (a, o)
noncomputable def rest (g h : Heap) (L d : Addr) : List (Addr × Obj) := (allNews g h L).filter fun p => decide (p.1 ≠ d)
end L2

namespace L2
open PySem PySem.Spec PyProof.Rows

/-- the module's facts, over the base: the heap at the law's entry without what is tracked there -/
structure Mod (K : PySem.W.Frag) (mg : Str → Option Value) (base : Heap) : Prop where
  kin : K.In base
  glob : base.Ns mainGlobals mg
  blt : ∃ mb, base.Ns builtinsNs mb ∧ ∀ x : Str, x ≠ "__name__" → mb x = bootBuiltins x
  nolimit : base.NoLimit

/-- the context: a def's body (or a comprehension's block) running. base: fixed through the whole law; s₀, H₀: the entry; outer: the frames whose slots others may change (a def's callers); stack: all frames that run;
   ex: iterators that were made ahead of the entry and are walked here (a comprehension's); fn: the names whose cells were made at the entry (a def: all; a comprehension's block: its own); calm: not within an except suite; pn: pins that every state bears; xe: what is wanted of an exception that leaves the code -/
structure Cx where
  prog : Program
  w : World
  K : PySem.W.Frag
  mg : Str → Option Value
  base : Heap
  A : Around
  N : List Str
  s₀ : Shared
  H₀ : Hp
  env : Env
  outer : List Env
  stack : List Env
  ex : List Addr
  fn : Str → Bool
  calm : Bool
  pn : List (Addr × Obj)
  xe : Value → Shared → Prop
/-- the callers' frames -/
noncomputable def frs (l : List Env) : List Addr := l.filterMap (·.frame)
noncomputable abbrev Cx.fs (X : Cx) : List Addr := frs X.outer

noncomputable def Vis (sc : Scope) (x : Str) : Prop := sc.names.lookup x = some .local ∨ sc.names.lookup x = some .cell ∨ sc.names.lookup x = some .free
noncomputable def Loc (sc : Scope) (x : Str) : Prop := sc.names.lookup x = some .local ∨ sc.names.lookup x = some .cell
noncomputable def Look (env : Env) (h : Heap) (m : Str → Option Value) (x : Str) (u : Value) : Prop :=
  (env.kindOf x = some .local ∧ m x = some u) ∨ ((env.kindOf x = some .cell ∨ env.kindOf x = some .free) ∧ ∃ c, env.cells.lookup x = some c ∧ h.IsCell c (some u))

structure Cx.Ok (X : Cx) : Prop where
  mod : Mod X.K X.mg X.base
  kind : X.env.scope.kind = .function
  glob : X.env.globals = mainGlobals
  blt : X.env.builtins = builtinsNs
  above : X.s₀.heap.objs.size ≤ X.env.locals
  inj : ∀ x y c, X.env.cells.lookup x = some c → X.env.cells.lookup y = some c → x = y
  has : ∀ x, (X.env.kindOf x = some .cell ∨ X.env.kindOf x = some .free) → ∃ c, X.env.cells.lookup x = some c
  cab : ∀ x c, X.fn x = true → X.env.cells.lookup x = some c → X.s₀.heap.objs.size ≤ c
  hd : X.calm = true → X.A.handled = none
  frames : X.A.frames = some X.stack
  stk : X.stack = X.outer ∨ (X.stack = X.env :: X.outer ∧ X.env.frame = some X.env.locals)
  exf : ∀ b ∈ X.ex, b ≠ X.env.locals ∧ ∀ x c, X.env.cells.lookup x = some c → c ≠ b
  bs : ∀ b o, X.base.get? b = some o → X.s₀.heap.get? b = some o ∧ X.H₀ b = none
  bsz : X.base.objs.size ≤ X.s₀.heap.objs.size
  noex : ∀ b o, X.base.get? b = some o → b ∉ X.ex
  exfs : ∀ b ∈ X.ex, b ∉ X.fs
  funs : X.s₀.heap.FunFrames X.base X.outer
  frf : ∀ b ∈ X.fs, X.H₀ b = none

structure Inv (X : Cx) (pins : List (Addr × Obj)) (σ : List (Option V)) (H : Hp) (s : Shared) : Prop where
  ok : X.Ok
  os : s.os = X.s₀.os
  bare : AllBare s.gens
  base : Un X.fs X.ex X.H₀ H X.s₀.heap s.heap
  loc : ∃ m, s.heap.Ns X.env.locals m ∧ ∀ (i : Nat) (x : Str) (v : V), X.N[i]? = some x → σ[i]? = some (some v) → Vis X.env.scope x → ∃ u, RelV v u ∧ Look X.env s.heap m x u
  cell : ∀ x c, X.env.cells.lookup x = some c → ∃ v, s.heap.IsCell c v
  free : H X.env.locals = none
  freeC : ∀ x c, X.env.cells.lookup x = some c → H c = none
  pin : ∀ p ∈ X.pn ++ pins, s.heap.get? p.1 = some p.2 ∧ H p.1 = none ∧ p.1 ≠ X.env.locals ∧ p.1 ∉ X.fs ∧ ∀ v, p.2.data ≠ .cell v
  hok : HOk X.prog X.w H s.heap
  len : σ.length = X.N.length

section
variable {X : Cx} {pins : List (Addr × Obj)} {σ : List (Option V)} {H H' : Hp} {s : Shared} {h' : Heap}

theorem Cx.Ok.nofr (ok : X.Ok) {b : Addr} {o : Obj} (e : X.base.get? b = some o) : b ∉ X.fs := fun hb => by
  have := (ok.funs.mem hb).1
  rw [e] at this; cases this
theorem Inv.bs (I : Inv X pins σ H s) : ∀ b o, X.base.get? b = some o → s.heap.get? b = some o ∧ H b = none := fun b o e =>
  ⟨I.base.keep b o (I.ok.bs b o e).1 (I.ok.bs b o e).2 (I.ok.nofr e) (I.ok.noex b o e), I.base.free b o (I.ok.bs b o e).1 (I.ok.bs b o e).2 (I.ok.noex b o e)⟩
theorem Inv.bk (I : Inv X pins σ H s) : ∀ b o, X.base.get? b = some o → s.heap.get? b = some o := fun b o e => (I.bs b o e).1
theorem Inv.mod (I : Inv X pins σ H s) : Mod X.K X.mg X.base := I.ok.mod
theorem Inv.kIn (I : Inv X pins σ H s) : X.K.In s.heap := I.ok.mod.kin.keeps I.bk
theorem Inv.nolimit (I : Inv X pins σ H s) : s.heap.NoLimit := I.ok.mod.nolimit.keeps I.bk
/-- the frame over the base: for OpenK's rules (K.In X.base is I.mod.kin) -/
theorem Inv.fr (I : Inv X pins σ H s) : ∃ m, Fr X.base X.env.locals s.heap m :=
  let ⟨m, hn, _⟩ := I.loc
  ⟨m, hn, I.bk, Nat.le_trans I.ok.bsz I.ok.above⟩
theorem Inv.lt (I : Inv X pins σ H s) : X.env.locals < s.heap.objs.size := let ⟨_, hn, _⟩ := I.loc; hn.lt
theorem Inv.sz (I : Inv X pins σ H s) : X.s₀.heap.objs.size ≤ s.heap.objs.size := Nat.le_trans I.ok.above (Nat.le_of_lt I.lt)
theorem Inv.nofs (I : Inv X pins σ H s) {a : Addr} (h : s.heap.objs.size ≤ a) : a ∉ X.fs := fun hb => by
  obtain ⟨_, o, ho, _⟩ := I.ok.funs.mem hb
  exact absurd (Nat.lt_of_lt_of_le (Heap.lt_size ho) (Nat.le_trans I.sz h)) (Nat.lt_irrefl _)
theorem Inv.cne (I : Inv X pins σ H s) : ∀ x c, X.env.cells.lookup x = some c → c ≠ X.env.locals := fun x c e z => by
  obtain ⟨v, o, ho, hd⟩ := I.cell x c e
  obtain ⟨m, ⟨o', es, ep, ho', hd', _⟩, _⟩ := I.loc
  rw [z, ho'] at ho; cases ho; rw [hd'] at hd; cases hd
theorem Inv.funs (I : Inv X pins σ H s) : s.heap.FunFrames X.base X.outer := by
  have all : ∀ (l : List Env), (∀ b ∈ frs l, b ∈ X.fs) → X.s₀.heap.FunFrames X.base l → s.heap.FunFrames X.base l := by
    intro l
    induction l with
    | nil => intro _ _; trivial
    | cons env r ih =>
      intro hs hl
      obtain ⟨hk, ⟨L, o, hf, hn, ho, hd⟩, hr⟩ := hl
      have hL : L ∈ X.fs := hs L (by unfold frs; rw [List.filterMap_cons, hf]; exact List.mem_cons_self)
      obtain ⟨sl, e⟩ := I.base.slot L o ho (I.ok.frf L hL) hL fun z => I.ok.exfs L z hL
      exact ⟨hk, ⟨L, _, hf, hn, e, hd⟩, ih (fun b hb => hs b (by unfold frs; rw [List.filterMap_cons, hf]; exact List.mem_cons_of_mem _ hb)) hr⟩
  exact all X.outer (fun _ hb => hb) I.ok.funs

/-- the frames that run, for a call -/
theorem Inv.stack (I : Inv X pins σ H s) : s.heap.FunFrames X.base X.stack := by
  rcases I.ok.stk with e | ⟨e, hf⟩
  · rw [e]; exact I.funs
  · rw [e]
    obtain ⟨m, hn, _⟩ := I.loc
    refine .cons (by rw [I.ok.kind]; decide) hf hn ?_ I.funs
    exact Heap.get?_none_of_le (Nat.le_trans I.ok.bsz I.ok.above)
theorem Inv.stkSub (I : Inv X pins σ H s) : ∀ b ∈ frs X.stack, b ∈ X.env.locals :: X.fs := fun b hb => by
  rcases I.ok.stk with e | ⟨e, hf⟩
  · rw [e] at hb; exact List.mem_cons_of_mem _ hb
  · rw [e] at hb
    unfold frs at hb
    rw [List.filterMap_cons, hf] at hb
    exact hb
theorem Inv.stkFree (I : Inv X pins σ H s) : ∀ b ∈ frs X.stack, H b = none := fun b hb => by
  rcases List.mem_cons.mp (I.stkSub b hb) with e | hb
  · rw [e]; exact I.free
  · obtain ⟨_, o, ho, _⟩ := I.ok.funs.mem hb
    exact I.base.free b o ho (I.ok.frf b hb) fun z => I.ok.exfs b z hb

/-- THE STEP: the untracked objects but the frame and the records at ch are kept (the callers' frames up to slots), the frame's map is kept, the new abstract heap is held -/
theorem Inv.step {g' : Array GenState} {t' : Nat} {d' : Drawn} {ch : List Addr} (I : Inv X pins σ H s)
    (hch : ∀ b ∈ ch, (b ∈ X.ex ∨ X.s₀.heap.objs.size ≤ b) ∧ b ≠ X.env.locals ∧ (∀ x c, X.env.cells.lookup x = some c → c ≠ b) ∧ ∀ p ∈ X.pn ++ pins, p.1 ≠ b)
    (keep : ∀ b o, b ≠ X.env.locals → b ∉ X.fs → b ∉ ch → s.heap.get? b = some o → H b = none → h'.get? b = some o)
    (slot : ∀ b o, b ≠ X.env.locals → b ∈ X.fs → b ∉ ch → s.heap.get? b = some o → H b = none → ∃ sl, h'.get? b = some { o with slots := sl }) (free : ∀ b o, b ∉ ch → s.heap.get? b = some o → H b = none → H' b = none)
    (there : ∀ b o, b ∉ ch → s.heap.get? b = some o → ∃ o', h'.get? b = some o')
    (tups : ∀ b xs, H b = some (.tup xs) → H' b = some (.tup xs)) (frzs : ∀ b o u, H b = some (.frz o u) → H' b = some (.frz o u)) (tbls : ∀ b ps, H b = some (.tbl ps) → ∃ more, H' b = some (.tbl (ps ++ more)))
    (ns : ∀ m, s.heap.Ns X.env.locals m → h'.Ns X.env.locals m) (hok : HOk X.prog X.w H' h') (hg : AllBare g') :
    Inv X pins σ H' { s with heap := h', gens := g', drawn := d', toks := t' } := by
  have neL : ∀ b o, X.s₀.heap.get? b = some o → b ≠ X.env.locals := fun b o e => Nat.ne_of_lt (Nat.lt_of_lt_of_le (Heap.lt_size e) I.ok.above)
  have neC : ∀ b o, X.s₀.heap.get? b = some o → b ∉ X.ex → b ∉ ch := fun b o e hx hb => by
    rcases (hch b hb).1 with z | z
    · exact hx z
    · exact absurd (Nat.lt_of_lt_of_le (Heap.lt_size e) z) (Nat.lt_irrefl _)
  have cellK : ∀ x c, X.env.cells.lookup x = some c → ∀ v, s.heap.IsCell c v → h'.IsCell c v := fun x c e v ⟨o, ho, hd⟩ => by
    have nch : c ∉ ch := fun z => (hch c z).2.2.1 x c e rfl
    by_cases hc : c ∈ X.fs
    · obtain ⟨sl, q⟩ := slot c o (I.cne x c e) hc nch ho (I.freeC x c e)
      exact ⟨_, q, hd⟩
    · exact ⟨o, keep c o (I.cne x c e) hc nch ho (I.freeC x c e), hd⟩
  refine ⟨I.ok, I.os, hg, ⟨fun b o e n hb hx => ?_, fun b o e n hb hx => ?_, fun b o e n hx => ?_, fun b o e hx => ?_, fun b xs e => tups b xs (I.base.tups b xs e), fun b o xs e => frzs b o xs (I.base.frzs b o xs e), fun b ps e => ?_⟩, ?_, fun x c e => ?_, ?_, fun x c e => ?_, fun p hp => ?_, hok, I.len⟩
  · exact keep b o (neL b o e) hb (neC b o e hx) (I.base.keep b o e n hb hx) (I.base.free b o e n hx)
  · obtain ⟨sl, e1⟩ := I.base.slot b o e n hb hx
    obtain ⟨sl', e2⟩ := slot b _ (neL b o e) hb (neC b o e hx) e1 (I.base.free b o e n hx)
    exact ⟨sl', e2⟩
  · obtain ⟨o', e1⟩ := I.base.there b o e hx
    exact free b o' (neC b o e hx) e1 (I.base.free b o e n hx)
  · obtain ⟨o', e1⟩ := I.base.there b o e hx
    exact there b o' (neC b o e hx) e1
  · obtain ⟨m1, e1⟩ := I.base.tbls b ps e
    obtain ⟨m2, e2⟩ := tbls b _ e1
    exact ⟨m1 ++ m2, by rw [e2, Array.append_assoc]⟩
  · obtain ⟨m, hn, hl⟩ := I.loc
    refine ⟨m, ns m hn, fun i x v e1 e2 e3 => ?_⟩
    obtain ⟨u, r, l⟩ := hl i x v e1 e2 e3
    refine ⟨u, r, ?_⟩
    rcases l with l | ⟨k, c, e, z⟩
    · exact .inl l
    · exact .inr ⟨k, c, e, cellK x c e _ z⟩
  · obtain ⟨v, z⟩ := I.cell x c e
    exact ⟨v, cellK x c e v z⟩
  · obtain ⟨m, ⟨o, _, _, ho, _⟩, _⟩ := I.loc
    exact free _ o (fun z => (hch _ z).2.1 rfl) ho I.free
  · obtain ⟨v, o, ho, hd⟩ := I.cell x c e
    exact free c o (fun z => (hch c z).2.2.1 x c e rfl) ho (I.freeC x c e)
  · obtain ⟨e, n, ne, nf, d⟩ := I.pin p hp
    have nch : p.1 ∉ ch := fun z => (hch p.1 z).2.2.2 p hp rfl
    exact ⟨keep p.1 p.2 ne nf nch e n, free p.1 p.2 nch e n, ne, nf, d⟩
/-- .. where the frame's own object is kept too -/
theorem Inv.un {t' : Nat} (I : Inv X pins σ H s) (u : Un X.fs [] H H' s.heap h') (hok : HOk X.prog X.w H' h') : Inv X pins σ H' { s with heap := h', toks := t' } := by
  obtain ⟨m, ⟨o, es, ep, ho, r⟩, _⟩ := id I.loc
  obtain ⟨sl, hL⟩ := u.any ho I.free (by simp)
  exact I.step (g' := s.gens) (d' := s.drawn) (ch := []) (fun _ z => nomatch z) (fun b o _ hb _ e n => u.keep b o e n hb (by simp)) (fun b o _ hb _ e n => u.slot b o e n hb (by simp)) (fun b o _ e n => u.free b o e n (by simp)) (fun b o _ e => u.there b o e (by simp)) u.tups u.frzs u.tbls (fun m' hm => by
    obtain ⟨o', es', ep', ho', r'⟩ := hm
    rw [ho] at ho'; cases ho'
    exact ⟨_, es', ep', hL, r'⟩) hok I.bare
/-- behind a call (or a comprehension's block): the slots of this frame may have changed too, the records at ch may have turned -/
theorem Inv.call {g' : Array GenState} {t' : Nat} {d' : Drawn} {ch : List Addr} (I : Inv X pins σ H s) (u : Un (frs X.stack) ch H H' s.heap h') (hok : HOk X.prog X.w H' h') (hg : AllBare g')
    (hch : ∀ b ∈ ch, (b ∈ X.ex ∨ X.s₀.heap.objs.size ≤ b) ∧ b ≠ X.env.locals ∧ (∀ x c, X.env.cells.lookup x = some c → c ≠ b) ∧ ∀ p ∈ X.pn ++ pins, p.1 ≠ b) :
    Inv X pins σ H' { s with heap := h', gens := g', drawn := d', toks := t' } := by
  obtain ⟨m, ⟨o, es, ep, ho, r⟩, _⟩ := id I.loc
  obtain ⟨sl, hL⟩ := u.any ho I.free fun z => (hch _ z).2.1 rfl
  exact I.step (ch := ch) hch (fun b o hL hb hc e n => u.keep b o e n (fun z => (List.mem_cons.mp (I.stkSub b z)).elim hL hb) hc) (fun b o _ _ hc e n => u.any e n hc) (fun b o hc e n => u.free b o e n hc) (fun b o hc e => u.there b o e hc) u.tups u.frzs u.tbls (fun m' hm => by
    obtain ⟨o', es', ep', ho', r'⟩ := hm
    rw [ho] at ho'; cases ho'
    exact ⟨_, es', ep', hL, r'⟩) hok hg
/-- an untracked record of ours (an iterator) has turned -/
theorem Inv.turned {t' : Nat} {it : Addr} (I : Inv X pins σ H s) (k : ∀ b o, b ≠ it → s.heap.get? b = some o → h'.get? b = some o) (hn : H it = none) (hL : it ≠ X.env.locals)
    (h1 : it ∈ X.ex ∨ X.s₀.heap.objs.size ≤ it) (h2 : ∀ x c, X.env.cells.lookup x = some c → c ≠ it) (h3 : ∀ p ∈ X.pn ++ pins, p.1 ≠ it) : Inv X pins σ H { s with heap := h', toks := t' } := by
  have nit : ∀ b u, H b = some u → b ≠ it := fun b u e z => by rw [z, hn] at e; cases e
  refine I.step (g' := s.gens) (d' := s.drawn) (ch := [it]) (fun b hb => ?_) (fun b o _ _ hc e _ => k b o (fun z => hc (by simp [z])) e) (fun b o _ _ hc e _ => ⟨o.slots, k b o (fun z => hc (by simp [z])) e⟩) (fun _ _ _ _ n => n)
    (fun b o hc e => ⟨o, k b o (fun z => hc (by simp [z])) e⟩) (fun _ _ e => e) (fun _ _ _ e => e) (fun b ps e => ⟨#[], by rw [e]; simp⟩) (fun m hm => ?_) (fun b u e => ?_) I.bare
  · have e : b = it := by simpa using hb
    subst e
    exact ⟨h1, hL, h2, h3⟩
  · obtain ⟨o, es, ep, ho, r⟩ := hm
    exact ⟨o, es, ep, k _ o (Ne.symm hL) ho, r⟩
  · refine (I.hok b u e).stay (fun c v hc q => k c v ?_ q) (fun _ q => q) fun _ _ q => q
    rcases hc with z | z
    · rw [z]; exact nit b u e
    · exact nit c _ z
theorem Inv.tok (I : Inv X pins σ H s) (t : Nat) : Inv X pins σ H { s with toks := t } := I.un (h' := s.heap) (t' := t) Un.refl I.hok
/-- all objects kept -/
theorem Inv.kept {t' : Nat} (I : Inv X pins σ H s) (k : ∀ b u, s.heap.get? b = some u → h'.get? b = some u) : Inv X pins σ H { s with heap := h', toks := t' } := I.un (Un.kept k) (I.hok.kept k)
/-- a new object laid and tracked -/
theorem Inv.laid {a : Addr} {o : HO} {t' : Nat} (I : Inv X pins σ H s) (k : ∀ b u, s.heap.get? b = some u → h'.get? b = some u) (hp : s.heap.objs.size ≤ a) (new : ObjOk X.prog X.w (upd H a o) h' a o) :
    Inv X pins σ (upd H a o) { s with heap := h', toks := t' } := I.un (Un.laid k hp (I.hok.fresh hp)) (I.hok.laid k hp new)
/-- an object written -/
theorem Inv.write {x e : Addr} {o : HO} {t' : Nat} (I : Inv X pins σ H s) (mu : Mut (H x)) (he : e = x ∨ H e = some (.own x)) (k : ∀ b u, b ≠ e → s.heap.get? b = some u → h'.get? b = some u) (heo : ∃ u, h'.get? e = some u)
    (new : ObjOk X.prog X.w (upd H x o) h' x o) : Inv X pins σ (upd H x o) { s with heap := h', toks := t' } := I.un (Un.write mu he k heo) (I.hok.write mu he k heo new)
/-- forgetting slots, pins -/
theorem Inv.weak {σ' : List (Option V)} (I : Inv X pins σ H s) (hl : σ'.length = σ.length) (w : ∀ (i : Nat) v, σ'[i]? = some (some v) → σ[i]? = some (some v)) : Inv X pins σ' H s :=
  ⟨I.ok, I.os, I.bare, I.base, let ⟨m, hn, hl'⟩ := I.loc; ⟨m, hn, fun i x v e1 e2 e3 => hl' i x v e1 (w i v e2) e3⟩, I.cell, I.free, I.freeC, I.pin, I.hok, hl.trans I.len⟩
theorem Inv.pins_of {pins' : List (Addr × Obj)} (I : Inv X pins σ H s) (h : ∀ p ∈ pins', s.heap.get? p.1 = some p.2 ∧ H p.1 = none ∧ p.1 ≠ X.env.locals ∧ p.1 ∉ X.fs ∧ ∀ v, p.2.data ≠ .cell v) : Inv X pins' σ H s :=
  ⟨I.ok, I.os, I.bare, I.base, I.loc, I.cell, I.free, I.freeC, fun p hp => (List.mem_append.mp hp).elim (fun z => I.pin p (List.mem_append_left _ z)) (h p), I.hok, I.len⟩

theorem nodup_ix {N : List Str} (hN : N.Nodup) {i j : Nat} {x : Str} (a : N[i]? = some x) (b : N[j]? = some x) : i = j := by
  obtain ⟨h1, e1⟩ := List.getElem?_eq_some_iff.mp a
  obtain ⟨h2, e2⟩ := List.getElem?_eq_some_iff.mp b
  exact (List.getElem_inj hN).mp (e1.trans e2.symm)

/-- a name is stored; what changed -/
theorem store_ok2 {M : Model} {A : Around} {E : Value → Shared → Prop} {i : Nat} {x : Str} {v : V} {u : Value} {Q : Unit → Shared → Prop} (I : Inv X pins σ H s) (hN : X.N.Nodup) (hi : X.N[i]? = some x) (hx : Loc X.env.scope x) (r : RelV v u)
    (h : ∀ s', Inv X pins (σ.set i (some v)) H s' → (∃ a, Heap.SameBut a s.heap s'.heap ∧ (a = X.env.locals ∨ X.env.cells.lookup x = some a)) → Q () s') (hf : X.fn x = true ∨ X.env.scope.names.lookup x = some .local := by first | exact .inl rfl | exact .inr rfl | assumption) : wpAny M A (storeName X.env x u) Q E s := by
  obtain ⟨m, hn, hl⟩ := id I.loc
  have hcls : (X.env.scope.kind == .class || (X.env.scope.kind == .module && X.env.locals != X.env.globals)) = false := by rw [I.ok.kind]; rfl
  have hiσ : i < σ.length := by rw [I.len]; exact (List.getElem?_eq_some_iff.mp hi).1
  have cne := I.cne
  have tracked : ∀ {a : Addr} {h' : Heap}, (∃ o, s.heap.get? a = some o ∧ H a = none) → Heap.SameBut a s.heap h' → HOk X.prog X.w H h' := fun {a h'} ha hs b ob e => by
    obtain ⟨_, _, hfree⟩ := ha
    refine (I.hok b ob e).stay (fun c w' hc q => (hs.2 c ?_).trans q) (fun _ q => q) fun _ _ q => q
    rintro rfl
    rcases hc with rfl | hc
    · rw [hfree] at e; cases e
    · rw [hfree] at hc; cases hc
  rcases hx with hk | hk
  · refine wpAny_storeName_local hk hn (fun h' hn' hs => ?_) hcls
    obtain ⟨oL, _, _, hoL, _⟩ := id hn
    refine h _ ⟨I.ok, I.os, I.bare, ⟨fun b o e n hb hx => ?_, fun b o e n hb hx => ?_, I.base.free, fun b o e hx => ?_, I.base.tups, I.base.frzs, I.base.tbls⟩, ⟨_, hn', fun j y v' e1 e2 e3 => ?_⟩, fun y c e => ?_, I.free, I.freeC, fun p hp => ?_, tracked ⟨oL, hoL, I.free⟩ hs, by simpa using I.len⟩ ⟨_, hs, .inl rfl⟩
    · exact (hs.2 b (Nat.ne_of_lt (Nat.lt_of_lt_of_le (Heap.lt_size e) I.ok.above))).trans (I.base.keep b o e n hb hx)
    · obtain ⟨sl, e1⟩ := I.base.slot b o e n hb hx
      exact ⟨sl, (hs.2 b (Nat.ne_of_lt (Nat.lt_of_lt_of_le (Heap.lt_size e) I.ok.above))).trans e1⟩
    · obtain ⟨o', e1⟩ := I.base.there b o e hx
      exact ⟨o', (hs.2 b (Nat.ne_of_lt (Nat.lt_of_lt_of_le (Heap.lt_size e) I.ok.above))).trans e1⟩
    · by_cases hj : j = i
      · subst hj
        rw [hi] at e1; cases e1
        rw [List.getElem?_set_self hiσ] at e2
        cases e2
        exact ⟨u, r, .inl ⟨hk, by simp⟩⟩
      · rw [List.getElem?_set_ne (Ne.symm hj)] at e2
        obtain ⟨u', r', q⟩ := hl j y v' e1 e2 e3
        refine ⟨u', r', ?_⟩
        rcases q with ⟨k, e⟩ | ⟨k, c, e, z⟩
        · refine .inl ⟨k, ?_⟩
          have : y ≠ x := fun e => hj (nodup_ix hN e1 (e ▸ hi))
          simp [this, e]
        · exact .inr ⟨k, c, e, z.sameBut hs (cne y c e)⟩
    · obtain ⟨w', z⟩ := I.cell y c e
      exact ⟨w', z.sameBut hs (cne y c e)⟩
    · obtain ⟨e, n, ne, nf, d⟩ := I.pin p hp
      exact ⟨(hs.2 p.1 ne).trans e, n, ne, nf, d⟩
  · have hfn : X.fn x = true := by
      rcases hf with z | z
      · exact z
      · rw [z] at hk; cases hk
    obtain ⟨c, hc⟩ := I.ok.has x (.inl hk)
    obtain ⟨w', z⟩ := I.cell x c hc
    refine wpAny_storeName_cell I.ok.kind hk hc z (fun h' hc' hs => ?_)
    obtain ⟨oc, hoc, hocd⟩ := id z
    refine h { s with heap := h' } ⟨I.ok, I.os, I.bare, ⟨fun b o e n hb hx => ?_, fun b o e n hb hx => ?_, I.base.free, fun b o e hx => ?_, I.base.tups, I.base.frzs, I.base.tbls⟩, ⟨m, hn.sameBut hs (Ne.symm (cne x c hc)), fun j y v' e1 e2 e3 => ?_⟩, fun y c' e => ?_, I.free, I.freeC, fun p hp => ?_, tracked ⟨oc, hoc, I.freeC x c hc⟩ hs, by simpa using I.len⟩ ⟨c, hs, .inr hc⟩
    · exact (hs.2 b (Nat.ne_of_lt (Nat.lt_of_lt_of_le (Heap.lt_size e) (I.ok.cab x c hfn hc)))).trans (I.base.keep b o e n hb hx)
    · obtain ⟨sl, e1⟩ := I.base.slot b o e n hb hx
      exact ⟨sl, (hs.2 b (Nat.ne_of_lt (Nat.lt_of_lt_of_le (Heap.lt_size e) (I.ok.cab x c hfn hc)))).trans e1⟩
    · obtain ⟨o', e1⟩ := I.base.there b o e hx
      exact ⟨o', (hs.2 b (Nat.ne_of_lt (Nat.lt_of_lt_of_le (Heap.lt_size e) (I.ok.cab x c hfn hc)))).trans e1⟩
    · by_cases hj : j = i
      · subst hj
        rw [hi] at e1; cases e1
        rw [List.getElem?_set_self hiσ] at e2
        cases e2
        exact ⟨u, r, .inr ⟨.inl hk, c, hc, hc'⟩⟩
      · rw [List.getElem?_set_ne (Ne.symm hj)] at e2
        obtain ⟨u', r', q⟩ := hl j y v' e1 e2 e3
        refine ⟨u', r', ?_⟩
        rcases q with q | ⟨k, c', e, z'⟩
        · exact .inl q
        · refine .inr ⟨k, c', e, z'.sameBut hs ?_⟩
          rintro rfl
          exact hj (nodup_ix hN e1 (I.ok.inj _ _ _ e hc ▸ hi))
    · by_cases hcc : c' = c
      · subst hcc; exact ⟨_, hc'⟩
      · obtain ⟨w2, z2⟩ := I.cell y c' e
        exact ⟨w2, z2.sameBut hs hcc⟩
    · obtain ⟨e, n, ne, nf, d⟩ := I.pin p hp
      refine ⟨(hs.2 p.1 ?_).trans e, n, ne, nf, d⟩
      intro q
      rw [q, hoc] at e
      have q' : oc = p.2 := Option.some.inj e
      exact d w' (by rw [← q']; exact hocd)
theorem store_ok {M : Model} {A : Around} {E : Value → Shared → Prop} {i : Nat} {x : Str} {v : V} {u : Value} {Q : Unit → Shared → Prop} (I : Inv X pins σ H s) (hN : X.N.Nodup) (hi : X.N[i]? = some x) (hx : Loc X.env.scope x) (r : RelV v u)
    (h : ∀ s', Inv X pins (σ.set i (some v)) H s' → Q () s') (hf : X.fn x = true ∨ X.env.scope.names.lookup x = some .local := by first | exact .inl rfl | exact .inr rfl | assumption) : wpAny M A (storeName X.env x u) Q E s :=
  store_ok2 I hN hi hx r (fun s' I' _ => h s' I') hf
/-- behind a call or a block, the state as it is -/
theorem Inv.call' {s' : Shared} {ch : List Addr} (I : Inv X pins σ H s) (ho : s'.os = s.os) (u : Un (frs X.stack) ch H H' s.heap s'.heap) (hok : HOk X.prog X.w H' s'.heap) (hg : AllBare s'.gens)
    (hch : ∀ b ∈ ch, (b ∈ X.ex ∨ X.s₀.heap.objs.size ≤ b) ∧ b ≠ X.env.locals ∧ (∀ x c, X.env.cells.lookup x = some c → c ≠ b) ∧ ∀ p ∈ X.pn ++ pins, p.1 ≠ b) : Inv X pins σ H' s' := by
  obtain ⟨h', g', d', t', o'⟩ := s'
  have e : o' = s.os := ho
  subst e
  exact I.call (g' := g') (t' := t') (d' := d') u hok hg hch
end

/-! ### the judgements -/
/-- an exception: its class, its own dict's address (where it has one), the abstract heap behind it -/
noncomputable abbrev XK := Value → Option Addr → Hp → Prop
noncomputable abbrev St := List (Option V)
noncomputable abbrev VK := V → Hp → Prop
/-- an expression's reading; a test's; an argument list's -/
noncomputable abbrev TE := St → Hp → VK → Prop
noncomputable abbrev TT := St → Hp → (Bool → Hp → Prop) → Prop
noncomputable abbrev TA := St → Hp → (List V → Hp → Prop) → Prop
/-- what is wanted behind a statement -/
structure Ends where
  nx : St → Hp → Prop
  rt : VK
  bk : St → Hp → Prop := fun _ _ => False
  ct : St → Hp → Prop := fun _ _ => False
noncomputable abbrev TS := Ends → St → Hp → Prop

noncomputable def EP (X : Cx) (pins : List (Addr × Obj)) (σ : St) (Q : VK) (u : Value) (s' : Shared) : Prop := ∃ v H', Inv X pins σ H' s' ∧ RelV v u ∧ Q v H'
noncomputable def TP (X : Cx) (pins : List (Addr × Obj)) (σ : St) (Q : Bool → Hp → Prop) (b : Bool) (s' : Shared) : Prop := ∃ H', Inv X pins σ H' s' ∧ Q b H'
noncomputable def AP (X : Cx) (pins : List (Addr × Obj)) (σ : St) (Q : List V → Hp → Prop) (us : List Value) (s' : Shared) : Prop := ∃ vs H', Inv X pins σ H' s' ∧ Vals vs us ∧ Q vs H'
noncomputable def SP (X : Cx) (pins : List (Addr × Obj)) (D : Ends) (f : Flow) (s' : Shared) : Prop :=
  match f with
  | .next => ∃ σ' H', Inv X pins σ' H' s' ∧ D.nx σ' H'
  | .brk => ∃ σ' H', Inv X pins σ' H' s' ∧ D.bk σ' H'
  | .cont => ∃ σ' H', Inv X pins σ' H' s' ∧ D.ct σ' H'
  | .ret u => ∃ v σ' H', Inv X pins σ' H' s' ∧ RelV v u ∧ D.rt v H'

noncomputable def PE (X : Cx) (e : Expr) (t : TE) : Prop :=
  ∀ (pins : List (Addr × Obj)) (s : Shared) (σ : St) (H : Hp) (Q : VK), Inv X pins σ H s → t σ H Q → wpAny (model X.prog X.w) X.A (eval e X.env) (EP X pins σ Q) X.xe s
noncomputable def PT (X : Cx) (e : Expr) (t : TT) : Prop :=
  ∀ (pins : List (Addr × Obj)) (s : Shared) (σ : St) (H : Hp) (Q : Bool → Hp → Prop), Inv X pins σ H s → t σ H Q → wpAny (model X.prog X.w) X.A (isTrue e X.env (eval e X.env)) (TP X pins σ Q) X.xe s
/-- a test whatever its 'whole' is (and, or) -/
noncomputable def PW (X : Cx) (e : Expr) (t : TT) : Prop :=
  ∀ (whole : Sem Value) (pins : List (Addr × Obj)) (s : Shared) (σ : St) (H : Hp) (Q : Bool → Hp → Prop), Inv X pins σ H s → t σ H Q → wpAny (model X.prog X.w) X.A (isTrue e X.env whole) (TP X pins σ Q) X.xe s
theorem PW.pt {X : Cx} {e : Expr} {t : TT} (h : PW X e t) : PT X e t := h _
/-- an argument list (no star), from the left -/
noncomputable def PA (X : Cx) (es : List Expr) (t : TA) : Prop :=
  ∀ (pos : Pos) (pins : List (Addr × Obj)) (s : Shared) (σ : St) (H : Hp) (Q : List V → Hp → Prop), Inv X pins σ H s → t σ H Q → wpAny (model X.prog X.w) X.A (spliced (backTo pos (starEach es X.env))) (AP X pins σ Q) X.xe s
noncomputable def PS (X : Cx) (st : Stmt) (t : TS) : Prop :=
  ∀ (pins : List (Addr × Obj)) (s : Shared) (σ : St) (H : Hp) (D : Ends), Inv X pins σ H s → t D σ H → wpAny (model X.prog X.w) X.A (exec st X.env) (SP X pins D) X.xe s
noncomputable def PSs (X : Cx) (st : List Stmt) (t : TS) : Prop :=
  ∀ (pins : List (Addr × Obj)) (s : Shared) (σ : St) (H : Hp) (D : Ends), Inv X pins σ H s → t D σ H → wpAny (model X.prog X.w) X.A (execs st X.env) (SP X pins D) X.xe s
/-- weaken the end -/
theorem thn {α : Type} {t : Sem α} {Q Q' : α → Shared → Prop} {M : Model} {A : Around} {E : Value → Shared → Prop} {s : Shared} (h : wpAny M A t Q E s) (hQ : ∀ a s, Q a s → Q' a s) : wpAny M A t Q' E s := wpAny_mono h hQ fun _ _ x => x
end L2

namespace L2
open PySem PySem.Spec PyProof.Rows
section
variable {X : Cx}


/-! ### names and constants -/
noncomputable def tVar (i : Nat) : TE := fun σ H Q => ∃ v, σ[i]? = some (some v) ∧ Q v H
noncomputable def tC (v : V) : TE := fun _ H Q => Q v H
theorem pe_var {i : Nat} {x : Str} {pos : Pos} (hN : X.N[i]? = some x) (hv : Vis X.env.scope x) (hd : (x == ("__debug__" : Str)) = false := by decide) (hcd : (x == ("__classdict__" : Str)) = false := by decide) : PE X (.Name x pos) (tVar i) := by
  intro pins s σ H Q I h
  obtain ⟨v, e, h⟩ := h
  obtain ⟨m, hn, hl⟩ := I.loc
  obtain ⟨u, r, l⟩ := hl i x v hN e hv
  have fin : EP X pins σ Q u s := ⟨v, H, I, r, h⟩
  rcases l with ⟨hk, hm⟩ | ⟨hk, c, hc, hcell⟩
  · exact wpAny_Name (wpAny_loadName_local I.ok.kind hk hn hm fin) hd
  · rcases hk with hk | hk
    · exact wpAny_Name (wpAny_loadName_cell I.ok.kind hk hc hcell fin) hd
    · exact wpAny_Name (wpAny_loadName_free I.ok.kind hk hc hcell fin hcd) hd
theorem pe_int {i j pos} : PE X (.Constant (.int i) j pos) (tC (.int i)) := fun _ _ _ H _ I h => wpAny_Constant_int ⟨.int i, H, I.tok _, ⟨_, rfl⟩, h⟩
theorem pe_bl {b j pos} : PE X (.Constant (.bool b) j pos) (tC (.bl b)) := fun _ _ _ H _ I h => Constant_bool ⟨.bl b, H, I, rfl, h⟩
theorem pe_non {j pos} : PE X (.Constant .none j pos) (tC .non) := fun _ _ _ H _ I h => Constant_none ⟨.non, H, I, rfl, h⟩
theorem pe_str {x j pos} : PE X (.Constant (.str x) j pos) (tC (.str x)) := fun _ _ _ H _ I h => Calls.Constant_str ⟨.str x, H, I.tok _, ⟨_, rfl⟩, h⟩

/-- a global name of the def -/
noncomputable def Gl (X : Cx) (x : Str) : Prop := X.env.kindOf x = some .globalImplicit
theorem ld_glob {E : Value → Shared → Prop} {pins : List (Addr × Obj)} {s : Shared} {σ : St} {H : Hp} {x : Str} {u : Value} {pos : Pos} {Q : Value → Shared → Prop} (I : Inv X pins σ H s) (hg : Gl X x) (hm : X.mg x = some u) (h : Q u s)
    (hd : (x == ("__debug__" : Str)) = false := by decide) : wpAny (model X.prog X.w) X.A (eval (.Name x pos) X.env) Q E s :=
  Calls.Name_function_global I.ok.kind hg (Calls.loadGlobal_global (by rw [I.ok.glob]; exact I.mod.glob.keeps I.bk) hm h) hd
theorem ld_blt {E : Value → Shared → Prop} {pins : List (Addr × Obj)} {s : Shared} {σ : St} {H : Hp} {x : Str} {u : Value} {pos : Pos} {Q : Value → Shared → Prop} (I : Inv X pins σ H s) (hg : Gl X x) (hm : X.mg x = none) (hv : bootBuiltins x = some u) (h : Q u s)
    (hn : x ≠ "__name__" := by decide) (hd : (x == ("__debug__" : Str)) = false := by decide) : wpAny (model X.prog X.w) X.A (eval (.Name x pos) X.env) Q E s := by
  obtain ⟨mb, h1, h2⟩ := I.mod.blt
  exact Calls.Name_function_global I.ok.kind hg (Calls.loadGlobal_builtin (by rw [I.ok.glob]; exact I.mod.glob.keeps I.bk) hm (by rw [I.ok.blt]; exact h1.keeps I.bk) ((h2 x hn).trans hv) h) hd
/-- a module's constant, a class, a function, as a value -/
theorem pe_glob {x : Str} {v : V} {u : Value} {pos : Pos} (hg : Gl X x) (hm : X.mg x = some u) (r : RelV v u) (hd : (x == ("__debug__" : Str)) = false := by decide) : PE X (.Name x pos) (tC v) :=
  fun _ _ _ H _ I h => ld_glob I hg hm ⟨v, H, I, r, h⟩ hd
theorem pe_bltn {x : Str} {v : V} {u : Value} {pos : Pos} (hg : Gl X x) (hm : X.mg x = none) (hv : bootBuiltins x = some u) (r : RelV v u) (hn : x ≠ "__name__" := by decide) (hd : (x == ("__debug__" : Str)) = false := by decide) : PE X (.Name x pos) (tC v) :=
  fun _ _ _ H _ I h => ld_blt I hg hm hv ⟨v, H, I, r, h⟩ hn hd

/-! ### arithmetic -/
variable {a b : Expr} {ta tb : TE} {pos : Pos}

/-! ### comparisons -/
noncomputable def PC (X : Cx) (op : CmpOp) (a b : Expr) (t : TE) : Prop :=
  ∀ (pins : List (Addr × Obj)) (s : Shared) (σ : St) (H : Hp) (Q : VK), Inv X pins σ H s → t σ H Q →
    wpAny (model X.prog X.w) X.A (eval a X.env) (fun v s₁ => wpAny (model X.prog X.w) X.A (eval b X.env) (fun u s₂ => wpAny (model X.prog X.w) X.A (compareOp op v u) (EP X pins σ Q) X.xe s₂) X.xe s₁) X.xe s
theorem nobehind (b : Expr) {op : CmpOp} (h : op ≠ .In) (h2 : op ≠ .NotIn) : behindInMarks op b = false := by
  have e1 : (op == CmpOp.In) = false := by cases op <;> first | rfl | exact absurd rfl h
  have e2 : (op == CmpOp.NotIn) = false := by cases op <;> first | rfl | exact absurd rfl h2
  cases b <;> simp [behindInMarks, e1, e2]
/-- a comparison as a value, as a test -/
noncomputable def tB (t : TE) : TT := fun σ H Q => t σ H fun x H1 => ∃ c, x = .bl c ∧ Q c H1
theorem pt_cmp {op : CmpOp} {t : TE} (h : PC X op a b t) (h1 : behindInMarks op b = false := by first | exact nobehind _ (by decide) (by decide) | rfl) : PT X (.Compare a [op] [b] pos) (tB t) := by
  intro pins s σ H Q I hw
  refine wpAny_isTrue_Compare1 (thn (h pins s σ H _ I hw) fun v s1 h1 => thn h1 fun u s2 h2 => thn h2 fun c s3 ⟨x, H1, I1, r1, q1⟩ => ?_) h1
  obtain ⟨d, rfl, q⟩ := q1
  cases r1
  exact wpAny_truthy_bool ⟨H1, I1, q⟩
/-- an expression whose value is a bool, as a test -/
theorem pt_val {e : Expr} {t : TE} (h : PE X e t) (he : ∀ whole, isTrue e X.env whole = (do let v ← whole; standAt e.pos; holding [v] (truthy v)) := by intro _; rfl) : PT X e (tB t) := by
  intro pins s σ H Q I hw
  refine isTrue_plain (thn (h pins s σ H _ I hw) fun v s1 ⟨x, H1, I1, r1, q1⟩ => ?_) (he _)
  obtain ⟨d, rfl, q⟩ := q1
  cases r1
  exact wpAny_truthy_bool ⟨H1, I1, q⟩

/-! ### and, or, not -/
variable {tA tB' : TT} {rest : List Expr}
noncomputable def tAnd (t u : TT) : TT := fun σ H Q => t σ H fun c H1 => if c = true then u σ H1 Q else Q false H1
noncomputable def tOr (t u : TT) : TT := fun σ H Q => t σ H fun c H1 => if c = true then Q true H1 else u σ H1 Q
noncomputable def tNot (t : TT) : TT := fun σ H Q => t σ H fun c H1 => Q (!c) H1
theorem pw_and1 (ha : PT X a tA) : PW X (.BoolOp .And [a] pos) tA := by
  intro wh pins s σ H Q I h
  refine isTrue_and (thn (ha pins s σ H Q I h) fun c s1 e => ?_)
  cases c with
  | true => exact isTrue_and_nil e
  | false => exact e
theorem pw_or1 (ha : PT X a tA) : PW X (.BoolOp .Or [a] pos) tA := by
  intro wh pins s σ H Q I h
  refine isTrue_or (thn (ha pins s σ H Q I h) fun c s1 e => ?_)
  cases c with
  | false => exact isTrue_or_nil e
  | true => exact e
theorem pw_and (ha : PT X a tA) (hb : PW X (.BoolOp .And (b :: rest) pos) tB') : PW X (.BoolOp .And (a :: b :: rest) pos) (tAnd tA tB') := by
  intro wh pins s σ H Q I h
  refine isTrue_and (thn (ha pins s σ H _ I h) fun c s1 ⟨H1, I1, q1⟩ => ?_)
  cases c with
  | true => exact hb wh pins s1 σ H1 Q I1 q1
  | false => exact ⟨H1, I1, q1⟩
theorem pw_or (ha : PT X a tA) (hb : PW X (.BoolOp .Or (b :: rest) pos) tB') : PW X (.BoolOp .Or (a :: b :: rest) pos) (tOr tA tB') := by
  intro wh pins s σ H Q I h
  refine isTrue_or (thn (ha pins s σ H _ I h) fun c s1 ⟨H1, I1, q1⟩ => ?_)
  cases c with
  | true => exact ⟨H1, I1, q1⟩
  | false => exact hb wh pins s1 σ H1 Q I1 q1
theorem pt_not (ha : PT X a tA) : PT X (.UnaryOp .Not a pos) (tNot tA) := by
  intro pins s σ H Q I h
  exact isTrue_not (ha pins s σ H (fun c H1 => Q (!c) H1) I h)
/-- .. as values (bools) -/
noncomputable def tAndV (ta tb : TE) : TE := fun σ H Q => ta σ H fun x H1 => ∃ c, x = .bl c ∧ if c = true then tb σ H1 Q else Q (.bl false) H1
noncomputable def tOrV (ta tb : TE) : TE := fun σ H Q => ta σ H fun x H1 => ∃ c, x = .bl c ∧ if c = true then Q (.bl true) H1 else tb σ H1 Q
theorem pe_one {op} {t : TE} (h : PE X a t) : PE X (.BoolOp op [a] pos) t := fun pins s σ H Q I hw => BoolOp_one (h pins s σ H Q I hw)
theorem pe_and (ha : PE X a ta) (hb : PE X (.BoolOp .And (b :: rest) pos) tb) : PE X (.BoolOp .And (a :: b :: rest) pos) (tAndV ta tb) := by
  intro pins s σ H Q I h
  refine BoolOp_and (thn (ha pins s σ H _ I h) fun v s1 ⟨x, H1, I1, r1, q1⟩ => ?_)
  obtain ⟨c, rfl, q1⟩ := q1
  cases r1
  refine wpAny_truthy_bool ?_
  cases c with
  | true => exact hb pins s1 σ H1 Q I1 q1
  | false => exact ⟨.bl false, H1, I1, rfl, q1⟩
theorem pe_or (ha : PE X a ta) (hb : PE X (.BoolOp .Or (b :: rest) pos) tb) : PE X (.BoolOp .Or (a :: b :: rest) pos) (tOrV ta tb) := by
  intro pins s σ H Q I h
  refine BoolOp_or (thn (ha pins s σ H _ I h) fun v s1 ⟨x, H1, I1, r1, q1⟩ => ?_)
  obtain ⟨c, rfl, q1⟩ := q1
  cases r1
  refine wpAny_truthy_bool ?_
  cases c with
  | false => exact hb pins s1 σ H1 Q I1 q1
  | true => exact ⟨.bl true, H1, I1, rfl, q1⟩
end
end L2

namespace L2
open PySem PySem.Spec PyProof.Rows

/-! ### a list, a tuple that is read: tracked, frozen, or an object of the module -/
noncomputable def SqL (K : PySem.W.Frag) (H : Hp) (a : Addr) (xs : List V) : Prop :=
  Rd H a (.lst xs) ∨
    ∃ (o : Obj) (its : Array Value) (n : Nat), K.lookup a = some o ∧ o.cls = .type "list" ∧ o.dict = none ∧ o.data = .seq its n ∧ its.size ≤ sizeLine ∧ Vals xs its.toList
noncomputable def SqT (K : PySem.W.Frag) (H : Hp) (a : Addr) (xs : List V) : Prop :=
  Rd H a (.tup xs) ∨
    ∃ (o : Obj) (its : Array Value) (n : Nat), K.lookup a = some o ∧ o.cls = .type "tuple" ∧ o.data = .seq its n ∧ its.size ≤ sizeLine ∧ Vals xs its.toList
noncomputable def absV : Value → Option V
  | .none => some .non
  | .bool b => some (.bl b)
  | .int i _ => some (.int i)
  | .str x _ => some (.str x)
  | .bytes b _ => some (.byt b)
  | .float b _ => some (.flt b)
  | .ref a => some (.ref a)
  | .type n => some (.ty n)
  | _ => none
theorem RelV.abs {x : V} {u : Value} (r : RelV x u) : absV u = some x := by
  cases x with
  | non => cases r; rfl
  | bl _ => cases r; rfl
  | int _ => obtain ⟨t, rfl⟩ := r; rfl
  | str _ => obtain ⟨t, rfl⟩ := r; rfl
  | byt _ => obtain ⟨t, rfl⟩ := r; rfl
  | flt _ => obtain ⟨t, rfl⟩ := r; rfl
  | ref _ => cases r; rfl
  | ty _ => cases r; rfl
theorem RelV.inj {x y : V} {u : Value} (r : RelV x u) (q : RelV y u) : x = y := Option.some.inj (r.abs.symm.trans q.abs)
theorem Vals.inj : ∀ {xs ys : List V} {us : List Value}, Vals xs us → Vals ys us → xs = ys
  | _, _, _, .nil, .nil => rfl
  | _, _, _, .cons r t, .cons r' t' => by rw [r.inj r', Vals.inj t t']
section
variable {X : Cx} {pins : List (Addr × Obj)} {σ : St} {H : Hp} {s : Shared} {a : Addr} {xs ys : List V}
theorem SqL.of {K : PySem.W.Frag} (h : H a = some (.lst xs)) : SqL K H a xs := .inl (.inl h)
theorem SqT.of {K : PySem.W.Frag} (h : H a = some (.tup xs)) : SqT K H a xs := .inl (.inl h)
theorem Inv.list (I : Inv X pins σ H s) (h : SqL X.K H a xs) : ∃ its : List Value, Vals xs its ∧ PlainL s.heap a its.toArray ∧ xs.length ≤ sizeLine := by
  rcases h with h | ⟨o, its, n, hk, hc, hd, hs, hz, r⟩
  · obtain ⟨z, its, n, r, e⟩ := h.ok I.hok
    exact ⟨its, r, ⟨_, n, e, rfl, rfl, rfl⟩, z⟩
  · refine ⟨its.toList, r, ⟨o, n, I.kIn a o hk, hc, hd, by simpa using hs⟩, ?_⟩
    have e := r.length
    simp only [Array.length_toList] at e
    omega
theorem Inv.tuple (I : Inv X pins σ H s) (h : SqT X.K H a xs) : ∃ its : List Value, Vals xs its ∧ IsTup s.heap a its.toArray ∧ xs.length ≤ sizeLine := by
  rcases h with h | ⟨o, its, n, hk, hc, hs, hz, r⟩
  · obtain ⟨z, its, r, p⟩ := h.ok I.hok
    exact ⟨its, r, p, z⟩
  · refine ⟨its.toList, r, ⟨o, I.kIn a o hk, hc, n, by simpa using hs⟩, ?_⟩
    have e := r.length
    simp only [Array.length_toList] at e
    omega
theorem Inv.list_inj (I : Inv X pins σ H s) (h : SqL X.K H a xs) (h' : SqL X.K H a ys) : xs = ys := by
  obtain ⟨its, r, ⟨o, n, e, _, _, d⟩, _⟩ := I.list h
  obtain ⟨its', r', ⟨o', n', e', _, _, d'⟩, _⟩ := I.list h'
  rw [e] at e'; cases e'
  rw [d] at d'
  injection d' with d1 _
  have : its = its' := by simpa using congrArg Array.toList d1
  subst this
  exact r.inj r'
theorem Inv.tuple_inj (I : Inv X pins σ H s) (h : SqT X.K H a xs) (h' : SqT X.K H a ys) : xs = ys := by
  obtain ⟨its, r, ⟨o, e, _, n, d⟩, _⟩ := I.tuple h
  obtain ⟨its', r', ⟨o', e', _, n', d'⟩, _⟩ := I.tuple h'
  rw [e] at e'; cases e'
  rw [d] at d'
  injection d' with d1 _
  have : its = its' := by simpa using congrArg Array.toList d1
  subst this
  exact r.inj r'
end

/-! ### another wish about exceptions -/
noncomputable abbrev Cx.wish (X : Cx) (E : Value → Shared → Prop) : Cx := { X with xe := E }
/-- no exception leaves -/
noncomputable abbrev Cx.nox (X : Cx) : Cx := X.wish fun _ _ => False
theorem Cx.Ok.wish {X : Cx} (ok : X.Ok) (E : Value → Shared → Prop) : (X.wish E).Ok :=
  ⟨ok.mod, ok.kind, ok.glob, ok.blt, ok.above, ok.inj, ok.has, ok.cab, ok.hd, ok.frames, ok.stk, ok.exf, ok.bs, ok.bsz, ok.noex, ok.exfs, ok.funs, ok.frf⟩
theorem Cx.Ok.unwish {X : Cx} {E : Value → Shared → Prop} (ok : (X.wish E).Ok) : X.Ok :=
  ⟨ok.mod, ok.kind, ok.glob, ok.blt, ok.above, ok.inj, ok.has, ok.cab, ok.hd, ok.frames, ok.stk, ok.exf, ok.bs, ok.bsz, ok.noex, ok.exfs, ok.funs, ok.frf⟩
section
variable {X : Cx} {pins : List (Addr × Obj)} {σ : St} {H : Hp} {s : Shared} {E : Value → Shared → Prop}
theorem Inv.wish (I : Inv X pins σ H s) (E : Value → Shared → Prop) : Inv (X.wish E) pins σ H s := ⟨I.ok.wish E, I.os, I.bare, I.base, I.loc, I.cell, I.free, I.freeC, I.pin, I.hok, I.len⟩
theorem Inv.unwish (I : Inv (X.wish E) pins σ H s) : Inv X pins σ H s := ⟨I.ok.unwish, I.os, I.bare, I.base, I.loc, I.cell, I.free, I.freeC, I.pin, I.hok, I.len⟩
theorem SP.unwish {D : Ends} {f : Flow} {s' : Shared} (h : SP (X.wish E) pins D f s') : SP X pins D f s' := by
  cases f with
  | next => obtain ⟨σ', H', I, q⟩ := h; exact ⟨σ', H', I.unwish, q⟩
  | brk => obtain ⟨σ', H', I, q⟩ := h; exact ⟨σ', H', I.unwish, q⟩
  | cont => obtain ⟨σ', H', I, q⟩ := h; exact ⟨σ', H', I.unwish, q⟩
  | ret u => obtain ⟨v, σ', H', I, r, q⟩ := h; exact ⟨v, σ', H', I.unwish, r, q⟩
theorem PE.nox {e : Expr} {t : TE} (h : PE X.nox e t) : PE X e t := fun pins s σ H Q I hw =>
  wpAny_mono (h pins s σ H Q (I.wish _) hw) (fun _ _ ⟨v, H', I', r, q⟩ => ⟨v, H', I'.unwish, r, q⟩) fun _ _ z => False.elim z
theorem PT.nox {e : Expr} {t : TT} (h : PT X.nox e t) : PT X e t := fun pins s σ H Q I hw =>
  wpAny_mono (h pins s σ H Q (I.wish _) hw) (fun _ _ ⟨H', I', q⟩ => ⟨H', I'.unwish, q⟩) fun _ _ z => False.elim z
theorem PSs.nox {st : List Stmt} {t : TS} (h : PSs X.nox st t) : PSs X st t := fun pins s σ H D I hw =>
  wpAny_mono (h pins s σ H D (I.wish _) hw) (fun _ _ q => q.unwish) fun _ _ z => False.elim z
end

/-! ### blocks and small statements -/
section
variable {X : Cx} {st : Stmt} {rest : List Stmt} {t u : TS} {e : Expr} {te : TE} {pos : Pos}
noncomputable def tNext : TS := fun D σ H => D.nx σ H
noncomputable def tSeq (t u : TS) : TS := fun D σ H => t { D with nx := u D } σ H
theorem pss_nil : PSs X [] tNext := fun _ _ σ H _ I h => wpAny_execs_nil ⟨σ, H, I, h⟩
theorem pss_cons (h1 : PS X st t) (h2 : PSs X rest u) : PSs X (st :: rest) (tSeq t u) := by
  intro pins s σ H D I h
  refine wpAny_execs_cons (thn (h1 pins s σ H { D with nx := u D } I h) fun f s1 q => ?_)
  cases f with
  | next =>
    obtain ⟨σ', H', I', q⟩ := q
    exact h2 pins s1 σ' H' D I' q
  | ret v => exact q
  | brk => exact q
  | cont => exact q
theorem pss_one (h1 : PS X st t) : PSs X [st] t := by
  intro pins s σ H D I h
  refine wpAny_execs_cons (thn (h1 pins s σ H D I h) fun f s1 q => ?_)
  cases f with
  | next => exact wpAny_execs_nil q
  | ret v => exact q
  | brk => exact q
  | cont => exact q
/-- in a def's body nothing is shown -/
theorem Inv.quiet {pins : List (Addr × Obj)} {σ : St} {H : Hp} {s : Shared} (I : Inv X pins σ H s) : interactive X.env = false := by simp [interactive, I.ok.kind]
/-- an expression whose value is dropped -/
noncomputable def tDrop (te : TE) : TS := fun D σ H => te σ H fun _ H1 => D.nx σ H1
theorem ps_expr (he : PE X e te) (hs : swapsWith e none pos.line X.env = pure false := by rfl) : PS X (.Expr e pos) (tDrop te) := by
  intro pins s σ H D I h
  exact wpAny_Expr_any (thn (he pins s σ H _ I h) fun v s1 ⟨x, H1, I1, r1, q1⟩ => ⟨σ, H1, I1, q1⟩) I.quiet hs
noncomputable def tRet (te : TE) : TS := fun D σ H => te σ H D.rt
theorem ps_ret (he : PE X e te) : PS X (.Return (some e) pos) (tRet te) := by
  intro pins s σ H D I h
  exact wpAny_Return_some (thn (he pins s σ H _ I h) fun v s1 ⟨x, H1, I1, r1, q1⟩ => ⟨x, σ, H1, I1, r1, q1⟩)
noncomputable def tIfS (c : TT) (t u : TS) : TS := fun D σ H => c σ H fun b H1 => if b = true then t D σ H1 else u D σ H1
theorem ps_if {c : Expr} {a b : List Stmt} {tc : TT} (hc : PT X c tc) (ha : PSs X a t) (hb : PSs X b u) : PS X (.If c a b pos) (tIfS tc t u) := by
  intro pins s σ H D I h
  refine wpAny_If (thn (hc pins s σ H _ I h) fun d s1 ⟨H1, I1, q1⟩ => ?_)
  cases d with
  | true => exact ha pins s1 σ H1 D I1 q1
  | false => exact hb pins s1 σ H1 D I1 q1
end

/-! ### targets -/
noncomputable abbrev TG := V → St → Hp → (St → Hp → Prop) → Prop
noncomputable abbrev TGs := List V → St → Hp → (St → Hp → Prop) → Prop
noncomputable def PG (X : Cx) (target : Expr) (t : TG) : Prop :=
  ∀ (pins : List (Addr × Obj)) (s : Shared) (σ : St) (H : Hp) (v : V) (u : Value) (Q : St → Hp → Prop), Inv X pins σ H s → RelV v u → t v σ H Q →
    wpAny (model X.prog X.w) X.A (assign target X.env u) (fun _ s' => ∃ σ' H', Inv X pins σ' H' s' ∧ Q σ' H') X.xe s
/-- several targets, one after another -/
noncomputable def PGs (X : Cx) (ts : List Expr) (t : TGs) : Prop :=
  ∀ (pins : List (Addr × Obj)) (s : Shared) (σ : St) (H : Hp) (vs : List V) (us : List Value) (Q : St → Hp → Prop), Inv X pins σ H s → Vals vs us → t vs σ H Q →
    wpAny (model X.prog X.w) X.A (assignInOrder ((assignEach ts X.env).map (·.2)) us) (fun _ s' => ∃ σ' H', Inv X pins σ' H' s' ∧ Q σ' H') X.xe s
/-- o[i] = v, by values -/
noncomputable abbrev TSet := V → V → V → Hp → (Hp → Prop) → Prop
noncomputable def PSet (X : Cx) (t : TSet) : Prop :=
  ∀ (pins : List (Addr × Obj)) (s : Shared) (σ : St) (H : Hp) (o i v : V) (ov iv u : Value) (Q : Hp → Prop), Inv X pins σ H s → RelV o ov → RelV i iv → RelV v u → t o i v H Q →
    wpAny (model X.prog X.w) X.A (setItem ov iv u) (fun _ s' => ∃ H', Inv X pins σ H' s' ∧ Q H') X.xe s
/-- a op= b, by values -/
noncomputable abbrev TIp := V → V → Hp → VK → Prop
noncomputable def PIp (X : Cx) (op : Operator) (t : TIp) : Prop :=
  ∀ (pins : List (Addr × Obj)) (s : Shared) (σ : St) (H : Hp) (x y : V) (v u : Value) (Q : VK), Inv X pins σ H s → RelV x v → RelV y u → t x y H Q →
    wpAny (model X.prog X.w) X.A (inplaceOp op v u) (EP X pins σ Q) X.xe s
section
variable {X : Cx} {pos : Pos}
noncomputable def gName (i : Nat) : TG := fun v σ H Q => Q (σ.set i (some v)) H
theorem pg_name {i : Nat} {x : Str} (hN : X.N.Nodup) (hi : X.N[i]? = some x) (hx : Loc X.env.scope x) (hf : X.fn x = true ∨ X.env.scope.names.lookup x = some .local := by first | exact .inl rfl | exact .inr rfl | assumption) : PG X (.Name x pos) (gName i) := by
  intro pins s σ H v u Q I r h
  exact wpAny_assign_Name (store_ok I hN hi hx r (fun s' I' => ⟨_, H, I', h⟩) hf)
noncomputable def gNil : TGs := fun vs σ H Q => vs = [] ∧ Q σ H
noncomputable def gCons (t : TG) (u : TGs) : TGs := fun vs σ H Q => ∃ v r, vs = v :: r ∧ t v σ H fun σ' H' => u r σ' H' Q
theorem pgs_nil : PGs X [] gNil := by
  intro pins s σ H vs us Q I r h
  obtain ⟨e, h⟩ := h
  subst e
  cases r
  exact assignInOrder_nil ⟨σ, H, I, h⟩
theorem pgs_cons {e : Expr} {es : List Expr} {t : TG} {u : TGs} (h1 : PG X e t) (h2 : PGs X es u)
    (hs : (assignEach (e :: es) X.env).map (·.2) = assign e X.env :: (assignEach es X.env).map (·.2) := by rfl) : PGs X (e :: es) (gCons t u) := by
  intro pins s σ H vs us Q I r h
  obtain ⟨v, vr, e1, h⟩ := h
  subst e1
  cases r with
  | cons r rr =>
    rw [hs]
    refine assignInOrder_cons (thn (h1 pins s σ H _ _ _ I r h) fun _ s1 ⟨σ1, H1, I1, q1⟩ => ?_)
    exact h2 pins s1 σ1 H1 _ _ Q I1 rr q1
/-- (a, b, ..) = a tuple of that length -/
noncomputable def gTup (K : PySem.W.Frag) (n : Nat) (t : TGs) : TG := fun v σ H Q => ∃ a xs, v = .ref a ∧ SqT K H a xs ∧ xs.length = n ∧ t xs σ H Q
theorem pg_tup {es : List Expr} {k : Nat} {t : TGs} {n : Nat} (hc : X.calm = true) (h : PGs X es t)
    (hn : (assignEach es X.env).length = n := by rfl) (hst : (assignEach es X.env).findIdx? (·.1) = none := by rfl) : PG X (.Tuple es k pos) (gTup X.K n t) := by
  intro pins s σ H v u Q I r hw
  obtain ⟨a, xs, e1, hq, hl, hw⟩ := hw
  subst e1
  cases r
  obtain ⟨its, rv, ht, hz⟩ := I.tuple hq
  refine assign_Tuple_tuple (I.ok.hd hc) ht (by simp [hn, ← hl, rv.length]) hst fun h' hx => ?_
  have I1 : Inv X pins σ H { s with heap := h' } := I.kept (t' := s.toks) fun b o e => hx b o (Nat.ne_of_lt (Heap.lt_size e)) e
  exact h pins _ σ H xs _ Q I1 (by simpa using rv) hw
/-- o[i] = .. -/
noncomputable def gSub (to ti : TE) (t : TSet) : TG := fun v σ H Q => to σ H fun o H1 => ti σ H1 fun i H2 => t o i v H2 fun H3 => Q σ H3
theorem pg_sub {o i : Expr} {to ti : TE} {t : TSet} (ho : PE X o to) (hi : PE X i ti) (hs : PSet X t)
    (ha : ∀ v, assign (.Subscript o i pos) X.env v = (do
      let ov ← holding [v] (eval o X.env)
      let iv ← holding [v, ov] (eval i X.env)
      standAt pos
      holding [v, ov, iv] (setItem ov iv v)
      release [v, ov, iv] []) := by intro _; rfl) : PG X (.Subscript o i pos) (gSub to ti t) := by
  intro pins s σ H v u Q I r h
  rw [ha]
  refine wpAny_bind (wpAny_holding (thn (ho pins s σ H _ I h) fun ov s1 ⟨x, H1, I1, r1, q1⟩ => ?_))
  refine wpAny_bind (wpAny_holding (thn (hi pins s1 σ H1 _ I1 q1) fun iv s2 ⟨y, H2, I2, r2, q2⟩ => ?_))
  refine wpAny_bind (wpAny_standAt (wpAny_bind (wpAny_holding (thn (hs pins s2 σ H2 x y v ov iv u _ I2 r1 r2 r q2) fun _ s3 ⟨H3, I3, q3⟩ => ?_))))
  exact wpAny_release ⟨σ, H3, I3, q3⟩
/-- target = value -/
noncomputable def tAsg (te : TE) (g : TG) : TS := fun D σ H => te σ H fun x H1 => g x σ H1 D.nx
theorem ps_asg {tg e : Expr} {te : TE} {g : TG} (he : PE X e te) (hg : PG X tg g) (hs : swapsWithSole [tg] e pos.line X.env = pure false := by rfl) (hw : swappedStores [tg] e X.env = pure none := by rfl)
    (h1 : (assignEach [tg] X.env).map (·.2) = [assign tg X.env] := by rfl) : PS X (.Assign [tg] e pos) (tAsg te g) := by
  intro pins s σ H D I h
  refine wpAny_Assign_stores (thn (he pins s σ H _ I h) fun v s1 ⟨x, H1, I1, r1, q1⟩ => ?_) hs hw
  rw [h1]
  exact thn (hg pins s1 σ H1 x v _ I1 r1 q1) fun _ s2 q => q
/-- name = value -/
theorem ps_set {i : Nat} {x : Str} {e : Expr} {te : TE} {pos' : Pos} (hN : X.N.Nodup) (hi : X.N[i]? = some x) (hx : Loc X.env.scope x) (he : PE X e te) (hs : swapsWith e (some (.Name x pos')) pos.line X.env = pure false := by rfl) (hf : X.fn x = true ∨ X.env.scope.names.lookup x = some .local := by first | exact .inl rfl | exact .inr rfl | assumption) :
    PS X (.Assign [.Name x pos'] e pos) (tAsg te (gName i)) := by
  intro pins s σ H D I h
  refine wpAny_Assign_Name (thn (he pins s σ H _ I h) fun v s1 ⟨y, H1, I1, r1, q1⟩ => ?_) hs
  exact store_ok I1 hN hi hx r1 (fun s2 I2 => ⟨_, H1, I2, q1⟩) hf
/-- name op= e -/
noncomputable def tAug (i : Nat) (te : TE) (ti : TIp) : TS := fun D σ H => ∃ x, σ[i]? = some (some x) ∧ te σ H fun y H1 => ti x y H1 fun z H2 => D.nx (σ.set i (some z)) H2
theorem ps_aug {i : Nat} {x : Str} {e : Expr} {te : TE} {op : Operator} {ti : TIp} {pos' : Pos} (hN : X.N.Nodup) (hi : X.N[i]? = some x) (hx : Loc X.env.scope x) (he : PE X e te) (ho : PIp X op ti) (hf : X.fn x = true ∨ X.env.scope.names.lookup x = some .local := by first | exact .inl rfl | exact .inr rfl | assumption) :
    PS X (.AugAssign (.Name x pos') op e pos) (tAug i te ti) := by
  intro pins s σ H D I h
  obtain ⟨v, e1, h⟩ := h
  obtain ⟨m, hn, hl⟩ := I.loc
  have vis : Vis X.env.scope x := by rcases hx with k | k; exact .inl k; exact .inr (.inl k)
  obtain ⟨u, r, l⟩ := hl i x v hi e1 vis
  refine wpAny_AugAssign_Name ?_
  have go : wpAny (model X.prog X.w) X.A (eval e X.env) (fun w s₂ => wpAny (model X.prog X.w) X.A (inplaceOp op u w) (fun r s₃ => wpAny (model X.prog X.w) X.A (storeName X.env x r) (fun _ => SP X pins D .next) X.xe s₃) X.xe s₂) X.xe s := by
    refine thn (he pins s σ H _ I h) fun w s1 ⟨y, H1, I1, r1, q1⟩ => ?_
    refine thn (ho pins s1 σ H1 v y u w _ I1 r r1 q1) fun z s2 ⟨zv, H2, I2, r2, q2⟩ => ?_
    exact store_ok I2 hN hi hx r2 (fun s3 I3 => ⟨_, H2, I3, q2⟩) hf
  rcases l with ⟨hk, hm⟩ | ⟨hk, c, hc, hcell⟩
  · exact wpAny_loadName_local I.ok.kind hk hn hm go
  · rcases hk with hk | hk
    · exact wpAny_loadName_cell I.ok.kind hk hc hcell go
    · rcases hx with k | k
      · have : X.env.scope.names.lookup x = some .free := hk
        rw [k] at this; cases this
      · have : X.env.scope.names.lookup x = some .free := hk
        rw [k] at this; cases this
/-- ints -/
noncomputable def ipI (f : Int → Int → Int) : TIp := fun x y H Q => ∃ i j, x = .int i ∧ y = .int j ∧ Q (.int (f i j)) H
theorem ip_add : PIp X .Add (ipI fun i j => i + j) := by
  intro pins s σ H x y v u Q I r1 r2 h
  obtain ⟨i, j, e1, e2, q⟩ := h
  subst e1; subst e2
  obtain ⟨t, rfl⟩ := r1
  obtain ⟨t', rfl⟩ := r2
  exact iadd_int ⟨.int _, H, I.tok _, ⟨_, rfl⟩, q⟩
end

/-! ### while -/
section
variable {X : Cx} {pos : Pos}
/-- the invariant W with its measure -/
noncomputable def tWhile (c : TT) (tb : TS) : TS := fun D σ H => ∃ W : Nat → St → Hp → Prop, (∃ m, W m σ H) ∧ ∀ m σ H, W m σ H →
  c σ H fun b H1 => if b = true then ∃ N : St → Hp → Prop, (∀ σ' H', N σ' H' → ∃ m', m' < m ∧ W m' σ' H') ∧ tb { D with nx := N, ct := N, bk := D.nx } σ H1 else D.nx σ H1
theorem ps_while {c : Expr} {body : List Stmt} {tc : TT} {tb : TS} (hp : PassesOwn (model X.prog X.w) X.A X.env X.xe) (hc : PT X c tc) (hb : PSs X body tb) : PS X (.While c body [] pos) (tWhile tc tb) := by
  intro pins s σ H D I h
  obtain ⟨W, ⟨m0, w0⟩, turn⟩ := h
  refine wpAny_While (codeAny_whileLoop (fun n s' => ∃ σ' H', Inv X pins σ' H' s' ∧ W n σ' H') ?_ m0 ⟨σ, H, I, w0⟩)
  rintro n s1 ⟨σ1, H1, I1, w1⟩
  refine wpAny_passesOwn hp (thn (hc pins s1 σ1 H1 _ I1 (turn n σ1 H1 w1)) fun b s2 ⟨H2, I2, q2⟩ => ?_)
  cases b with
  | true =>
    obtain ⟨N, hN, q2⟩ := q2
    rw [if_pos rfl]
    refine wpAny_passesOwn hp (thn (hb pins s2 σ1 H2 _ I2 q2) fun f s3 q3 => ?_)
    cases f with
    | next =>
      obtain ⟨σ3, H3, I3, n3⟩ := q3
      obtain ⟨m', hm, w3⟩ := hN σ3 H3 n3
      exact ⟨m', hm, σ3, H3, I3, w3⟩
    | cont =>
      obtain ⟨σ3, H3, I3, n3⟩ := q3
      obtain ⟨m', hm, w3⟩ := hN σ3 H3 n3
      exact ⟨m', hm, σ3, H3, I3, w3⟩
    | brk => exact q3
    | ret v => exact q3
  | false =>
    rw [if_neg Bool.false_ne_true]
    exact wpAny_execs_nil ⟨σ1, H2, I2, q2⟩
end

/-! ### what a loop or a comprehension walks -/
/-- at turn i: it yields x (the heap may grow), or it stops -/
structure It where
  go : Nat → Hp → Prop
  yld : Nat → Hp → V → Hp → Prop
  stop : Nat → Hp → Prop
/-- the iterator's own objects may turn: they are not the frame's, not pinned, younger than the entry (or a comprehension's own) -/
noncomputable def FpOk (X : Cx) (pins : List (Addr × Obj)) (H : Hp) (b : Addr) : Prop :=
  H b = none ∧ b ≠ X.env.locals ∧ b ∉ X.fs ∧ (b ∈ X.ex ∨ X.s₀.heap.objs.size ≤ b) ∧ (∀ x c, X.env.cells.lookup x = some c → c ≠ b) ∧ ∀ p ∈ X.pn ++ pins, p.1 ≠ b
theorem Inv.fpOk {X : Cx} {pins : List (Addr × Obj)} {σ : St} {H H' : Hp} {s : Shared} {b : Addr} (I : Inv X pins σ H s) (hb : s.heap.objs.size ≤ b) (hn : H' b = none) : FpOk X pins H' b := by
  refine ⟨hn, Nat.ne_of_gt (Nat.lt_of_lt_of_le I.lt hb), I.nofs hb, .inr (Nat.le_trans I.sz hb), fun x c e z => ?_, fun p hp z => ?_⟩
  · obtain ⟨v, q⟩ := I.cell x c e
    exact absurd (Nat.lt_of_lt_of_le q.lt (by rw [z]; exact hb)) (Nat.lt_irrefl _)
  · exact absurd (Nat.lt_of_lt_of_le (Heap.lt_size (I.pin p hp).1) (by rw [z]; exact hb)) (Nat.lt_irrefl _)
structure Turn (P : Program) (w : World) (K : PySem.W.Frag) (tg : Expr) (J : It) (fp : List Addr) (it : Addr) (tn : Nat → Heap → Prop) : Prop where
  mem : it ∈ fp
  obj : ∀ i h, tn i h → ∀ b ∈ fp, ∃ o, h.get? b = some o ∧ ∀ v, o.data ≠ .cell v
  keep : ∀ i h h', tn i h → (∀ b ∈ fp, ∀ o, h.get? b = some o → h'.get? b = some o) → tn i h'
  item : ∀ (X : Cx), X.prog = P → X.w = w → X.K = K → X.calm = true → ∀ (i : Nat) (pins : List (Addr × Obj)) (s : Shared) (σ : St) (H : Hp) (E : Value → Shared → Prop), Inv X pins σ H s → (∀ b ∈ fp, FpOk X pins H b) → tn i s.heap → J.go i H →
    wpAny (model P w) X.A (pyNext (.ref it)) (fun r s1 => ∃ u, r = some u ∧
      wpAny (model P w) X.A (letOwnedTupleGo tg (.ref it) u) (fun _ s2 => ∃ x H', Inv X pins σ H' s2 ∧ RelV x u ∧ J.yld i H x H' ∧ tn (i + 1) s2.heap ∧ ∀ b ∈ fp, H' b = none) E s1) E s
  done : ∀ (X : Cx), X.prog = P → X.w = w → X.K = K → X.calm = true → ∀ (i : Nat) (pins : List (Addr × Obj)) (s : Shared) (σ : St) (H : Hp) (E : Value → Shared → Prop), Inv X pins σ H s → (∀ b ∈ fp, FpOk X pins H b) → tn i s.heap → J.stop i H →
    wpAny (model P w) X.A (pyNext (.ref it)) (fun r s1 => r = none ∧ Inv X pins σ H s1) E s
  self : ∀ (A : Around) (i : Nat) (s : Shared) (Q : Value → Shared → Prop) (E : Value → Shared → Prop), tn i s.heap → Q (.ref it) s → wpAny (model P w) A (pyIter (.ref it)) Q E s
noncomputable abbrev TI := St → Hp → (It → Hp → Prop) → Prop
/-- an iterator has come -/
noncomputable def PIE (X : Cx) (pins : List (Addr × Obj)) (σ : St) (tg : Expr) (R : It → Hp → Prop) (itv : Value) (s2 : Shared) : Prop :=
  ∃ (it : Addr) (fp : List Addr) (tn : Nat → Heap → Prop) (J : It) (H' : Hp), itv = .ref it ∧ Inv X pins σ H' s2 ∧ Turn X.prog X.w X.K tg J fp it tn ∧ tn 0 s2.heap ∧ (∀ b ∈ fp, FpOk X pins H' b) ∧ R J H'
noncomputable def PI (X : Cx) (tg iter : Expr) (wi : TI) : Prop :=
  ∀ (pins : List (Addr × Obj)) (s : Shared) (σ : St) (H : Hp) (R : It → Hp → Prop), Inv X pins σ H s → wi σ H R →
    wpAny (model X.prog X.w) X.A (eval iter X.env) (fun v s1 => wpAny (model X.prog X.w) X.A (pyIter v) (PIE X pins σ tg R) X.xe s1) X.xe s

/-- the step ahead of the store is nothing for an iterator that keeps no tuple -/
theorem go_of {M : Model} {A : Around} {E : Value → Shared → Prop} {s : Shared} {tg : Expr} {it : Addr} {u : Value} {o : Obj} {n : String} {vs : Array Value} {Q : Unit → Shared → Prop} (ho : s.heap.get? it = some o) (hc : o.cls = .type n) (hd : o.data = .fields vs)
    (hn : ["enumerate", "zip", "dict_itemiterator", "dict_reverseitemiterator", "odict_iterator", "itertools.zip_longest", "itertools.pairwise"].contains n = false) (hQ : Q () s) : wpAny M A (letOwnedTupleGo tg (.ref it) u) Q E s := by
  unfold letOwnedTupleGo
  cases tg <;> first
    | exact wpAny_pure hQ
    | (cases u <;> first
        | exact wpAny_pure hQ
        | (refine wpAny_bind (wpAny_load ho ?_)
           rw [hc, hd]
           show wpAny M A (if (["enumerate", "zip", "dict_itemiterator", "dict_reverseitemiterator", "odict_iterator", "itertools.zip_longest", "itertools.pairwise"].contains n && vs[0]? == some (rawInt _)) = true then _ else _) Q E s
           rw [if_neg (by intro h; rw [hn, Bool.false_and] at h; cases h)]
           exact wpAny_pure hQ))

/-- the list at a, as it stands at each turn (a loop may append to it) -/
noncomputable def Itl (K : PySem.W.Frag) (a : Addr) : It :=
  ⟨fun i H => ∃ xs x, SqL K H a xs ∧ xs[i]? = some x, fun i H x H' => H' = H ∧ ∀ xs, SqL K H a xs → xs[i]? = some x, fun i H => ∃ xs, SqL K H a xs ∧ xs.length ≤ i⟩
noncomputable def Itt (K : PySem.W.Frag) (a : Addr) : It :=
  ⟨fun i H => ∃ xs x, SqT K H a xs ∧ xs[i]? = some x, fun i H x H' => H' = H ∧ ∀ xs, SqT K H a xs → xs[i]? = some x, fun i H => ∃ xs, SqT K H a xs ∧ xs.length ≤ i⟩
/-- lo, lo + 1, .. (n of them) -/
noncomputable def Itr (lo : Int) (n : Nat) : It := ⟨fun i _ => i < n, fun i H x H' => H' = H ∧ x = .int (lo + i), fun i _ => n ≤ i⟩
theorem turn_list {P : Program} {w : World} {K : PySem.W.Frag} {tg : Expr} (a it : Addr) : Turn P w K tg (Itl K a) [it] it (fun i h => h.IsListIter it a i) where
  mem := by simp
  obj := fun i h st b hb => by
    have e : b = it := by simpa using hb
    subst e
    obtain ⟨o, e, c, d⟩ := st
    exact ⟨o, e, fun v z => by rw [d] at z; cases z⟩
  keep := fun i h h' st k => st.at fun o e => k it (by simp) o e
  item := by
    intro X hP hw hK hc i pins s σ H E I hf st hg
    subst hP hw hK
    obtain ⟨xs, x, hq, hx⟩ := hg
    obtain ⟨its, rv, p, hz⟩ := I.list hq
    obtain ⟨u, hu, ru⟩ := rv.get hx
    obtain ⟨f0, f1, f2, f3, f4, f5⟩ := hf it (by simp)
    refine wpAny_pyNext_list_item st p.isList (x := u) (by simpa using hu) fun h' st' sb => ?_
    have I1 : Inv X pins σ H { s with heap := h' } := I.turned (t' := s.toks) (fun b o hb e => (sb.2 b hb).trans e) f0 f1 f3 f4 f5
    obtain ⟨o, e, c, d⟩ := id st'
    exact ⟨u, rfl, go_of (s := { s with heap := h' }) e c d (by decide) ⟨x, H, I1, ru, ⟨rfl, fun ys hy => by rw [I.list_inj hy hq]; exact hx⟩, st', fun b hb => (hf b hb).1⟩⟩
  done := by
    intro X hP hw hK hc i pins s σ H E I hf st hg
    subst hP hw hK
    obtain ⟨xs, hq, hx⟩ := hg
    obtain ⟨its, rv, p, hz⟩ := I.list hq
    obtain ⟨f0, f1, f2, f3, f4, f5⟩ := hf it (by simp)
    have hl := rv.length
    exact wpAny_pyNext_list_end (I.ok.hd hc) st p.isList (by simp; omega) fun h' eb => ⟨rfl, I.turned (t' := s.toks) (fun b o hb e => eb b o hb e) f0 f1 f3 f4 f5⟩
  self := fun _ _ _ _ _ st h => wpAny_pyIter_listiter st h
theorem turn_tuple {P : Program} {w : World} {K : PySem.W.Frag} {tg : Expr} (a it : Addr) : Turn P w K tg (Itt K a) [it] it (fun i h => h.IsTupleIter it a i) where
  mem := by simp
  obj := fun i h st b hb => by
    have e : b = it := by simpa using hb
    subst e
    obtain ⟨o, e, c, d⟩ := st
    exact ⟨o, e, fun v z => by rw [d] at z; cases z⟩
  keep := fun i h h' st k => st.at fun o e => k it (by simp) o e
  item := by
    intro X hP hw hK hc i pins s σ H E I hf st hg
    subst hP hw hK
    obtain ⟨xs, x, hq, hx⟩ := hg
    obtain ⟨its, rv, p, hz⟩ := I.tuple hq
    obtain ⟨u, hu, ru⟩ := rv.get hx
    obtain ⟨f0, f1, f2, f3, f4, f5⟩ := hf it (by simp)
    refine wpAny_pyNext_tuple_item st (show s.heap.IsTuple a its.toArray from p) (x := u) (by simpa using hu) fun h' st' sb => ?_
    have I1 : Inv X pins σ H { s with heap := h' } := I.turned (t' := s.toks) (fun b o hb e => (sb.2 b hb).trans e) f0 f1 f3 f4 f5
    obtain ⟨o, e, c, d⟩ := id st'
    exact ⟨u, rfl, go_of (s := { s with heap := h' }) e c d (by decide) ⟨x, H, I1, ru, ⟨rfl, fun ys hy => by rw [I.tuple_inj hy hq]; exact hx⟩, st', fun b hb => (hf b hb).1⟩⟩
  done := by
    intro X hP hw hK hc i pins s σ H E I hf st hg
    subst hP hw hK
    obtain ⟨xs, hq, hx⟩ := hg
    obtain ⟨its, rv, p, hz⟩ := I.tuple hq
    obtain ⟨f0, f1, f2, f3, f4, f5⟩ := hf it (by simp)
    have hl := rv.length
    exact wpAny_pyNext_tuple_end (I.ok.hd hc) st (show s.heap.IsTuple a its.toArray from p) (by simp; omega) fun h' eb => ⟨rfl, I.turned (t' := s.toks) (fun b o hb e => eb b o hb e) f0 f1 f3 f4 f5⟩
  self := fun _ _ _ _ _ st h => wpAny_pyIter_tupleiter st h
theorem turn_range {P : Program} {w : World} {K : PySem.W.Frag} {tg : Expr} (it : Addr) (lo : Int) (n : Nat) : Turn P w K tg (Itr lo n) [it] it (fun i h => IsRangeIter h it (lo + (i : Nat) * 1) ((n : Int) - (i : Nat)) 1) where
  mem := by simp
  obj := fun i h st b hb => by
    have e : b = it := by simpa using hb
    subst e
    exact ⟨_, st, fun v z => by
      have z' : Data.fields _ = Data.cell v := z
      cases z'⟩
  keep := fun i h h' st k => k it (by simp) _ st
  item := by
    intro X hP hw hK hc i pins s σ H E I hf st hg
    subst hP hw hK
    obtain ⟨f0, f1, f2, f3, f4, f5⟩ := hf it (by simp)
    have W := Walks.range (prog := X.prog) (w := X.w) (I.ok.hd hc) it lo 1 n
    refine W.item i s _ _ hg st fun v h' tk hv st' kk => ?_
    obtain ⟨t, rfl⟩ := hv
    have I1 : Inv X pins σ H { s with heap := h', toks := tk } := I.turned (fun b o hb e => kk b o (by simpa using hb) e) f0 f1 f3 f4 f5
    refine ⟨_, rfl, go_of (s := { s with heap := h', toks := tk }) (n := "range_iterator") st' rfl rfl (by decide) ⟨.int (lo + i), H, I1, ⟨t, ?_⟩, ⟨rfl, rfl⟩, st', fun b hb => (hf b hb).1⟩⟩
    rw [Int.mul_one]
  done := by
    intro X hP hw hK hc i pins s σ H E I hf st hg
    subst hP hw hK
    obtain ⟨f0, f1, f2, f3, f4, f5⟩ := hf it (by simp)
    exact wpAny_pyNext_range_end (I.ok.hd hc) st (by have : n ≤ i := hg; omega) fun h' eb => ⟨rfl, I.turned (t' := s.toks) (fun b o hb e => eb b o hb e) f0 f1 f3 f4 f5⟩
  self := fun _ _ _ _ _ st h => wpAny_pyIter_rangeiter st h
end L2

namespace L2
open PySem PySem.Spec PyProof.Rows
section
variable {X : Cx} {tg : Expr}
/-- a range object just made, walked -/
theorem range_it {pins : List (Addr × Obj)} {σ : St} {H : Hp} {s : Shared} {R : It → Hp → Prop} {E : Value → Shared → Prop} {lo hi : Int} {t u v : Tok} {tk : Nat} (I : Inv X pins σ H s) (h1 : -(2 ^ 62) ≤ lo) (h2 : lo < 2 ^ 62) (h3 : -(2 ^ 62) ≤ hi) (h4 : hi < 2 ^ 62)
    (q : R (Itr lo (hi - lo).toNat) H) : wpAny (model X.prog X.w) X.A (pyIter (.ref s.heap.objs.size)) (PIE X pins σ tg R) E { s with heap := s.heap.push { cls := .type "range", data := .fields #[.int lo t, .int hi u, .int 1 v] }, toks := tk } := by
  refine wpAny_pyIter_range (IsRange.new ..) (small_one h1 h2 h3 h4) ?_
  have I1 : Inv X pins σ H { s with heap := s.heap.push { cls := .type "range", data := .fields #[.int lo t, .int hi u, .int 1 v] }, toks := tk } := I.kept fun b o e => Heap.get?_push_of_some _ e
  refine ⟨(s.heap.push { cls := .type "range", data := .fields #[.int lo t, .int hi u, .int 1 v] }).objs.size, [(s.heap.push { cls := .type "range", data := .fields #[.int lo t, .int hi u, .int 1 v] }).objs.size], _, _, H, rfl,
    I1.kept (t' := tk) fun b o e => Heap.get?_push_of_some _ e, turn_range _ lo (hi - lo).toNat, ?_, fun b hb => ?_, q⟩
  · have e1 : lo + ((0 : Nat) : Int) * 1 = lo := by simp
    have e2 : (((hi - lo).toNat : Nat) : Int) - ((0 : Nat) : Int) = Builtin.Range.rangeSize lo hi 1 := by rw [rangeSize_one]; split <;> omega
    show IsRangeIter _ _ (lo + ((0 : Nat) : Int) * 1) ((((hi - lo).toNat : Nat) : Int) - ((0 : Nat) : Int)) 1
    rw [e1, e2]
    exact Heap.get?_push_size _ rfl
  · have e : b = (s.heap.push { cls := .type "range", data := .fields #[.int lo t, .int hi u, .int 1 v] }).objs.size := by simpa using hb
    subst e
    exact I1.fpOk (Nat.le_refl _) (I1.hok.fresh (Nat.le_refl _))
noncomputable def iRng1 (ta : TA) : TI := fun σ H R => ta σ H fun vs H1 => ∃ j : Int, vs = [.int j] ∧ -(2 ^ 62) ≤ j ∧ j < 2 ^ 62 ∧ R (Itr 0 j.toNat) H1
theorem pi_range1 {a : Expr} {ta : TA} {p pos : Pos} (hg : Gl X "range") (hm : X.mg "range" = none) (ha : PA X [a] ta) (hs : starEach [a] X.env = [(false, eval a X.env)] := by rfl) : PI X tg (.Call (.Name "range" p) [a] [] pos) (iRng1 ta) := by
  intro pins s σ H R I h
  refine Call_ (ld_blt I hg hm boot_range (PyProof.Rows.callWith_type1 (thn (ha pos pins s σ H _ I h) fun us s1 ⟨vs, H1, I1, r1, q1⟩ => ?_) hs rfl))
  obtain ⟨j, e, q1, q2, q⟩ := q1
  subst e
  cases r1 with
  | cons r rr =>
    cases rr
    obtain ⟨t, rfl⟩ := r
    exact call_range_1 (range_it I1 (by omega) (by omega) q1 q2 (by simpa using q))

/-! ### for -/
/-- W: the invariant by the turn and a measure; N: what the body is to reach -/
noncomputable def tFor (wi : TI) (g : TG) (tb : TS) : TS := fun D σ H => wi σ H fun J H1 => ∃ W : Nat → Nat → St → Hp → Prop, (∃ m, W 0 m σ H1) ∧ ∀ i m σ H, W i m σ H →
  (J.stop i H ∧ D.nx σ H) ∨ (J.go i H ∧ ∃ N : St → Hp → Prop, (∀ σ' H', N σ' H' → ∃ m', m' < m ∧ W (i + 1) m' σ' H') ∧ ∀ x H', J.yld i H x H' → g x σ H' fun σ2 H2 => tb { D with nx := N, ct := N, bk := D.nx } σ2 H2)
/-- the records at fp as they stand -/
noncomputable def pinsAt (fp : List Addr) (h : Heap) : List (Addr × Obj) := fp.filterMap fun b => (h.get? b).map fun o => (b, o)
theorem mem_pinsAt {fp : List Addr} {h : Heap} {b : Addr} {o : Obj} (hb : b ∈ fp) (e : h.get? b = some o) : (b, o) ∈ pinsAt fp h := List.mem_filterMap.mpr ⟨b, hb, by rw [e]; rfl⟩
theorem of_pinsAt {fp : List Addr} {h : Heap} {p : Addr × Obj} (hp : p ∈ pinsAt fp h) : p.1 ∈ fp ∧ h.get? p.1 = some p.2 := by
  obtain ⟨b, hb, e⟩ := List.mem_filterMap.mp hp
  cases q : h.get? b with
  | none => rw [q] at e; cases e
  | some o =>
    rw [q] at e
    have e' : (b, o) = p := Option.some.inj e
    subst e'
    exact ⟨hb, q⟩
theorem Inv.pinned {pins : List (Addr × Obj)} {σ : St} {H : Hp} {s : Shared} {fp : List Addr} (I : Inv X pins σ H s) (hf : ∀ b ∈ fp, FpOk X pins H b) (ho : ∀ b ∈ fp, ∃ o, s.heap.get? b = some o ∧ ∀ v, o.data ≠ .cell v) : Inv X (pins ++ pinsAt fp s.heap) σ H s :=
  I.pins_of fun p hp => (List.mem_append.mp hp).elim (fun z => I.pin p (List.mem_append_right _ z)) fun z => by
    obtain ⟨hb, e⟩ := of_pinsAt z
    obtain ⟨f0, f1, f2, _⟩ := hf p.1 hb
    obtain ⟨o, e', d⟩ := ho p.1 hb
    rw [e] at e'; cases e'
    exact ⟨e, f0, f1, f2, d⟩
theorem Inv.unpinned {pins pl : List (Addr × Obj)} {σ : St} {H : Hp} {s : Shared} (I : Inv X (pins ++ pl) σ H s) : Inv X pins σ H s := I.pins_of fun p hp => I.pin p (List.mem_append_right _ (List.mem_append_left _ hp))
theorem ps_for {iter : Expr} {body : List Stmt} {wi : TI} {g : TG} {tb : TS} {pos : Pos} (hp : PassesOwn (model X.prog X.w) X.A X.env X.xe) (hc : X.calm = true) (hi : PI X tg iter wi) (hg : PG X tg g) (hb : PSs X body tb)
    (hs : ∀ x, foldedSetIterable iter X.env x = pure x := by intro _; rfl) : PS X (.For tg iter body [] pos) (tFor wi g tb) := by
  intro pins s σ H D I h
  refine wpAny_For (thn (hi pins s σ H _ I h) fun v s1 h1 => thn h1 fun itv s2 h2 => ?_) hs
  obtain ⟨it, fp, tn, J, H2, e, I2, T, st2, f2, W, ⟨m0, w0⟩, turn⟩ := h2
  subst e
  -- what stays true of the iterator's objects through the loop
  have stat : ∀ {H' : Hp}, (∀ b ∈ fp, H' b = none) → ∀ b ∈ fp, FpOk X pins H' b := fun hn b hb => ⟨hn b hb, (f2 b hb).2⟩
  refine codeAny_forLoop_any (fun n s' => ∃ i σ' H', Inv X pins σ' H' s' ∧ tn i s'.heap ∧ (∀ b ∈ fp, H' b = none) ∧ W i n σ' H') ?_ m0 ⟨0, σ, H2, I2, st2, fun b hb => (f2 b hb).1, w0⟩
  rintro n s3 ⟨i, σ3, H3, I3, st3, fr3, w3⟩
  rcases turn i n σ3 H3 w3 with ⟨stop, qn⟩ | ⟨go, N, hN, step⟩
  · refine wpAny_passesOwn hp (thn (T.done X rfl rfl rfl hc i pins s3 σ3 H3 X.xe I3 (stat fr3) st3 stop) fun r s4 ⟨hr, I4⟩ => ?_)
    subst hr
    exact wpAny_execs_nil ⟨σ3, H3, I4, qn⟩
  · refine wpAny_passesOwn hp (thn (T.item X rfl rfl rfl hc i pins s3 σ3 H3 X.xe I3 (stat fr3) st3 go) fun r s4 ⟨u, hr, h4⟩ => ?_)
    subst hr
    refine wpAny_passesOwn hp (thn h4 fun _ s5 ⟨x, H5, I5, r5, y5, st5, fr5⟩ => ?_)
    have I5' := I5.pinned (stat fr5) (T.obj _ _ st5)
    refine wpAny_passesOwn hp (thn (hg _ s5 σ3 H5 x u _ I5' r5 (step x H5 y5)) fun _ s6 ⟨σ6, H6, I6, q6⟩ => ?_)
    refine wpAny_passesOwn hp (thn (hb _ s6 σ6 H6 _ I6 q6) fun f s7 q7 => ?_)
    have again : ∀ {σ7 : St} {H7 : Hp}, Inv X (pins ++ pinsAt fp s5.heap) σ7 H7 s7 → N σ7 H7 → ∃ m, m < n ∧ ∃ i σ' H', Inv X pins σ' H' s7 ∧ tn i s7.heap ∧ (∀ b ∈ fp, H' b = none) ∧ W i m σ' H' := fun {σ7 H7} I7 n7 => by
      obtain ⟨m', hm, w7⟩ := hN σ7 H7 n7
      refine ⟨m', hm, i + 1, σ7, H7, I7.unpinned, T.keep _ _ _ st5 fun b hb o e => (I7.pin (b, o) (List.mem_append_right _ (List.mem_append_right _ (mem_pinsAt hb e)))).1, fun b hb => ?_, w7⟩
      obtain ⟨o, e, d⟩ := T.obj _ _ st5 b hb
      exact (I7.pin (b, o) (List.mem_append_right _ (List.mem_append_right _ (mem_pinsAt hb e)))).2.1
    cases f with
    | next => obtain ⟨σ7, H7, I7, n7⟩ := q7; exact again I7 n7
    | cont => obtain ⟨σ7, H7, I7, n7⟩ := q7; exact again I7 n7
    | brk => obtain ⟨σ7, H7, I7, q7⟩ := q7; exact ⟨σ7, H7, I7.unpinned, q7⟩
    | ret v => obtain ⟨x7, σ7, H7, I7, r7, q7⟩ := q7; exact ⟨x7, σ7, H7, I7.unpinned, r7, q7⟩
end

/-! ### the forms one uses -/
/-- over a list that the body leaves as it is -/
theorem for_list {K : PySem.W.Frag} {a : Addr} {xs : List V} {g : TG} {tb : TS} {D : Ends} {σ : St} {H : Hp} (Pv : Nat → St → Hp → Prop) (h0 : Pv 0 σ H) (hl : ∀ i σ H, i ≤ xs.length → Pv i σ H → SqL K H a xs)
    (hs : ∀ i x σ H, xs[i]? = some x → Pv i σ H → g x σ H fun σ2 H2 => tb { D with nx := Pv (i + 1), ct := Pv (i + 1), bk := D.nx } σ2 H2) (hd : ∀ σ H, Pv xs.length σ H → D.nx σ H) :
    ∃ W : Nat → Nat → St → Hp → Prop, (∃ m, W 0 m σ H) ∧ ∀ i m σ H, W i m σ H →
      ((Itl K a).stop i H ∧ D.nx σ H) ∨ ((Itl K a).go i H ∧ ∃ N : St → Hp → Prop, (∀ σ' H', N σ' H' → ∃ m', m' < m ∧ W (i + 1) m' σ' H') ∧ ∀ x H', (Itl K a).yld i H x H' → g x σ H' fun σ2 H2 => tb { D with nx := N, ct := N, bk := D.nx } σ2 H2) := by
  refine ⟨fun i m σ H => m = xs.length - i ∧ i ≤ xs.length ∧ Pv i σ H, ⟨xs.length, by simp, Nat.zero_le _, h0⟩, ?_⟩
  rintro i m σ H ⟨rfl, hi, p⟩
  have q := hl i σ H hi p
  by_cases hlt : i < xs.length
  · refine .inr ⟨⟨xs, xs[i], q, by simp [hlt]⟩, Pv (i + 1), fun σ' H' p' => ⟨xs.length - (i + 1), by omega, rfl, hlt, p'⟩, fun x H' y => ?_⟩
    obtain ⟨e, y⟩ := y
    subst e
    exact hs i x σ _ (y xs q) p
  · have e : i = xs.length := by omega
    subst e
    exact .inl ⟨⟨xs, q, Nat.le_refl _⟩, hd σ H p⟩
theorem for_tup {K : PySem.W.Frag} {a : Addr} {xs : List V} {g : TG} {tb : TS} {D : Ends} {σ : St} {H : Hp} (Pv : Nat → St → Hp → Prop) (h0 : Pv 0 σ H) (hl : ∀ i σ H, i ≤ xs.length → Pv i σ H → SqT K H a xs)
    (hs : ∀ i x σ H, xs[i]? = some x → Pv i σ H → g x σ H fun σ2 H2 => tb { D with nx := Pv (i + 1), ct := Pv (i + 1), bk := D.nx } σ2 H2) (hd : ∀ σ H, Pv xs.length σ H → D.nx σ H) :
    ∃ W : Nat → Nat → St → Hp → Prop, (∃ m, W 0 m σ H) ∧ ∀ i m σ H, W i m σ H →
      ((Itt K a).stop i H ∧ D.nx σ H) ∨ ((Itt K a).go i H ∧ ∃ N : St → Hp → Prop, (∀ σ' H', N σ' H' → ∃ m', m' < m ∧ W (i + 1) m' σ' H') ∧ ∀ x H', (Itt K a).yld i H x H' → g x σ H' fun σ2 H2 => tb { D with nx := N, ct := N, bk := D.nx } σ2 H2) := by
  refine ⟨fun i m σ H => m = xs.length - i ∧ i ≤ xs.length ∧ Pv i σ H, ⟨xs.length, by simp, Nat.zero_le _, h0⟩, ?_⟩
  rintro i m σ H ⟨rfl, hi, p⟩
  have q := hl i σ H hi p
  by_cases hlt : i < xs.length
  · refine .inr ⟨⟨xs, xs[i], q, by simp [hlt]⟩, Pv (i + 1), fun σ' H' p' => ⟨xs.length - (i + 1), by omega, rfl, hlt, p'⟩, fun x H' y => ?_⟩
    obtain ⟨e, y⟩ := y
    subst e
    exact hs i x σ _ (y xs q) p
  · have e : i = xs.length := by omega
    subst e
    exact .inl ⟨⟨xs, q, Nat.le_refl _⟩, hd σ H p⟩
theorem for_range {lo : Int} {n : Nat} {g : TG} {tb : TS} {D : Ends} {σ : St} {H : Hp} (Pv : Nat → St → Hp → Prop) (h0 : Pv 0 σ H)
    (hs : ∀ i σ H, i < n → Pv i σ H → g (.int (lo + i)) σ H fun σ2 H2 => tb { D with nx := Pv (i + 1), ct := Pv (i + 1), bk := D.nx } σ2 H2) (hd : ∀ σ H, Pv n σ H → D.nx σ H) :
    ∃ W : Nat → Nat → St → Hp → Prop, (∃ m, W 0 m σ H) ∧ ∀ i m σ H, W i m σ H →
      ((Itr lo n).stop i H ∧ D.nx σ H) ∨ ((Itr lo n).go i H ∧ ∃ N : St → Hp → Prop, (∀ σ' H', N σ' H' → ∃ m', m' < m ∧ W (i + 1) m' σ' H') ∧ ∀ x H', (Itr lo n).yld i H x H' → g x σ H' fun σ2 H2 => tb { D with nx := N, ct := N, bk := D.nx } σ2 H2) := by
  refine ⟨fun i m σ H => m = n - i ∧ i ≤ n ∧ Pv i σ H, ⟨n, by simp, Nat.zero_le _, h0⟩, ?_⟩
  rintro i m σ H ⟨rfl, hi, p⟩
  by_cases hlt : i < n
  · refine .inr ⟨hlt, Pv (i + 1), fun σ' H' p' => ⟨n - (i + 1), by omega, rfl, hlt, p'⟩, fun x H' y => ?_⟩
    obtain ⟨e, y⟩ := y
    subst e y
    exact hs i σ _ hlt p
  · have e : i = n := by omega
    subst e
    exact .inl ⟨Nat.le_refl _, hd σ H p⟩
end L2

namespace L2
open PySem PySem.Spec PyProof.Rows

noncomputable abbrev R2 := V → V → Hp → VK → Prop
/-- a two-place operation on values: f is binaryOp op, inplaceOp op or compareOp op -/
noncomputable def OpR (X : Cx) (f : Value → Value → Sem Value) (r : R2) : Prop :=
  ∀ (pins : List (Addr × Obj)) (s : Shared) (σ : St) (H : Hp) (x y : V) (v u : Value) (Q : VK), Inv X pins σ H s → RelV x v → RelV y u → r x y H Q →
    wpAny (model X.prog X.w) X.A (f v u) (EP X pins σ Q) X.xe s
/-- a call of a value that is known (a builtin, a type) with values -/
noncomputable def CallR (X : Cx) (f : Value) (r : List V → Hp → VK → Prop) : Prop :=
  ∀ (pins : List (Addr × Obj)) (s : Shared) (σ : St) (H : Hp) (xs : List V) (us : List Value) (Q : VK), Inv X pins σ H s → Vals xs us → r xs H Q →
    wpAny (model X.prog X.w) X.A (call f us) (EP X pins σ Q) X.xe s

noncomputable def tOp (r : R2) (ta tb : TE) : TE := fun σ H Q => ta σ H fun x H1 => tb σ H1 fun y H2 => r x y H2 Q
/-- ints in, under C, and a value out -/
noncomputable def rI (C : Int → Int → Prop) (g : Int → Int → V) : R2 := fun x y H Q => ∃ i j, x = .int i ∧ y = .int j ∧ C i j ∧ Q (g i j) H
noncomputable def rI0 (g : Int → Int → V) : R2 := fun x y H Q => ∃ i j, x = .int i ∧ y = .int j ∧ Q (g i j) H

section
variable {X : Cx} {a b c : Expr} {ta tb tc : TE} {pos : Pos}

theorem binT (ha : PE X a ta) (hb : PE X b tb) {pins : List (Addr × Obj)} {s : Shared} {σ : St} {H : Hp} {R : V → V → Hp → Prop} (I : Inv X pins σ H s)
    (h : ta σ H fun x H1 => tb σ H1 fun y H2 => R x y H2) {Q : Value → Shared → Prop} {f : Value → Value → Sem Value}
    (hf : ∀ v u s2 x y H2, Inv X pins σ H2 s2 → RelV x v → RelV y u → R x y H2 → wpAny (model X.prog X.w) X.A (f v u) Q X.xe s2) :
    wpAny (model X.prog X.w) X.A (eval a X.env) (fun v s₁ => wpAny (model X.prog X.w) X.A (eval b X.env) (fun u s₂ => wpAny (model X.prog X.w) X.A (f v u) Q X.xe s₂) X.xe s₁) X.xe s := by
  refine thn (ha pins s σ H _ I h) fun v s1 ⟨x, H1, I1, r1, q1⟩ => ?_
  refine thn (hb pins s1 σ H1 _ I1 q1) fun u s2 ⟨y, H2, I2, r2, q2⟩ => ?_
  exact hf v u s2 x y H2 I2 r1 r2 q2

theorem pe_op {op : Operator} {r : R2} (ho : OpR X (binaryOp op) r) (ha : PE X a ta) (hb : PE X b tb) : PE X (.BinOp a op b pos) (tOp r ta tb) := by
  intro pins s σ H Q I h
  exact wpAny_BinOp (binT ha hb I h fun v u s2 x y H2 I2 rx ry q => ho pins s2 σ H2 x y v u Q I2 rx ry q)

/-! ### ints -/
theorem opI {f : Value → Value → Sem Value} {C : Int → Int → Prop} {g : Int → Int → Int}
    (rule : ∀ (i j : Int) (t u : Tok) (s : Shared) (Q : Value → Shared → Prop) (E : Value → Shared → Prop), C i j → Q (.int (g i j) s.toks) { s with toks := s.toks + 1 } → wpAny (model X.prog X.w) X.A (f (.int i t) (.int j u)) Q E s) :
    OpR X f (rI C fun i j => .int (g i j)) := by
  intro pins s σ H x y v u Q I rx ry h
  obtain ⟨i, j, rfl, rfl, hc, q⟩ := h
  obtain ⟨t, rfl⟩ := rx
  obtain ⟨t', rfl⟩ := ry
  exact rule i j t t' s _ _ hc ⟨.int (g i j), H, I.tok _, ⟨_, rfl⟩, q⟩
theorem opI0 {f : Value → Value → Sem Value} {g : Int → Int → Int}
    (rule : ∀ (i j : Int) (t u : Tok) (s : Shared) (Q : Value → Shared → Prop) (E : Value → Shared → Prop), Q (.int (g i j) s.toks) { s with toks := s.toks + 1 } → wpAny (model X.prog X.w) X.A (f (.int i t) (.int j u)) Q E s) :
    OpR X f (rI0 fun i j => .int (g i j)) := by
  intro pins s σ H x y v u Q I rx ry h
  obtain ⟨i, j, rfl, rfl, q⟩ := h
  obtain ⟨t, rfl⟩ := rx
  obtain ⟨t', rfl⟩ := ry
  exact rule i j t t' s _ _ ⟨.int (g i j), H, I.tok _, ⟨_, rfl⟩, q⟩
theorem opB0 {f : Value → Value → Sem Value} {g : Int → Int → Bool}
    (rule : ∀ (i j : Int) (t u : Tok) (s : Shared) (Q : Value → Shared → Prop) (E : Value → Shared → Prop), Q (.bool (g i j)) s → wpAny (model X.prog X.w) X.A (f (.int i t) (.int j u)) Q E s) :
    OpR X f (rI0 fun i j => .bl (g i j)) := by
  intro pins s σ H x y v u Q I rx ry h
  obtain ⟨i, j, rfl, rfl, q⟩ := h
  obtain ⟨t, rfl⟩ := rx
  obtain ⟨t', rfl⟩ := ry
  exact rule i j t t' s _ _ ⟨.bl (g i j), H, I, rfl, q⟩

noncomputable def CDiv (i j : Int) : Prop := 0 < j ∧ j < 1073741824
noncomputable def CMul (i j : Int) : Prop := (-(2 ^ 64) < i ∧ i < 2 ^ 64) ∨ (-(2 ^ 64) < j ∧ j < 2 ^ 64)
theorem CMul.ok {i j : Int} (h : CMul i j) : IntMulOk i j := by
  rcases h with ⟨h1, h2⟩ | ⟨h1, h2⟩
  · exact .of_left (intBits_le_64 h1 h2)
  · exact .of_right (intBits_le_64 h1 h2)

theorem op_add : OpR X (binaryOp .Add) (rI0 fun i j => .int (i + j)) := opI0 fun _ _ _ _ _ _ _ q => add_int q
theorem op_sub : OpR X (binaryOp .Sub) (rI0 fun i j => .int (i - j)) := opI0 fun _ _ _ _ _ _ _ q => sub_int q
theorem op_mul : OpR X (binaryOp .Mult) (rI CMul fun i j => .int (i * j)) := opI fun _ _ _ _ _ _ _ hc q => mul_int q hc.ok
/-- // by a positive divisor -/
theorem op_fdiv : OpR X (binaryOp .FloorDiv) (rI CDiv fun i j => .int (i / j)) := opI fun i j _ _ _ _ _ hc q => by
  have h1 : (0 : Int) < j := hc.1
  have h2 : j < 1073741824 := hc.2
  exact floordiv_int (by omega) (by rw [Int.fdiv_eq_ediv_of_nonneg i (by omega)]; exact q) (.inl (PyProof.noPylong_small (by omega)))
/-- % by a positive divisor of any size -/
theorem op_mod : OpR X (binaryOp .Mod) (rI (fun _ j => 0 < j) fun i j => .int (i % j)) := opI fun i j _ _ _ _ _ hc q => by
  have h1 : (0 : Int) < j := hc
  exact mod_int' (by omega) (by rw [Int.fmod_eq_emod_of_nonneg i (by omega)]; exact q)



/-! ### bools among ints: n += (a < b) -/
end

/-! ### comparisons -/
/-- the scalars that == tells apart as data does -/
noncomputable def scal : V → V → Bool
  | .non, .non => true | .non, .int _ => true | .int _, .non => true | .non, .bl _ => true | .bl _, .non => true | .non, .str _ => true | .str _, .non => true
  | .int _, .int _ => true | .bl _, .bl _ => true | .str _, .str _ => true | .byt _, .byt _ => true
  | .int _, .str _ => true | .str _, .int _ => true | .bl _, .str _ => true | .str _, .bl _ => true
  | _, _ => false
noncomputable def rEq : R2 := fun x y H Q => scal x y = true ∧ Q (.bl (decide (x = y))) H
noncomputable def rNe : R2 := fun x y H Q => scal x y = true ∧ Q (.bl (!decide (x = y))) H

theorem dec_int {i j : Int} : decide (V.int i = V.int j) = (i == j) := by
  rw [Bool.eq_iff_iff]
  simp
theorem dec_bl {i j : Bool} : decide (V.bl i = V.bl j) = (i == j) := by
  rw [Bool.eq_iff_iff]
  simp
theorem dec_str {i j : Str} : decide (V.str i = V.str j) = (i == j) := by
  rw [Bool.eq_iff_iff]
  simp
theorem dec_byt {i j : Array UInt8} : decide (V.byt i = V.byt j) = (i.toList == j.toList) := by
  rw [Bool.eq_iff_iff]
  cases i
  cases j
  simp

section
variable {X : Cx} {a b c : Expr} {ta tb tc : TE} {pos : Pos}
theorem fin_bl {pins : List (Addr × Obj)} {σ : St} {H : Hp} {s : Shared} {Q : VK} {k k' : Bool} (I : Inv X pins σ H s) (q : Q (.bl k) H) (e : k = k') : EP X pins σ Q (.bool k') s := by
  subst e
  exact ⟨.bl k, H, I, rfl, q⟩
theorem op_eq : OpR X (compareOp .Eq) rEq := by
  intro pins s σ H x y v u Q I rx ry h
  obtain ⟨hs, q⟩ := h
  cases x with
  | non =>
    cases rx
    cases y with
    | non => cases ry; exact PySem.EqNone.eq_none_none (fin_bl I q (by simp))
    | bl j => cases ry; exact PySem.EqNone.eq_none_bool (fin_bl I q (by simp))
    | int j => obtain ⟨t', rfl⟩ := ry; exact PySem.EqNone.eq_none_int (fin_bl I q (by simp))
    | str j => obtain ⟨t', rfl⟩ := ry; exact PySem.EqNone.eq_none_str (fin_bl I q (by simp))
    | _ => exact absurd (show false = true from hs) Bool.false_ne_true
  | bl i =>
    cases rx
    cases y with
    | non => cases ry; exact PySem.EqNone.eq_bool_none (fin_bl I q (by simp))
    | bl j => cases ry; exact eq_bool (fin_bl I q dec_bl)
    | str j => obtain ⟨t', rfl⟩ := ry; exact PySem.EqMixed.eq_bool_str (fin_bl I q (by simp))
    | _ => exact absurd (show false = true from hs) Bool.false_ne_true
  | int i =>
    obtain ⟨t, rfl⟩ := rx
    cases y with
    | non => cases ry; exact PySem.EqNone.eq_int_none (fin_bl I q (by simp))
    | int j => obtain ⟨t', rfl⟩ := ry; exact eq_int (fin_bl I q dec_int)
    | str j => obtain ⟨t', rfl⟩ := ry; exact PySem.EqMixed.eq_int_str (fin_bl I q (by simp))
    | _ => exact absurd (show false = true from hs) Bool.false_ne_true
  | str i =>
    obtain ⟨t, rfl⟩ := rx
    cases y with
    | non => cases ry; exact PySem.EqNone.eq_str_none (fin_bl I q (by simp))
    | bl j => cases ry; exact PySem.EqMixed.eq_str_bool (fin_bl I q (by simp))
    | int j => obtain ⟨t', rfl⟩ := ry; exact PySem.EqMixed.eq_str_int (fin_bl I q (by simp))
    | str j => obtain ⟨t', rfl⟩ := ry; exact eq_str (fin_bl I q dec_str)
    | _ => exact absurd (show false = true from hs) Bool.false_ne_true
  | byt i =>
    obtain ⟨t, rfl⟩ := rx
    cases y with
    | byt j => obtain ⟨t', rfl⟩ := ry; exact PySem.W.eq_bytes (fin_bl I q dec_byt)
    | _ => exact absurd (show false = true from hs) Bool.false_ne_true
  | _ => cases y <;> exact absurd (show false = true from hs) Bool.false_ne_true
theorem op_ne : OpR X (compareOp .NotEq) rNe := by
  intro pins s σ H x y v u Q I rx ry h
  obtain ⟨hs, q⟩ := h
  cases x with
  | non =>
    cases rx
    cases y with
    | non => cases ry; exact PySem.EqNone.ne_none_none (fin_bl I q (by simp))
    | bl j => cases ry; exact PySem.EqNone.ne_none_bool (fin_bl I q (by simp))
    | int j => obtain ⟨t', rfl⟩ := ry; exact PySem.EqNone.ne_none_int (fin_bl I q (by simp))
    | str j => obtain ⟨t', rfl⟩ := ry; exact PySem.EqNone.ne_none_str (fin_bl I q (by simp))
    | _ => exact absurd (show false = true from hs) Bool.false_ne_true
  | bl i =>
    cases rx
    cases y with
    | non => cases ry; exact PySem.EqNone.ne_bool_none (fin_bl I q (by simp))
    | bl j => cases ry; exact ne_bool (fin_bl I q (congrArg not dec_bl))
    | str j => obtain ⟨t', rfl⟩ := ry; exact PySem.EqMixed.ne_bool_str (fin_bl I q (by simp))
    | _ => exact absurd (show false = true from hs) Bool.false_ne_true
  | int i =>
    obtain ⟨t, rfl⟩ := rx
    cases y with
    | non => cases ry; exact PySem.EqNone.ne_int_none (fin_bl I q (by simp))
    | int j => obtain ⟨t', rfl⟩ := ry; exact ne_int (fin_bl I q (congrArg not dec_int))
    | str j => obtain ⟨t', rfl⟩ := ry; exact PySem.EqMixed.ne_int_str (fin_bl I q (by simp))
    | _ => exact absurd (show false = true from hs) Bool.false_ne_true
  | str i =>
    obtain ⟨t, rfl⟩ := rx
    cases y with
    | non => cases ry; exact PySem.EqNone.ne_str_none (fin_bl I q (by simp))
    | bl j => cases ry; exact PySem.EqMixed.ne_str_bool (fin_bl I q (by simp))
    | int j => obtain ⟨t', rfl⟩ := ry; exact PySem.EqMixed.ne_str_int (fin_bl I q (by simp))
    | str j => obtain ⟨t', rfl⟩ := ry; exact ne_str (fin_bl I q (congrArg not dec_str))
    | _ => exact absurd (show false = true from hs) Bool.false_ne_true
  | byt i =>
    obtain ⟨t, rfl⟩ := rx
    cases y with
    | byt j => obtain ⟨t', rfl⟩ := ry; exact PySem.W.ne_bytes (fin_bl I q (congrArg not dec_byt))
    | _ => exact absurd (show false = true from hs) Bool.false_ne_true
  | _ => cases y <;> exact absurd (show false = true from hs) Bool.false_ne_true

theorem op_lt : OpR X (compareOp .Lt) (rI0 fun i j => .bl (decide (i < j))) := opB0 fun _ _ _ _ _ _ _ q => lt_int q
theorem op_le : OpR X (compareOp .LtE) (rI0 fun i j => .bl (decide (i ≤ j))) := opB0 fun _ _ _ _ _ _ _ q => le_int q
theorem op_gt : OpR X (compareOp .Gt) (rI0 fun i j => .bl (decide (j < i))) := opB0 fun _ _ _ _ _ _ _ q => gt_int q
/-- the one string within the other -/
theorem op_in_str : OpR X (compareOp .In) (fun x y H Q => ∃ i j, x = .str i ∧ y = .str j ∧ Q (.bl (!(Builtin.Str.occurrences j i 0 j.length 1).isEmpty)) H) := by
  intro pins s σ H x y v u Q I rx ry h
  obtain ⟨i, j, rfl, rfl, q⟩ := h
  obtain ⟨t, rfl⟩ := rx
  obtain ⟨t', rfl⟩ := ry
  exact in_str (fin_bl I q rfl)


theorem op_notin_str : OpR X (compareOp .NotIn) (fun x y H Q => ∃ i j, x = .str i ∧ y = .str j ∧ Q (.bl (!(!(Builtin.Str.occurrences j i 0 j.length 1).isEmpty))) H) := by
  intro pins s σ H x y v u Q I rx ry h
  obtain ⟨i, j, rfl, rfl, q⟩ := h
  obtain ⟨t, rfl⟩ := rx
  obtain ⟨t', rfl⟩ := ry
  exact notIn_str (fin_bl I q rfl)

/-- two rules for one operation: by cases -/
theorem OpR.or {f : Value → Value → Sem Value} {r r' : R2} (h : OpR X f r) (h' : OpR X f r') : OpR X f (fun x y H Q => r x y H Q ∨ r' x y H Q) := by
  intro pins s σ H x y v u Q I rx ry q
  rcases q with q | q
  · exact h pins s σ H x y v u Q I rx ry q
  · exact h' pins s σ H x y v u Q I rx ry q

theorem nomark (b : Expr) {op : CmpOp} (h : op ≠ .In := by decide) (h2 : op ≠ .NotIn := by decide) : behindInMarks op b = false := by
  have e1 : (op == CmpOp.In) = false := by cases op <;> first | rfl | exact absurd rfl h
  have e2 : (op == CmpOp.NotIn) = false := by cases op <;> first | rfl | exact absurd rfl h2
  cases b <;> simp [behindInMarks, e1, e2]
/-- a comparison as a value; hm: nomark b, or (for in, not in) by with_unfolding_all rfl -/
theorem pe_cmpR {op : CmpOp} {r : R2} (ho : OpR X (compareOp op) r) (ha : PE X a ta) (hb : PE X b tb) (hm : behindInMarks op b = false) : PE X (.Compare a [op] [b] pos) (tOp r ta tb) := by
  intro pins s σ H Q I h
  exact wpAny_Compare1 (binT ha hb I h fun v u s2 x y H2 I2 rx ry q => ho pins s2 σ H2 x y v u Q I2 rx ry q) hm
/-- a reading of a value as a test -/
noncomputable def tTest (t : TE) : TT := fun σ H Q => t σ H fun x H' => ∃ k, x = .bl k ∧ Q k H'
theorem pt_cmpR {op : CmpOp} {r : R2} (ho : OpR X (compareOp op) r) (ha : PE X a ta) (hb : PE X b tb) (hm : behindInMarks op b = false) : PT X (.Compare a [op] [b] pos) (tTest (tOp r ta tb)) := by
  intro pins s σ H Q I h
  refine wpAny_isTrue_Compare1 (thn (ha pins s σ H _ I h) fun v s1 ⟨x, H1, I1, r1, q1⟩ => thn (hb pins s1 σ H1 _ I1 q1) fun u s2 ⟨y, H2, I2, r2, q2⟩ =>
    thn (ho pins s2 σ H2 x y v u _ I2 r1 r2 q2) fun c s3 ⟨z, H3, I3, r3, k, e, q3⟩ => ?_) hm
  subst e
  cases r3
  exact wpAny_truthy_bool ⟨H3, I3, q3⟩
/-- a op1 b op2 c -/
noncomputable def tChain (r r' : R2) (ta tb tc : TE) : TE := fun σ H Q => ta σ H fun x H1 => tb σ H1 fun y H2 => r x y H2 fun z H3 => ∃ k, z = .bl k ∧
  (if k = true then tc σ H3 fun w' H4 => r' y w' H4 Q else Q (.bl false) H3)
theorem pe_chain {op op' : CmpOp} {r r' : R2} (ho : OpR X (compareOp op) r) (ho' : OpR X (compareOp op') r') (ha : PE X a ta) (hb : PE X b tb) (hc : PE X c tc)
    (hm : lastMarks [op, op'] [b, c] = false := by with_unfolding_all rfl) : PE X (.Compare a [op, op'] [b, c] pos) (tChain r r' ta tb tc) := by
  intro pins s σ H Q I h
  refine Compare_chain (thn (ha pins s σ H _ I h) fun v s1 ⟨x, H1, I1, r1, q1⟩ => chain_link (thn (hb pins s1 σ H1 _ I1 q1) fun u s2 ⟨y, H2, I2, r2, q2⟩ =>
    thn (ho pins s2 σ H2 x y v u _ I2 r1 r2 q2) fun d s3 ⟨z, H3, I3, r3, k, e, q3⟩ => ?_)) hm
  subst e
  cases r3
  refine wpAny_truthy_bool ?_
  cases k with
  | false => exact ite_ff ⟨.bl false, H3, I3, rfl, q3⟩
  | true => exact ite_tt (chain_last (thn (hc pins s3 σ H3 _ I3 q3) fun w' s4 ⟨z', H4, I4, r4, q4⟩ => ho' pins s4 σ H4 y z' u w' Q I4 r2 r4 q4))
theorem pt_chain {op op' : CmpOp} {r r' : R2} (ho : OpR X (compareOp op) r) (ho' : OpR X (compareOp op') r') (ha : PE X a ta) (hb : PE X b tb) (hc : PE X c tc)
    (hm : lastMarks [op, op'] [b, c] = false := by with_unfolding_all rfl) : PT X (.Compare a [op, op'] [b, c] pos) (tTest (tChain r r' ta tb tc)) := by
  intro pins s σ H Q I h
  refine isTrue_chain (thn (ha pins s σ H _ I h) fun v s1 ⟨x, H1, I1, r1, q1⟩ => test_link (thn (hb pins s1 σ H1 _ I1 q1) fun u s2 ⟨y, H2, I2, r2, q2⟩ =>
    thn (ho pins s2 σ H2 x y v u _ I2 r1 r2 q2) fun d s3 ⟨z, H3, I3, r3, k, e, q3⟩ => ?_)) hm
  subst e
  cases r3
  refine wpAny_truthy_bool ?_
  cases k with
  | false =>
    obtain ⟨k', e', q'⟩ := q3
    cases e'
    exact ite_ff ⟨H3, I3, q'⟩
  | true =>
    refine ite_tt (test_last (thn (hc pins s3 σ H3 _ I3 q3) fun w' s4 ⟨z', H4, I4, r4, q4⟩ => thn (ho' pins s4 σ H4 y z' u w' _ I4 r2 r4 q4) fun d' s5 ⟨z2, H5, I5, r5, k2, e2, q5⟩ => ?_))
    subst e2
    cases r5
    exact wpAny_truthy_bool ⟨H5, I5, q5⟩

/-! ### truth -/
theorem line63 : (sizeLine : Nat) < 2 ^ 63 := by rw [sizeLine_eq]; decide

/-! ### strs and bytes -/
theorem op_add_str : OpR X (binaryOp .Add) (fun x y H Q => ∃ i j, x = .str i ∧ y = .str j ∧ i.length + j.length ≤ sizeLine ∧ Q (.str (i ++ j)) H) := by
  intro pins s σ H x y v u Q I rx ry h
  obtain ⟨i, j, rfl, rfl, hz, q⟩ := h
  obtain ⟨t, rfl⟩ := rx
  obtain ⟨t', rfl⟩ := ry
  exact add_str (fun t' tk => ⟨.str (i ++ j), H, I.tok _, ⟨_, rfl⟩, q⟩) hz


/-! ### scalar builtins, by CallR -/
theorem vals1 {x : V} {us : List Value} (r : Vals [x] us) : ∃ u, us = [u] ∧ RelV x u := by
  cases r with
  | cons r1 r2 => cases r2; exact ⟨_, rfl, r1⟩
theorem vals2 {x y : V} {us : List Value} (r : Vals [x, y] us) : ∃ u w', us = [u, w'] ∧ RelV x u ∧ RelV y w' := by
  cases r with
  | cons r1 r2 =>
    cases r2 with
    | cons r3 r4 => cases r4; exact ⟨_, _, rfl, r1, r3⟩
theorem call_int1 : CallR X (.type "int") (fun xs H Q => (∃ i, xs = [.int i] ∧ Q (.int i) H) ∨ ∃ k, xs = [.bl k] ∧ Q (.int (if k then 1 else 0)) H) := by
  intro pins s σ H xs us Q I r h
  rcases h with ⟨i, rfl, q⟩ | ⟨k, rfl, q⟩
  · obtain ⟨u, rfl, t, rfl⟩ := vals1 r
    exact call_int_int ⟨.int i, H, I, ⟨_, rfl⟩, q⟩
  · obtain ⟨u, rfl, r1⟩ := vals1 r
    cases r1
    exact call_int_bool ⟨.int (if k then 1 else 0), H, I.tok _, ⟨_, rfl⟩, q⟩
end
end L2

namespace L2
open PySem PySem.Spec PyProof.Rows

/-! ### an instance, its attributes a map -/
structure ObjM (h : Heap) (x dx C : Addr) (mA : Str → Option Value) : Prop where
  obj : h.get? x = some (PySem.W.instObj C dx)
  ns : h.Ns1 dx mA
  ne : dx ≠ x



section
variable {prog : Program} {w : World} {A : Around} {E : Value → Shared → Prop} {s : Shared} {K : PySem.W.Frag} {x dx C f : Addr} {mA : Str → Option Value} {name : Str} {v : Value}





end

/-! ### the attributes as a list of pairs -/


section
variable {P : Program} {w : World} {H H' : Hp} {h h' : Heap} {a C dx : Addr} {fs fs' : List (Str × V)}
end

/-! ### what of the text a class must have -/
structure Cls (K : PySem.W.Frag) (C : Addr) : Prop where
  pg : PySem.W.plainGet K C Str.empty = true
  hd : PySem.W.hasDictIn K C = true
  po : PySem.W.plainOver K C = true
  sa : PySem.W.findIn K (.ref C) "__setattr__" = some (some (.builtin "object.__setattr__"))
theorem Cls.get {K : PySem.W.Frag} {C : Addr} (c : Cls K C) (f : Str) : PySem.W.plainGet K C f = true := c.pg
/-- a constant of the class -/
structure Con (K : PySem.W.Frag) (C : Addr) (f : Str) (v : V) (u : Value) : Prop where
  at_ : PySem.W.findIn K (.ref C) f = some (some u)
  rel : RelV v u
  get : PySem.W.specialIn K u "__get__" = some none
  cp : PySem.W.copiedNames.contains f = false
/-- a method: a plain def of the class or of one above it -/
structure Meth (K : PySem.W.Frag) (C : Addr) (m : Str) (f : Addr) : Prop where
  at_ : PySem.W.findIn K (.ref C) m = some (some (.ref f))
  fn : PySem.W.isFn K (.ref f) = true
  kp : PySem.W.keepIn K (.ref f) = true

section
variable {X : Cx} {pins : List (Addr × Obj)} {σ : St} {H : Hp} {s : Shared} {a C dx : Addr} {fs : List (Str × V)} {f : Str} {v : V} {A : Around} {E : Value → Shared → Prop}





/-- a new instance, tracked, without attributes -/
theorem Inv.made (I : Inv X pins σ H s) : Inv X pins σ (upd (upd H s.heap.objs.size (.own (s.heap.objs.size + 1))) (s.heap.objs.size + 1) (.ins C s.heap.objs.size []))
    { s with heap := (s.heap.push PySem.W.emptyDict).push (PySem.W.instObj C s.heap.objs.size) } := by
  have e1 : (s.heap.push PySem.W.emptyDict).get? s.heap.objs.size = some PySem.W.emptyDict := Heap.get?_push_size s.heap rfl
  have e2 : ((s.heap.push PySem.W.emptyDict).push (PySem.W.instObj C s.heap.objs.size)).get? (s.heap.objs.size + 1) = some (PySem.W.instObj C s.heap.objs.size) := by
    have := Heap.get?_push_size (s.heap.push PySem.W.emptyDict) (o := PySem.W.instObj C s.heap.objs.size) rfl
    rwa [Heap.size_push] at this
  have e3 : (s.heap.push PySem.W.emptyDict).Ns s.heap.objs.size (fun _ => none) := ⟨PySem.W.emptyDict, #[], _, e1, rfl, (fun e he => absurd he (by simp)), fun _ => rfl⟩
  have I1 := I.laid (a := s.heap.objs.size) (o := .own (s.heap.objs.size + 1)) (h' := s.heap.push PySem.W.emptyDict) (t' := s.toks) (fun b u q => Heap.get?_push_of_some _ q) (Nat.le_refl _) ⟨_, e1⟩
  refine I1.laid (a := s.heap.objs.size + 1) (o := .ins C s.heap.objs.size []) (t' := s.toks) (fun b u q => Heap.get?_push_of_some _ q) (Nat.le_of_eq (Heap.size_push _ _)) ?_
  have ne : s.heap.objs.size ≠ s.heap.objs.size + 1 := Nat.ne_of_lt (Nat.lt_succ_self _)
  refine ⟨by rw [upd_ne ne, upd_same], Nat.zero_le _, ne, e2, fun _ => none, (Heap.Ns1.of_empty e3).at fun o q => Heap.get?_push_of_some _ q, fun _ => True.intro, fun y hy => absurd rfl hy⟩

end

/-! ### readings and rules -/

section
variable {X : Cx} {o e value : Expr} {f : Str} {pos pos' tpos : Pos} {ta tv : TE}

end

/-! ### isinstance -/
section
variable {X : Cx} {pins : List (Addr × Obj)} {σ : St} {H : Hp} {s : Shared} {A : Around} {E : Value → Shared → Prop} {Q : Value → Shared → Prop} {c : Value} {b : Bool}
/-- the type of a value, as the fragment's deciders take it; for an instance its class -/
inductive TyOf (K : PySem.W.Frag) (H : Hp) : V → Value → Prop where
  | non : TyOf K H .non (.type "NoneType")
  | bl (x : Bool) : TyOf K H (.bl x) (.type "bool")
  | int (i : Int) : TyOf K H (.int i) (.type "int")
  | str (x : Str) : TyOf K H (.str x) (.type "str")
  | flt (x : UInt64) : TyOf K H (.flt x) (.type "float")
  | lst {a : Addr} {xs : List V} (e : H a = some (.lst xs)) : TyOf K H (.ref a) (.type "list")
  | frz {a : Addr} {o : Obj} {xs : List V} (e : H a = some (.frz o (.lst xs))) : TyOf K H (.ref a) (.type "list")
  | tup {a : Addr} {xs : List V} (e : H a = some (.tup xs)) : TyOf K H (.ref a) (.type "tuple")
  | dK {a : Addr} {kvs : List (Key × V)} (e : H a = some (.dK kvs)) : TyOf K H (.ref a) (.type "dict")
  | dT {a : Addr} {kvs : List (List Key × V)} (e : H a = some (.dT kvs)) : TyOf K H (.ref a) (.type "dict")
  | ins {a C dx : Addr} {fs : List (Str × V)} (e : H a = some (.ins C dx fs)) (cl : Cls K C) (ha : PySem.W.findIn K (.ref C) "__class__" = some (some (.builtin "object.__class__")))
      (hn : PySem.W.specialIn K (.builtin "object.__class__") "__get__" = some (some (.builtin "getset_descriptor.__get__"))) (htk : PySem.W.takesIn K (.builtin "object.__class__") = some true)
      (hm : PySem.W.mroIn K C (.type "object") = some true) : TyOf K H (.ref a) (.ref C)
end
end L2

namespace L2
open PySem PySem.Spec PyProof.Rows

/-! ### room -/
structure Room (k : Nat) (A : Around) : Prop where
  hd : A.handled = none
  dp : A.depth + 3 * k + 5 < recursionLimit
  un : A.units + 16 * k + 200 < cLine
  gd : A.guards = some []
theorem Room.mono {j k : Nat} {A : Around} (r : Room k A) (h : j ≤ k) : Room j A := ⟨r.hd, by have := r.dp; omega, by have := r.un; omega, r.gd⟩
theorem Room.deeper {k : Nat} {A : Around} (r : Room (k + 1) A) (env : Env) : Room k (A.deeper env) :=
  ⟨r.hd, by have := r.dp; show A.depth + 1 + 3 * k + 5 < _; omega, by have := r.un; show A.units + 3 + 16 * k + 200 < _; omega, r.gd⟩
theorem Room.in1 {k : Nat} {A : Around} (r : Room (k + 1) A) : Room k A.in1 :=
  ⟨r.hd, by have := r.dp; show A.depth + 3 * k + 5 < _; omega, by have := r.un; show A.units + 1 + 16 * k + 200 < _; omega, r.gd⟩
theorem Room.depth {k : Nat} {A : Around} (r : Room k A) : A.depth < recursionLimit := by have := r.dp; omega
theorem Room.units {k : Nat} {A : Around} (r : Room k A) : A.units + 64 < cLine := by have := r.un; omega

/-! ### argument lists and displays -/
noncomputable def tNil : TA := fun _ H Q => Q [] H
noncomputable def tCons (ta : TE) (tr : TA) : TA := fun σ H Q => ta σ H fun x H1 => tr σ H1 fun xs H2 => Q (x :: xs) H2
section
variable {X : Cx} {e : Expr} {es : List Expr} {te : TE} {t : TA} {pos : Pos}
theorem pa_nil : PA X [] tNil := fun _ _ _ _ H Q I h => Calls.spliced_nil ⟨[], H, I, .nil, h⟩
theorem pa_cons (ha : PE X e te) (hr : PA X es t) (hs : starEach (e :: es) X.env = (false, eval e X.env) :: starEach es X.env := by rfl) : PA X (e :: es) (tCons te t) := by
  intro pos pins s σ H Q I h
  rw [hs]
  show wpAny _ _ (spliced ((false, eval e X.env) :: backTo pos (starEach es X.env))) _ _ s
  refine Calls.spliced_cons (thn (ha pins s σ H _ I h) fun u s1 ⟨x, H1, I1, r1, q1⟩ => ?_)
  exact thn (hr pos pins s1 σ H1 _ I1 q1) fun us s2 ⟨xs, H2, I2, r2, q2⟩ => ⟨x :: xs, H2, I2, .cons r1 r2, q2⟩

/-- a tuple, a list of written items -/
noncomputable def tTup (t : TA) : TE := fun σ H Q => t σ H fun xs H1 => xs.length ≤ sizeLine ∧ ∀ p, H1 p = none → Q (.ref p) (upd H1 p (.tup xs))
noncomputable def tLst (t : TA) : TE := fun σ H Q => t σ H fun xs H1 => xs.length ≤ sizeLine ∧ ∀ p, H1 p = none → Q (.ref p) (upd H1 p (.lst xs))
theorem pe_tup {x1} (h : PA X es t) : PE X (.Tuple es x1 pos) (tTup t) := by
  intro pins s σ H Q I hq
  refine wpAny_Tuple_spliced (thn (h pos pins s σ H _ I hq) fun us s1 ⟨xs, H1, I1, r, z, q⟩ => ⟨by rw [← r.length]; exact z, ?_⟩)
  have hf : H1 s1.heap.objs.size = none := I1.hok.fresh (Nat.le_refl _)
  refine ⟨.ref s1.heap.objs.size, upd H1 s1.heap.objs.size (.tup xs), I1.laid (t' := s1.toks) (fun b u e => Heap.get?_push_of_some _ e) (Nat.le_refl _) ?_, rfl, q _ hf⟩
  exact ⟨z, us, r, ⟨_, Heap.get?_push_size _ rfl, rfl, _, rfl⟩⟩
theorem pe_lst (h : PA X es t) : PE X (.List es pos) (tLst t) := by
  intro pins s σ H Q I hq
  refine wpAny_List_spliced (thn (h pos pins s σ H _ I hq) fun us s1 ⟨xs, H1, I1, r, z, q⟩ => ⟨by rw [← r.length]; exact z, ?_⟩)
  have hf : H1 s1.heap.objs.size = none := I1.hok.fresh (Nat.le_refl _)
  refine ⟨.ref s1.heap.objs.size, upd H1 s1.heap.objs.size (.lst xs), I1.laid (t' := s1.toks) (fun b u e => Heap.get?_push_of_some _ e) (Nat.le_refl _) ?_, rfl, q _ hf⟩
  exact ⟨z, us, 0, r, Heap.get?_push_size _ rfl⟩
end

/-! ### what a def promises -/
/-- a def's promise: the bound arguments in the parameters' order, the heap, the wanted end, the wanted exception -/
noncomputable abbrev Sp := List V → Hp → VK → XK → Prop
/-- how an exception lies behind a call (file 08 gives it): the callers' frames, abstract heap and state ahead of the call, the wish, the exception, the state -/
noncomputable abbrev CXT := List Env → Hp → Shared → XK → Value → Shared → Prop

/-- the state at a call -/
structure Env0 (P : Program) (w : World) (K : PySem.W.Frag) (mg : Str → Option Value) (base : Heap) (A : Around) (outer : List Env) (s : Shared) (H : Hp) : Prop where
  frames : A.frames = some outer
  mod : Mod K mg base
  bs : ∀ b o, base.get? b = some o → s.heap.get? b = some o ∧ H b = none
  bsz : base.objs.size ≤ s.heap.objs.size
  funs : s.heap.FunFrames base outer
  frf : ∀ b ∈ frs outer, H b = none
  hok : HOk P w H s.heap
  bare : AllBare s.gens
/-- a call's end -/
noncomputable def CE (outer : List Env) (P : Program) (w : World) (H : Hp) (s : Shared) (Q : VK) (u : Value) (s' : Shared) : Prop :=
  ∃ v H', s'.os = s.os ∧ AllBare s'.gens ∧ Un (frs outer) [] H H' s.heap s'.heap ∧ HOk P w H' s'.heap ∧ RelV v u ∧ Q v H'
noncomputable def CR (CX : CXT) (outer : List Env) (P : Program) (w : World) (H : Hp) (s : Shared) (Q : VK) (E : XK) (r : Result) (s' : Shared) : Prop :=
  match r with
  | .ok (.ret u) => CE outer P w H s Q u s'
  | .ok _ => False
  | .error e => CX outer H s E e s'
structure FnOk (P : Program) (w : World) (K : PySem.W.Frag) (mg : Str → Option Value) (base : Heap) (CX : CXT) (k : Nat) (f : Addr) (fd : FuncData) (ps : List Str) (sp : Sp) : Prop where
  len : ∀ vs H Q E, sp vs H Q E → vs.length = ps.length
  run : ∀ (A : Around) (outer : List Env) (s : Shared) (H : Hp) (args : Args) (us : List Value) (vs : List V) (Q : VK) (E : XK), Room k A → Env0 P w K mg base A outer s H → BindsTo s fd args (ps.zip us) → Vals vs us → sp vs H Q E →
    codeAny (model P w) A (.call (.ref f) args) (CR CX outer P w H s Q E) s
theorem FnOk.mono {P : Program} {w : World} {K : PySem.W.Frag} {mg : Str → Option Value} {base : Heap} {CX : CXT} {j k : Nat} {f : Addr} {fd : FuncData} {ps : List Str} {sp : Sp} (F : FnOk P w K mg base CX j f fd ps sp) (h : j ≤ k) :
    FnOk P w K mg base CX k f fd ps sp := ⟨F.len, fun A outer s H args us vs Q E hr => F.run A outer s H args us vs Q E (hr.mono h)⟩

theorem Env0.in1 {P : Program} {w : World} {K : PySem.W.Frag} {mg : Str → Option Value} {base : Heap} {A : Around} {outer : List Env} {s : Shared} {H : Hp} (e : Env0 P w K mg base A outer s H) :
    Env0 P w K mg base A.in1 outer s H := ⟨e.frames, e.mod, e.bs, e.bsz, e.funs, e.frf, e.hok, e.bare⟩

section
variable {X : Cx} {pins : List (Addr × Obj)} {σ : St} {H : Hp} {s s' : Shared}
/-- from a body: what a callee wants -/
theorem Inv.env0 (I : Inv X pins σ H s) : Env0 X.prog X.w X.K X.mg X.base X.A X.stack s H :=
  ⟨I.ok.frames, I.ok.mod, I.bs, Nat.le_trans I.ok.bsz I.sz, I.stack, I.stkFree, I.hok, I.bare⟩
/-- behind a call -/
theorem Inv.after {Q : VK} {u : Value} (I : Inv X pins σ H s) (h : CE X.stack X.prog X.w H s Q u s') : EP X pins σ Q u s' := by
  obtain ⟨v, H', os, bare, un, hok, r, q⟩ := h
  obtain ⟨hh, g, d, t, os'⟩ := s'
  obtain rfl : os' = s.os := os
  exact ⟨v, H', I.call (h' := hh) (g' := g) (d' := d) (t' := t) (ch := []) un hok bare (fun b z => absurd z (by simp)), r, q⟩
end

/-! ### calls -/
/-- f(..): the written arguments, then the defaults dvs; E: what is wanted of an exception -/
noncomputable def tCall (sp : Sp) (dvs : List V) (E : XK) (t : TA) : TE := fun σ H Q => t σ H fun vs H1 => sp (vs ++ dvs) H1 Q E

/-- how the parameters are bound: us the positional arguments, kw the keywords' values by name, ds the defaults that fill up -/
noncomputable def Binds (K : PySem.W.Frag) (fd : FuncData) (ps : List Str) (ds : List Value) : Prop :=
  ∀ (s : Shared) (us : List Value), K.In s.heap → (us ++ ds).length = ps.length → BindsTo s fd ⟨us, []⟩ (ps.zip (us ++ ds))
/-- every parameter is given -/
theorem Binds.all {K : PySem.W.Frag} {fd : FuncData} {ps : List Str} (h : ∀ us : List Value, us.length = ps.length → bindArgs fd ⟨us, []⟩ = pure (ps.zip us)) : Binds K fd ps [] := fun s us _ hl => by
  rw [List.append_nil] at hl ⊢
  exact .of_eq (h us hl)

/-- an exception of a callee reaches what this body wants of exceptions -/
noncomputable def Passes (CX : CXT) (X : Cx) (E : XK) : Prop := ∀ (pins : List (Addr × Obj)) (σ : St) (H : Hp) (s : Shared) (e : Value) (s' : Shared), Inv X pins σ H s → CX X.stack H s E e s' → X.xe e s'

section
variable {X : Cx} {CX : CXT} {k : Nat} {f C : Addr} {fd : FuncData} {ps : List Str} {sp : Sp} {dvs : List V} {ds : List Value} {E : XK} {x m : Str} {p pos apos : Pos} {e o : Expr} {es : List Expr} {ta : TE} {t : TA}

/-- the callee runs -/
theorem run_fn {pins : List (Addr × Obj)} {σ : St} {H : Hp} {s : Shared} {Q : VK} {us : List Value} {vs : List V} (F : FnOk X.prog X.w X.K X.mg X.base CX k f fd ps sp) (hr : Room k X.A) (hb : Binds X.K fd ps ds) (hd : Vals dvs ds) (hx : Passes CX X E)
    (I : Inv X pins σ H s) (r : Vals vs us) (h : sp (vs ++ dvs) H Q E) : wpAny (model X.prog X.w) X.A (call (.ref f) us) (EP X pins σ Q) X.xe s := by
  have r2 : Vals (vs ++ dvs) (us ++ ds) := r.append hd
  have hl : (us ++ ds).length = ps.length := by rw [← r2.length]; exact F.len _ _ _ _ h
  refine wpAny_call (codeAny_mono (F.run X.A X.stack s H ⟨us, []⟩ (us ++ ds) (vs ++ dvs) Q E hr I.env0 (hb s us I.kIn hl) r2 h) fun r s' hq => ?_)
  cases r with
  | error e => exact hx pins σ H s e s' I hq
  | ok fl =>
    cases fl with
    | ret u => exact I.after hq
    | next => exact False.elim hq
    | brk => exact False.elim hq
    | cont => exact False.elim hq

theorem pe_call (F : FnOk X.prog X.w X.K X.mg X.base CX k f fd ps sp) (hr : Room k X.A) (hg : Gl X x) (hm : X.mg x = some (.ref f)) (hk : PySem.W.keepIn X.K (.ref f) = true) (hb : Binds X.K fd ps ds) (hd : Vals dvs ds) (hx : Passes CX X E)
    (ha : PA X (e :: es) t) (hdb : (x == ("__debug__" : Str)) = false := by decide) (he : starEach (e :: es) X.env = (false, eval e X.env) :: starEach es X.env := by rfl) (hpl : (backTo pos (starEach es X.env)).any (·.1) = false := by rfl) :
    PE X (.Call (.Name x p) (e :: es) [] pos) (tCall sp dvs E t) := by
  intro pins s σ H Q I h
  refine wpAny_Call_Name_kw (ld_glob I hg hm ?_ hdb)
  refine PySem.W.callWith_K (h₀ := X.base) I.ok.mod.kin hk (thn (ha pos pins s σ H _ I h) fun us s1 ⟨vs, H1, I1, r, q⟩ => ⟨I1.kIn, ?_⟩) he hpl
  exact run_fn F hr hb hd hx I1 r q


/-- what a class must have to be made -/
structure Mk (K : PySem.W.Frag) (C f : Addr) : Prop where
  makes : PySem.W.makesIn K C = true
  init : PySem.W.findIn K (.ref C) "__init__" = some (some (.ref f))
  fn : PySem.W.isFn K (.ref f) = true
  kp : PySem.W.keepIn K (.ref C) = true

end

/-! ### keywords -/
section
variable {X : Cx} {CX : CXT} {k : Nat} {f C : Addr} {fd : FuncData} {ps ks : List Str} {sp : Sp} {E : XK} {x m : Str} {p pos apos kpos : Pos} {e o : Expr} {es : List Expr} {kws : List Keyword} {te ta : TE} {t tk : TA} {nm : Option Str}

/-- how a call with keywords binds: g puts the positional values us and the keywords' values ws (names ks) in the parameters' order, defaults among them -/
structure KBinds (K : PySem.W.Frag) (fd : FuncData) (ps ks : List Str) (g : List Value → List Value → List Value) (gV : List V → List V → List V) : Prop where
  to : ∀ (s : Shared) (us ws : List Value), K.In s.heap → (g us ws).length = ps.length → BindsTo s fd ⟨us, ks.zip ws⟩ (ps.zip (g us ws))
  rel : ∀ {vs : List V} {us : List Value} {zs : List V} {ws : List Value}, Vals vs us → Vals zs ws → Vals (gV vs zs) (g us ws)
variable {g : List Value → List Value → List Value} {gV : List V → List V → List V}
end

/-! ### a def's body keeps its promise -/
/-- names: the parameters first -/
structure FnScope (N P : List Str) (sc : Scope) : Prop where
  kind : sc.kind = .function
  co : sc.isCoroutine = false
  gen : sc.isGenerator = false
  nd : N.Nodup
  pre : N.take P.length = P
  par : ∀ x ∈ P, sc.names.lookup x = some .local ∨ sc.names.lookup x = some .cell
  nofree : ∀ y ∈ sc.names, y.2 ≠ .free

theorem bindL_out {kindOf : Str → Option NameKind} {x : Str} : ∀ {binds : List (Str × Value)} {m : Str → Option Value}, (∀ v, (x, v) ∉ binds) → bindL kindOf binds m x = m x
  | [], _, _ => rfl
  | (n, v) :: r, m, h => by
    unfold bindL
    rw [bindL_out fun w hw => h w (List.mem_cons_of_mem _ hw)]
    split
    · have : x ≠ n := by rintro rfl; exact h v List.mem_cons_self
      simp [this]
    · rfl
theorem bindC_out {kindOf : Str → Option NameKind} {x : Str} : ∀ {binds : List (Str × Value)} {m : Str → Option Value}, (∀ v, (x, v) ∉ binds) → bindC kindOf binds m x = m x
  | [], _, _ => rfl
  | (n, v) :: r, m, h => by
    unfold bindC
    rw [bindC_out fun w hw => h w (List.mem_cons_of_mem _ hw)]
    split
    · rfl
    · have : x ≠ n := by rintro rfl; exact h v List.mem_cons_self
      simp [this]
theorem bindL_get {kindOf : Str → Option NameKind} {x : Str} {v : Value} : ∀ {P : List Str} {vs : List Value} {i : Nat} {m : Str → Option Value}, P.Nodup → P[i]? = some x → vs[i]? = some v → kindOf x = some .local →
    bindL kindOf (P.zip vs) m x = some v
  | [], _, _, _, _, h, _, _ => by simp at h
  | _ :: _, [], _, _, _, _, h, _ => by simp at h
  | p :: P, w :: vs, 0, m, nd, h1, h2, hk => by
    simp at h1 h2; subst h1; subst h2
    show bindL kindOf ((p, w) :: P.zip vs) m p = _
    unfold bindL
    rw [bindL_out fun v hv => (List.nodup_cons.mp nd).1 (List.of_mem_zip hv).1, if_pos hk]
    simp
  | p :: P, w :: vs, i + 1, m, nd, h1, h2, hk => by
    show bindL kindOf ((p, w) :: P.zip vs) m x = _
    unfold bindL
    exact bindL_get (i := i) (List.nodup_cons.mp nd).2 (by simpa using h1) (by simpa using h2) hk
theorem bindC_get {kindOf : Str → Option NameKind} {x : Str} {v : Value} : ∀ {P : List Str} {vs : List Value} {i : Nat} {m : Str → Option Value}, P.Nodup → P[i]? = some x → vs[i]? = some v → kindOf x ≠ some .local →
    bindC kindOf (P.zip vs) m x = some v
  | [], _, _, _, _, h, _, _ => by simp at h
  | _ :: _, [], _, _, _, _, h, _ => by simp at h
  | p :: P, w :: vs, 0, m, nd, h1, h2, hk => by
    simp at h1 h2; subst h1; subst h2
    show bindC kindOf ((p, w) :: P.zip vs) m p = _
    unfold bindC
    rw [bindC_out fun v hv => (List.nodup_cons.mp nd).1 (List.of_mem_zip hv).1, if_neg hk]
    simp
  | p :: P, w :: vs, i + 1, m, nd, h1, h2, hk => by
    show bindC kindOf ((p, w) :: P.zip vs) m x = _
    unfold bindC
    exact bindC_get (i := i) (List.nodup_cons.mp nd).2 (by simpa using h1) (by simpa using h2) hk

/-- the names' values at the entry -/
noncomputable def start (N : List Str) (vs : List V) : St := vs.map some ++ List.replicate (N.length - vs.length) none

/-- the context of a def's body, at its entry; an exception leaves the frame, then lies as CX says -/
noncomputable def cxOf (CX : CXT) (P : Program) (w : World) (K : PySem.W.Frag) (mg : Str → Option Value) (base : Heap) (N : List Str) (qual : Str) (scope : Scope) (f : Addr) (cd : Value) (A : Around) (outer : List Env) (s : Shared) (H : Hp) (E : XK) : Cx where
  prog := P
  w := w
  K := K
  mg := mg
  base := base
  A := A.deeper (envOfC qual scope s.heap.objs.size f cd)
  N := N
  s₀ := s
  H₀ := H
  env := envOfC qual scope s.heap.objs.size f cd
  outer := outer
  stack := envOfC qual scope s.heap.objs.size f cd :: outer
  ex := []
  calm := true
  fn := fun _ => true
  pn := []
  xe := fun e s' => wpAny (model P w) (A.deeper (envOfC qual scope s.heap.objs.size f cd)) (leaving (envOfC qual scope s.heap.objs.size f cd) e) (fun _ s'' => CX outer H s E e s'') (fun e' s'' => CX outer H s E e' s'') s'

theorem cell_has {sc : Scope} {n : Nat} {x : Str} (h : sc.names.lookup x = some .cell) : ∃ c, (cellsFrom n sc.names []).lookup x = some c := by
  have q := PySem.W.cellsFrom_some sc.names n [] (.inl h)
  exact Option.isSome_iff_exists.mp q

theorem inv_start {CX : CXT} {P : Program} {w : World} {K : PySem.W.Frag} {mg : Str → Option Value} {base : Heap} {N ps : List Str} {qual : Str} {scope : Scope} {f : Addr} {cd : Value} {A : Around} {outer : List Env} {s s1 : Shared} {H : Hp} {E : XK} {us : List Value} {vs : List V}
    (S : FnScope N ps scope) (hd : A.handled = none) (e0 : Env0 P w K mg base A outer s H) (hl : vs.length = ps.length) (r : Vals vs us)
    (x : InCallC s s.heap.objs.size (bindL (envOfC qual scope s.heap.objs.size f cd).kindOf (ps.zip us) fun _ => none) (cellsFrom (s.heap.objs.size + 1) scope.names []) (bindC (envOfC qual scope s.heap.objs.size f cd).kindOf (ps.zip us) fun _ => none) s1) :
    Inv (cxOf CX P w K mg base N qual scope f cd A outer s H E) [] (start N vs) H s1 := by
  have hpl : ps.length ≤ N.length := by have := congrArg List.length S.pre; rw [List.length_take] at this; omega
  obtain ⟨h1, tk, rfl, hk⟩ := x.done
  have noA : ∀ b : Addr, b ∉ (cxOf CX P w K mg base N qual scope f cd A outer s H E).ex := fun b z => absurd (show b ∈ ([] : List Addr) from z) (by simp)
  refine ⟨⟨e0.mod, S.kind, rfl, rfl, Nat.le_refl _, fun y z c h1 h2 => ?_, fun y hy => ?_, fun y c _ h => ?_, fun _ => hd, Around.frames_deeper e0.frames, .inr ⟨rfl, rfl⟩, fun b z => absurd z (noA b), e0.bs, e0.bsz, fun b _ _ => noA b, fun b z => absurd z (noA b), e0.funs, e0.frf⟩,
    rfl, e0.bare, Un.kept hk, ⟨_, x.toInCall.ns, fun i y v h1 h2 h3 => ?_⟩, fun y c h => ⟨_, x.cell y c h⟩, e0.hok.fresh (Nat.le_refl _), fun y c h => ?_, fun p hp => absurd (show p ∈ ([] : List (Addr × Obj)) from hp) (by simp), e0.hok.kept hk, ?_⟩
  · exact name_of_addr x.apart (PySem.mem_of_lookup h1) (PySem.mem_of_lookup h2)
  · have hy : scope.names.lookup y = some .cell ∨ scope.names.lookup y = some .free := hy
    rcases hy with hy | hy
    · exact cell_has hy
    · exact absurd rfl (S.nofree _ (PySem.mem_of_lookup hy))
  · exact Nat.le_of_lt (x.above y c (PySem.mem_of_lookup h))
  · have hi : i < vs.length := by
      unfold start at h2
      by_cases hi : i < vs.length
      · exact hi
      · rw [List.getElem?_append_right (by simpa using hi)] at h2
        rw [List.getElem?_replicate] at h2
        split at h2 <;> cases h2
    have ha : vs[i]? = some v := by
      unfold start at h2
      rw [List.getElem?_append_left (by simpa using hi), List.getElem?_map] at h2
      cases e : vs[i]? with
      | none => rw [e] at h2; cases h2
      | some a => rw [e] at h2; cases h2; rfl
    obtain ⟨u, hu, rv⟩ := r.get ha
    have hp : ps[i]? = some y := by
      rw [← S.pre, List.getElem?_take_of_lt (by omega)]; exact h1
    have ndP : ps.Nodup := by rw [← S.pre]; exact S.nd.sublist (List.take_sublist _ _)
    refine ⟨u, rv, ?_⟩
    rcases S.par y (List.mem_of_getElem? hp) with k | k
    · exact .inl ⟨k, bindL_get ndP hp hu k⟩
    · obtain ⟨c, e⟩ := cell_has (n := s.heap.objs.size + 1) k
      refine .inr ⟨.inl k, c, e, ?_⟩
      have q := x.cell y c e
      rw [bindC_get ndP hp hu (by show scope.names.lookup y ≠ _; rw [k]; decide)] at q
      exact q
  · exact e0.hok.fresh (Nat.le_of_lt (x.above y c (PySem.mem_of_lookup h)))
  · unfold start
    show _ = N.length
    rw [List.length_append, List.length_map, List.length_replicate]
    omega

/-- THE RULE: a def (or a method) of the text, by its body. The body's reading t is chosen for each entry; it is run at the parameters' values -/
theorem fn_of {CX : CXT} {P : Program} {w : World} {K : PySem.W.Frag} {mg : Str → Option Value} {base : Heap} {k : Nat} {f : Addr} {name qual : Str} {params : Arguments} {body : List Stmt} {scope : Scope} {dV kV doc pm cdv ct oc : Value} {an od : Option Addr}
    {osl : Array (Option Value)} {N ps : List Str} {sp : Sp} (lk : K.lookup f = some ⟨oc, od, .func (PySem.W.fnOf name qual params body scope dV kV doc pm an cdv ct), osl⟩) (hcd : PySem.W.codeIn K cdv qual = true) (S : FnScope N ps scope)
    (len : ∀ vs H Q E, sp vs H Q E → vs.length = ps.length)
    (hbody : ∀ (A : Around) (outer : List Env) (s : Shared) (H : Hp) (vs : List V) (Q : VK) (E : XK), Room k (A.deeper (envOfC qual scope s.heap.objs.size f cdv)) → sp vs H Q E →
      ∃ t, PSs (cxOf CX P w K mg base N qual scope f cdv A outer s H E) body t ∧ t { nx := fun _ H' => Q .non H', rt := Q } (start N vs) H) :
    FnOk P w K mg base CX (k + 1) f (PySem.W.fnOf name qual params body scope dV kV doc pm an cdv ct) ps sp := by
  refine ⟨len, fun A outer s H args us vs Q E hr e0 hb r hsp => ?_⟩
  have hl := len _ _ _ _ hsp
  have KX : K.In s.heap := e0.mod.kin.keeps fun b o e => (e0.bs b o e).1
  have lim : s.heap.NoLimit := e0.mod.nolimit.keeps fun b o e => (e0.bs b o e).1
  have hkind : ∀ y ∈ ps.zip us, scope.names.lookup y.1 = some .local ∨ (scope.names.lookup y.1 = some .cell ∧ ((cellsFrom (s.heap.objs.size + 1) scope.names []).lookup y.1).isSome = true) := fun ⟨n, v⟩ hy => by
    rcases S.par n (List.of_mem_zip hy).1 with q | q
    · exact .inl q
    · exact .inr ⟨q, PySem.W.cellsFrom_some _ _ _ (.inl q)⟩
  refine codeAny_call_function hr.depth (KX _ _ lk) rfl S.co S.gen rfl (PySem.W.codeRec_of KX hcd) (hb _ _ _ _ ?_)
  refine wpAny_newFunctionEnv_cells S.kind hkind fun env he s1 x => ?_
  subst he
  refine ⟨lim.keeps x.toInCall.keep, codeAny_func ?_⟩
  obtain ⟨t, ht, hq⟩ := hbody A outer s H vs Q E (hr.deeper _) hsp
  have I : Inv (cxOf CX P w K mg base N qual scope f cdv A outer s H E) [] (start N vs) H s1 := inv_start S hr.hd e0 hl r x
  refine wpAny_mono (ht [] s1 (start N vs) H _ I hq) (fun fl s' hs => ?_) fun e s' hs => hs
  have fin : ∀ {σ' : St} {H' : Hp} {v : V} {u : Value}, Inv (cxOf CX P w K mg base N qual scope f cdv A outer s H E) [] σ' H' s' → RelV v u → Q v H' → CE outer P w H s Q u s' :=
    fun {σ' H' v u} J rv q => ⟨v, H', J.os, J.bare, J.base, J.hok, rv, q⟩
  cases fl with
  | ret u =>
    obtain ⟨v, σ', H', J, rv, q⟩ := hs
    exact fin J rv q
  | next =>
    obtain ⟨σ', H', J, q⟩ := hs
    exact fin (v := V.non) (u := Value.none) J rfl q
  | brk =>
    obtain ⟨_, _, _, q⟩ := hs
    exact False.elim q
  | cont =>
    obtain ⟨_, _, _, q⟩ := hs
    exact False.elim q
end L2

namespace L2
open PySem PySem.Spec PyProof.Rows
section
variable {X : Cx} {x : Str} {p pos : Pos} {e : Expr} {es : List Expr} {t : TA} {id T : String} {r : List V → Hp → VK → Prop}

noncomputable def tCB (r : List V → Hp → VK → Prop) (t : TA) : TE := fun σ H Q => t σ H fun vs H1 => r vs H1 Q
/-- f(e, ..), f a built-in function -/
theorem pe_callB (hc : CallR X (.builtin id) r) (hg : Gl X x) (hm : X.mg x = none) (hv : bootBuiltins x = some (.builtin id)) (ha : PA X (e :: es) t) (hn : x ≠ "__name__" := by decide) (hdb : (x == ("__debug__" : Str)) = false := by decide)
    (he : starEach (e :: es) X.env = (false, eval e X.env) :: starEach es X.env := by rfl) (hpl : (backTo pos (starEach es X.env)).any (·.1) = false := by rfl) : PE X (.Call (.Name x p) (e :: es) [] pos) (tCB r t) := by
  intro pins s σ H Q I h
  refine wpAny_Call_Name_kw (ld_blt I hg hm hv ?_ hn hdb)
  exact PyProof.Rows.callWith_builtin1 (thn (ha pos pins s σ H _ I h) fun us s1 ⟨vs, H1, I1, r1, q1⟩ => hc pins s1 σ H1 vs us Q I1 r1 q1) he hpl
/-- T(e, ..), T a built-in type -/
theorem pe_callTy (hc : CallR X (.type T) r) (hg : Gl X x) (hm : X.mg x = none) (hv : bootBuiltins x = some (.type T)) (ha : PA X (e :: es) t) (hn : x ≠ "__name__" := by decide) (hdb : (x == ("__debug__" : Str)) = false := by decide)
    (he : starEach (e :: es) X.env = (false, eval e X.env) :: starEach es X.env := by rfl) (hpl : (backTo pos (starEach es X.env)).any (·.1) = false := by rfl) : PE X (.Call (.Name x p) (e :: es) [] pos) (tCB r t) := by
  intro pins s σ H Q I h
  refine wpAny_Call_Name_kw (ld_blt I hg hm hv ?_ hn hdb)
  exact PyProof.Rows.callWith_type1 (thn (ha pos pins s σ H _ I h) fun us s1 ⟨vs, H1, I1, r1, q1⟩ => hc pins s1 σ H1 vs us Q I1 r1 q1) he hpl
end
end L2

namespace HT
open PySem PyProof.Rows



section
open PySem.SeqAt
open PySem.AutoSeq1 (wpAny_loadPart')
open PySem.MeetsSeq PySem.MeetsSeq2 PySem.MeetsSeq3

end

section
variable {prog : Program} {w : World} {A : Around} {E : Value → Shared → Prop} {s : Shared}


/-- t + u, t not empty -/
theorem cat_tup {t b : Addr} {vs ws : List Value} {Q : Value → Shared → Prop} (ht : IsTup s.heap t vs.toArray) (hb : IsTup s.heap b ws.toArray) (hv : vs ≠ [])
    (h1 : ws = [] → Q (.ref t) s) (h2 : ws ≠ [] → Q (.ref s.heap.objs.size) { s with heap := s.heap.push { cls := .type "tuple", data := .seq (vs ++ ws).toArray } })
    (hsz : vs.length + ws.length ≤ sizeLine) : wpAny (model prog w) A (binaryOp .Add (.ref t) (.ref b)) Q E s := by
  obtain ⟨⟨cls, dd, data, sl⟩, ho, hc, n, hd⟩ := id ht
  obtain ⟨⟨cls2, dd2, data2, sl2⟩, ho2, hc2, n2, hd2⟩ := id hb
  simp only at hc hd hc2 hd2
  subst hc hd hc2 hd2
  have e : vs.toArray ++ ws.toArray = (vs ++ ws).toArray := by simp
  by_cases hw : ws = []
  · exact concat_meets ⟨_, ho, rfl⟩ ⟨_, ho2, rfl⟩ noFill_tuple_add seq_tuple_add PySem.F.slot_tuple_add PySem.F.entry_tuple_add (PySem.F.args_tuple_add_2 _ _)
      (tuple_addW1 t b vs.toArray ws.toArray n n2 dd dd2 sl sl2 (by simpa using hv) (by simp [hw])) ⟨ho, ho2, h1 hw⟩
  · refine concat_meets ⟨_, ho, rfl⟩ ⟨_, ho2, rfl⟩ noFill_tuple_add seq_tuple_add PySem.F.slot_tuple_add PySem.F.entry_tuple_add (PySem.F.args_tuple_add_2 _ _)
      (tuple_addW2 t b vs.toArray ws.toArray n n2 dd dd2 sl sl2 (by simpa using hv) (by simpa using hw) (by rw [List.size_toArray, List.size_toArray]; exact hsz)) ⟨ho, ho2, ?_⟩
    rw [e]
    exact h2 hw

/-! ### t[a:b], not the whole -/
/-- a slice's bound as a place among n (d where it is left out) -/
noncomputable def sIx (n d : Nat) : Option Int → Nat
  | none => d
  | some v => if v < 0 then (v + (n : Int)).toNat else min v.toNat n
theorem sIx_nat (n d k : Nat) : sIx n d (some (k : Int)) = min k n := by
  show (if (k : Int) < 0 then ((k : Int) + (n : Int)).toNat else min (k : Int).toNat n) = min k n
  rw [if_neg (by omega), Int.toNat_natCast]

end
end HT

namespace L2
open PySem PySem.Spec PyProof.Rows

/-! ### the parts of a slice -/
noncomputable abbrev TO := St → Hp → (Option Int → Hp → Prop) → Prop
/-- a slice's part (left out, or an int) -/
noncomputable def PO (X : Cx) (e : Option Expr) (t : TO) : Prop :=
  ∀ (pins : List (Addr × Obj)) (s : Shared) (σ : St) (H : Hp) (Q : Option Int → Hp → Prop), Inv X pins σ H s → t σ H Q →
    wpAny (model X.prog X.w) X.A (evalPart e X.env) (fun u s' => ∃ o H', Inv X pins σ H' s' ∧ IsPart u o ∧ Q o H') X.xe s
noncomputable def tNoPart : TO := fun _ H Q => Q none H
noncomputable def tPart (t : TE) : TO := fun σ H Q => t σ H fun x H1 => ∃ i, x = .int i ∧ Q (some i) H1


section
variable {X : Cx} {e : Expr} {te : TE} {lo hi : Option Expr} {tl th : TO} {pos p2 : Pos}

theorem po_none : PO X none tNoPart := by
  intro pins s σ H Q I h
  rw [evalPart_none]
  exact wpAny_pure ⟨none, H, I, .none, h⟩
theorem po_some (h : PE X e te) : PO X (some e) (tPart te) := by
  intro pins s σ H Q I hw
  rw [evalPart_some]
  refine thn (h pins s σ H _ I hw) fun u s1 ⟨x, H1, I1, r1, q1⟩ => ?_
  obtain ⟨i, rfl, q⟩ := q1
  obtain ⟨t, rfl⟩ := r1
  exact ⟨some i, H1, I1, .int i t, q⟩

/-- what a slice of a value is, by values: the slice object stands at sl -/
noncomputable def SlR (X : Cx) (r : V → Option Int → Option Int → Hp → VK → Prop) : Prop :=
  ∀ (pins : List (Addr × Obj)) (s : Shared) (σ : St) (H : Hp) (x : V) (v vl vu : Value) (lo hi : Option Int) (sl : Addr) (Q : VK), Inv X pins σ H s → RelV x v → s.heap.IsSliceOf sl vl vu .none → IsPart vl lo → IsPart vu hi → r x lo hi H Q →
    ∃ T id, typeLookup (.type T) "__getitem__" = pure (some (.builtin id)) ∧ s.TypeIs v T ∧ wpAny (model X.prog X.w) X.A (getItem v (.ref sl)) (EP X pins σ Q) X.xe s
theorem SlR.or {r r' : V → Option Int → Option Int → Hp → VK → Prop} (h : SlR X r) (h' : SlR X r') : SlR X (fun x lo hi H Q => r x lo hi H Q ∨ r' x lo hi H Q) := by
  intro pins s σ H x v vl vu lo hi sl Q I rx hs pl pu q
  rcases q with q | q
  · exact h pins s σ H x v vl vu lo hi sl Q I rx hs pl pu q
  · exact h' pins s σ H x v vl vu lo hi sl Q I rx hs pl pu q
noncomputable def tSl (r : V → Option Int → Option Int → Hp → VK → Prop) (te : TE) (tl th : TO) : TE := fun σ H Q => te σ H fun x H1 => tl σ H1 fun l H2 => th σ H2 fun u H3 => r x l u H3 Q
/-- a[lo:hi], any a -/
theorem pe_slice {r : V → Option Int → Option Int → Hp → VK → Prop} (hr : SlR X r) (he : PE X e te) (hl : PO X lo tl) (hu : PO X hi th) : PE X (.Subscript e (.Slice lo hi none p2) pos) (tSl r te tl th) := by
  intro pins s σ H Q I h
  refine Subscript_ (thn (he pins s σ H _ I h) fun v s1 ⟨x, H1, I1, r1, q1⟩ => ?_)
  refine wpAny_Slice (thn (hl pins s1 σ H1 _ I1 q1) fun vl s2 ⟨l, H2, I2, pl, q2⟩ => thn (hu pins s2 σ H2 _ I2 q2) fun vu s3 ⟨u, H3, I3, pu, q3⟩ => ?_)
  rw [evalPart_none]
  refine wpAny_pure ?_
  have I4 : Inv X pins σ H3 { s3 with heap := s3.heap.push { cls := .type "slice", data := .fields #[vl, vu, .none] } } := I3.kept (t' := s3.toks) fun b ob q => Heap.get?_push_of_some _ q
  obtain ⟨T, id, hT, ht, hg⟩ := hr pins { s3 with heap := s3.heap.push { cls := .type "slice", data := .fields #[vl, vu, .none] } } σ H3 x v vl vu l u s3.heap.objs.size Q I4 r1 (Heap.IsSliceOf.new ..) pl pu q3
  show wpAny (model X.prog X.w) X.A (subscriptTail e (.Slice lo hi none p2) v (.ref s3.heap.objs.size)) (EP X pins σ Q) X.xe { s3 with heap := s3.heap.push { cls := .type "slice", data := .fields #[vl, vu, .none] } }
  exact tail_any (ops := [.ref s3.heap.objs.size, v]) ht hT hg (by with_unfolding_all rfl)

/-- the items of xs[lo:hi] -/
noncomputable def cutV (xs : List V) (lo hi : Option Int) : List V := (xs.drop (HT.sIx xs.length 0 lo)).take (HT.sIx xs.length xs.length hi - HT.sIx xs.length 0 lo)
theorem cutV_length (xs : List V) (lo hi : Option Int) : (cutV xs lo hi).length ≤ xs.length := by
  unfold cutV
  rw [List.length_take, List.length_drop]
  omega

/-! ### t < u, t + u -/
/-- t + u, t not empty: u empty gives t itself -/
noncomputable def rCatT (K : PySem.W.Frag) : R2 := fun x y H Q => ∃ a b xs ys, x = .ref a ∧ y = .ref b ∧ SqT K H a xs ∧ SqT K H b ys ∧ xs ≠ [] ∧ xs.length + ys.length ≤ sizeLine ∧
  (ys = [] → Q (.ref a) H) ∧ (ys ≠ [] → ∀ p, H p = none → Q (.ref p) (upd H p (.tup (xs ++ ys))))
theorem Vals.nil_iff {xs : List V} {us : List Value} (r : Vals xs us) : us = [] ↔ xs = [] := by
  cases r with
  | nil => simp
  | cons _ _ => simp
theorem op_catT : OpR X (binaryOp .Add) (rCatT X.K) := by
  intro pins s σ H x y v u Q I rx ry h
  obtain ⟨a, b, xs, ys, rfl, rfl, ha, hb, hx, hz, q1, q2⟩ := h
  cases rx
  cases ry
  obtain ⟨its, r1, p1, _⟩ := I.tuple ha
  obtain ⟨its2, r2, p2, _⟩ := I.tuple hb
  refine HT.cat_tup p1 p2 (fun z => hx (r1.nil_iff.mp z)) (fun z => ⟨.ref a, H, I, rfl, q1 (r2.nil_iff.mp z)⟩) (fun z => ?_) (by rw [← r1.length, ← r2.length]; exact hz)
  refine ⟨.ref s.heap.objs.size, _, I.laid (t' := s.toks) (o := .tup (xs ++ ys)) (fun b ob q => Heap.get?_push_of_some _ q) (Nat.le_refl _) ?_, rfl, q2 (fun w => z (r2.nil_iff.mpr w)) _ (I.hok.fresh (Nat.le_refl _))⟩
  exact ⟨by rw [List.length_append]; exact hz, _, r1.append r2, IsTup.new _ _⟩
end
end L2

namespace L2
open PySem PySem.Spec PyProof.Rows

/-! ### places -/
/-- the place that an index of any sign means -/
noncomputable def ixN (n : Nat) (i : Int) : Option Nat := if 0 ≤ i then (if i < n then some i.toNat else none) else if -(n : Int) ≤ i then some (i + n).toNat else none
noncomputable def atI {α : Type} (xs : List α) (i : Int) : Option α := (ixN xs.length i).bind fun j => xs[j]?
theorem ixN_seq {n : Nat} {i : Int} {j : Nat} (h : ixN n i = some j) : seqIndex? i n = some j ∧ j < n ∧ -(n : Int) ≤ i ∧ i < n := by
  unfold ixN at h
  by_cases h0 : 0 ≤ i
  · rw [if_pos h0] at h
    by_cases h1 : i < n
    · rw [if_pos h1] at h
      have e : i.toNat = j := Option.some.inj h
      exact ⟨by rw [seqIndex_of h0 h1, e], by omega, by omega, h1⟩
    · rw [if_neg h1] at h; cases h
  · rw [if_neg h0] at h
    by_cases h1 : -(n : Int) ≤ i
    · rw [if_pos h1] at h
      have e : (i + n).toNat = j := Option.some.inj h
      exact ⟨by rw [seqIndex_neg (by omega) h1, e], by omega, h1, by omega⟩
    · rw [if_neg h1] at h; cases h
theorem atI_get {α : Type} {xs : List α} {i : Int} {v : α} (h : atI xs i = some v) : ∃ j, seqIndex? i xs.length = some j ∧ xs[j]? = some v ∧ j < xs.length ∧ -(xs.length : Int) ≤ i ∧ i < xs.length := by
  unfold atI at h
  cases e : ixN xs.length i with
  | none => rw [e] at h; cases h
  | some j =>
    rw [e] at h
    obtain ⟨h1, h2, h3, h4⟩ := ixN_seq e
    exact ⟨j, h1, h, h2, h3, h4⟩
theorem atI_nat {α : Type} {xs : List α} {j : Nat} {v : α} (h : xs[j]? = some v) : atI xs (j : Int) = some v := by
  have hj : j < xs.length := (List.getElem?_eq_some_iff.mp h).1
  have e : ixN xs.length (j : Int) = some j := by
    unfold ixN
    rw [if_pos (by omega), if_pos (by omega)]; simp
  unfold atI; rw [e]; exact h

/-! ### what may be subscripted -/
/-- what stands as an index of a plain subscript -/
noncomputable def PlainIx (b : Expr) : Prop := ∀ o i, subscripted b false o i = operate [o, i] (getItem o i)
/-- a subscript by values -/
noncomputable def IxR (X : Cx) (r : R2) : Prop :=
  ∀ (value slice : Expr) (pins : List (Addr × Obj)) (s : Shared) (σ : St) (H : Hp) (x y : V) (v u : Value) (Q : VK), Inv X pins σ H s → RelV x v → RelV y u → r x y H Q →
    subscripted slice false v u = operate [v, u] (getItem v u) → wpAny (model X.prog X.w) X.A (subscriptTail value slice v u) (EP X pins σ Q) X.xe s
/-- a call of a builtin's method by values: the receiver, the arguments -/
noncomputable def MtR (X : Cx) (id : String) (r : V → List V → Hp → VK → Prop) : Prop :=
  ∀ (pins : List (Addr × Obj)) (s : Shared) (σ : St) (H : Hp) (x : V) (xs : List V) (v : Value) (us : List Value) (Q : VK), Inv X pins σ H s → RelV x v → Vals xs us → r x xs H Q →
    wpAny (model X.prog X.w) X.A (call (.builtin id) (v :: us)) (EP X pins σ Q) X.xe s
section
variable {X : Cx} {a b : Expr} {ta tb : TE} {pos : Pos}
theorem IxR.or {r r' : R2} (h : IxR X r) (h' : IxR X r') : IxR X (fun x y H Q => r x y H Q ∨ r' x y H Q) := by
  intro value slice pins s σ H x y v u Q I rx ry q hs
  rcases q with q | q
  · exact h value slice pins s σ H x y v u Q I rx ry q hs
  · exact h' value slice pins s σ H x y v u Q I rx ry q hs
theorem MtR.or {id : String} {r r' : V → List V → Hp → VK → Prop} (h : MtR X id r) (h' : MtR X id r') : MtR X id (fun x xs H Q => r x xs H Q ∨ r' x xs H Q) := by
  intro pins s σ H x xs v us Q I rx rs q
  rcases q with q | q
  · exact h pins s σ H x xs v us Q I rx rs q
  · exact h' pins s σ H x xs v us Q I rx rs q
/-- a[b] -/
theorem pe_ix {r : R2} (hr : IxR X r) (ha : PE X a ta) (hb : PE X b tb) (hs : PlainIx b) : PE X (.Subscript a b pos) (tOp r ta tb) := by
  intro pins s σ H Q I h
  exact Subscript_ (binT ha hb I h fun v u s2 x y H2 I2 rx ry q => hr a b pins s2 σ H2 x y v u Q I2 rx ry q (hs _ _))

noncomputable def rIxL (K : PySem.W.Frag) : R2 := fun x y H Q => ∃ p xs i v, x = .ref p ∧ y = .int i ∧ SqL K H p xs ∧ atI xs i = some v ∧ Q v H
noncomputable def rIxT (K : PySem.W.Frag) : R2 := fun x y H Q => ∃ p xs i v, x = .ref p ∧ y = .int i ∧ SqT K H p xs ∧ atI xs i = some v ∧ Q v H
noncomputable def rIxS : R2 := fun x y H Q => ∃ z i c, x = .str z ∧ y = .int i ∧ z.length ≤ sizeLine ∧ atI z.cps.toList i = some c ∧ Q (.str ⟨#[c]⟩) H
theorem ix_list : IxR X (rIxL X.K) := by
  intro value slice pins s σ H x y v u Q I rx ry h hs
  obtain ⟨p, xs, i, z, rfl, rfl, hq, he, q⟩ := h
  cases rx
  obtain ⟨t, rfl⟩ := ry
  obtain ⟨its, r, pl, hz⟩ := I.list hq
  obtain ⟨j, h1, h2, h3, h4, h5⟩ := atI_get he
  obtain ⟨w, ew, rw'⟩ := r.get h2
  have hl := r.length
  have hn := line63
  have fin : EP X pins σ Q w s := ⟨z, H, I, rw', q⟩
  by_cases h0 : 0 ≤ i
  · have hj : i.toNat = j := by
      rw [seqIndex_of h0 h5] at h1
      exact Option.some.inj h1
    exact item_listR pl.isList h0 (by omega) (by rw [hj]; simpa using ew) fin hs
  · have hj : (i + (its.toArray.size : Int)).toNat = j := by
      rw [seqIndex_neg (by omega) h4] at h1
      rw [List.size_toArray, ← hl]
      exact Option.some.inj h1
    exact subscriptTail_builtinR (x := w) pl.isList.typeIs slot_list_getitem.lookup
      (wpAny_getItem_list_neg (Q := fun r s' => r = w ∧ EP X pins σ Q r s') pl.isList (by omega) (by rw [List.size_toArray] <;> omega) (by omega) (by rw [hj]; simpa using ew) ⟨rfl, fin⟩) hs
theorem ix_tup : IxR X (rIxT X.K) := by
  intro value slice pins s σ H x y v u Q I rx ry h hs
  obtain ⟨p, xs, i, z, rfl, rfl, hq, he, q⟩ := h
  cases rx
  obtain ⟨t, rfl⟩ := ry
  obtain ⟨its, r, pl, hz⟩ := I.tuple hq
  obtain ⟨j, h1, h2, h3, h4, h5⟩ := atI_get he
  obtain ⟨w, ew, rw'⟩ := r.get h2
  have hl := r.length
  have hn := line63
  have fin : EP X pins σ Q w s := ⟨z, H, I, rw', q⟩
  exact subscriptTail_builtinR (x := w) pl.typeIs slot_tuple_getitem.lookup
    (getItem_tuple (j := j) (Q := fun r s' => r = w ∧ EP X pins σ Q r s') pl (by omega) (by omega) (by rw [List.size_toArray, ← hl]; exact h1) (by simpa using ew) ⟨rfl, fin⟩) hs
theorem ix_str : IxR X rIxS := by
  intro value slice pins s σ H x y v u Q I rx ry h hs
  obtain ⟨z, i, c, rfl, rfl, hz, he, q⟩ := h
  obtain ⟨t, rfl⟩ := rx
  obtain ⟨t', rfl⟩ := ry
  obtain ⟨j, h1, h2, h3, h4, h5⟩ := atI_get he
  have hl : z.cps.toList.length = z.length := by simp [Str.length]
  rw [hl] at h1 h4 h5
  have hn := line63
  exact tail_any (typeIs_str s z t) slot_str_getitem.lookup (getItem_str (c := c) (by
    have e1 : decide (i < -(2 ^ 63 : Int)) = false := decide_eq_false (by omega)
    have e2 : decide (i ≥ 2 ^ 63) = false := decide_eq_false (by omega)
    rw [e1, e2, Bool.or_false]) (by rw [h1]; simpa using h2) ⟨.str ⟨#[c]⟩, H, I.tok _, ⟨_, rfl⟩, q⟩) hs

/-! ### xs[i] = v, any sign -/
/-- the list's object behind a store -/
theorem mapSeq_set (its : List Value) (n j : Nat) (u : Value) : Obj.mapSeq (·.setIfInBounds j u) { cls := .type "list", data := .seq its.toArray n } = { cls := .type "list", data := .seq (its.set j u).toArray n } := by
  simp [Obj.mapSeq]
theorem Inv.lst {pins : List (Addr × Obj)} {σ : St} {H : Hp} {s : Shared} {p : Addr} {xs : List V} (I : Inv X pins σ H s) (h : H p = some (.lst xs)) :
    ∃ (its : List Value) (n : Nat), Vals xs its ∧ s.heap.get? p = some { cls := .type "list", data := .seq its.toArray n } ∧ xs.length ≤ sizeLine := by
  obtain ⟨z, its, n, r, e⟩ := I.hok p _ h
  exact ⟨its, n, r, e, z⟩
/-- the list at p is written by an update of its object -/
theorem Inv.lstUpd {pins : List (Addr × Obj)} {σ : St} {H : Hp} {s : Shared} {p : Addr} {xs ys : List V} {its its' : List Value} {n n' : Nat} {f : Obj → Obj} (I : Inv X pins σ H s) (h : H p = some (.lst xs))
    (ho : s.heap.get? p = some { cls := .type "list", data := .seq its.toArray n }) (hf : f { cls := .type "list", data := .seq its.toArray n } = { cls := .type "list", data := .seq its'.toArray n' }) (r : Vals ys its') (hz : ys.length ≤ sizeLine) (t : Nat) :
    Inv X pins σ (upd H p (.lst ys)) { s with heap := s.heap.update p f, toks := t } := by
  have e : (s.heap.update p f).get? p = some { cls := .type "list", data := .seq its'.toArray n' } := by
    rw [Heap.get?_update_self f ho (by rw [hf] <;> rfl), hf]
  refine I.write (x := p) (e := p) (by rw [h]; trivial) (.inl rfl) (fun b u hb q => (Heap.get?_update_other _ _ (Ne.symm hb)).trans q) ⟨_, e⟩ ?_
  exact ⟨hz, its', n', r, e⟩
noncomputable def rSetL : V → V → V → Hp → (Hp → Prop) → Prop := fun o i v H Q => ∃ p xs k j, o = .ref p ∧ i = .int k ∧ H p = some (.lst xs) ∧ ixN xs.length k = some j ∧ Q (upd H p (.lst (xs.set j v)))
theorem set_list : PSet X rSetL := by
  intro pins s σ H o i v ov iv u Q I ro ri rv h
  obtain ⟨p, xs, k, j, rfl, rfl, hp, hj, q⟩ := h
  cases ro
  obtain ⟨t, rfl⟩ := ri
  obtain ⟨its, n, r, ho, hz⟩ := I.lst hp
  obtain ⟨h1, h2, h3, h4⟩ := ixN_seq hj
  have hl := r.length
  have hn := line63
  have I' : Inv X pins σ (upd H p (.lst (xs.set j v))) { s with heap := s.heap.update p (Obj.mapSeq (·.setIfInBounds j u)) } :=
    I.lstUpd hp ho (mapSeq_set its n j u) (r.set rv j) (by rw [List.length_set]; exact hz) s.toks
  by_cases h0 : 0 ≤ k
  · have hk : k.toNat = j := by
      rw [seqIndex_of h0 h4] at h1
      exact Option.some.inj h1
    exact PySem.W.ki_setAt ho h0 (by omega) (by rw [List.size_toArray, ← hl]; exact h4) (by rw [hk]; exact ⟨_, I', q⟩)
  · have hk : (k + (its.toArray.size : Int)).toNat = j := by
      rw [seqIndex_neg (by omega) h3] at h1
      rw [List.size_toArray, ← hl]
      exact Option.some.inj h1
    exact PySem.W.ki_setBack ho (by omega) (by rw [List.size_toArray, ← hl]; exact h3) (by omega) (by rw [hk]; exact ⟨_, I', q⟩)

/-! ### slices -/
theorem slice_bounds (lo hi : Option Int) (n : Nat) : (sliceBounds lo hi none n).1 = ((HT.sIx n 0 lo : Nat) : Int) ∧ (sliceBounds lo hi none n).2.1 = ((HT.sIx n n hi : Nat) : Int) ∧ (sliceBounds lo hi none n).2.2 = 1 := by
  refine ⟨?_, ?_, rfl⟩
  · cases lo with
    | none => simp [sliceBounds, HT.sIx]
    | some i =>
      simp only [sliceBounds, HT.sIx, Option.getD_none, show (1 : Int) > 0 by decide, if_true]
      by_cases h : i < 0
      · simp only [h, if_true] <;> omega
      · simp only [h, if_false] <;> omega
  · cases hi with
    | none => simp [sliceBounds, HT.sIx]
    | some i =>
      simp only [sliceBounds, HT.sIx, Option.getD_none, show (1 : Int) > 0 by decide, if_true]
      by_cases h : i < 0
      · simp only [h, if_true] <;> omega
      · simp only [h, if_false] <;> omega
theorem slicePick_cut (its : List Value) (lo hi : Option Int) : slicePick its.toArray lo hi none = ((its.drop (HT.sIx its.length 0 lo)).take (HT.sIx its.length its.length hi - HT.sIx its.length 0 lo)).toArray := by
  obtain ⟨h1, h2, h3⟩ := slice_bounds lo hi its.toArray.size
  unfold slicePick
  rw [h1, h2, h3]
  simp only [sliceRange_one, pick_run, List.size_toArray] <;> rfl
/-- xs[lo:hi] of a list: a new list -/
noncomputable def rSlL (K : PySem.W.Frag) : V → Option Int → Option Int → Hp → VK → Prop := fun x lo hi H Q => ∃ a xs, x = .ref a ∧ SqL K H a xs ∧ ∀ p, H p = none → Q (.ref p) (upd H p (.lst (cutV xs lo hi)))
theorem sl_list : SlR X (rSlL X.K) := by
  intro pins s σ H x v vl vu lo hi sl Q I rx hs pl pu h
  obtain ⟨a, xs, rfl, hx, q⟩ := h
  cases rx
  obtain ⟨its, r, ht, hz⟩ := I.list hx
  have hlen := r.length
  refine ⟨"list", _, slot_list_getitem.lookup, ht.isList.typeIs, ?_⟩
  refine wpAny_getItem_list_slice ht.isList hs pl pu .none (by simp) ?_ (by rw [List.size_toArray] <;> omega)
  rw [slicePick_cut, ← hlen]
  refine ⟨.ref s.heap.objs.size, _, I.laid (t' := s.toks) (o := .lst (cutV xs lo hi)) (fun b ob q => Heap.get?_push_of_some _ q) (Nat.le_refl _) ?_, rfl, q _ (I.hok.fresh (Nat.le_refl _))⟩
  exact ⟨Nat.le_trans (cutV_length xs lo hi) hz, _, 0, (r.drop (HT.sIx xs.length 0 lo)).take (HT.sIx xs.length xs.length hi - HT.sIx xs.length 0 lo), Heap.get?_push_size _ rfl⟩

/-! ### in, not in: flat items -/

/-! ### len, list(x), tuple(x) of any list or tuple that is read -/
theorem call_len_seq : CallR X (.builtin "len") (fun xs H Q => ∃ p ys, xs = [.ref p] ∧ (SqL X.K H p ys ∨ SqT X.K H p ys) ∧ Q (.int ys.length) H) := by
  intro pins s σ H xs us Q I r h
  obtain ⟨p, ys, rfl, hq, q⟩ := h
  obtain ⟨u, rfl, rx⟩ := vals1 r
  cases rx
  have hn := line63
  rcases hq with hq | hq
  · obtain ⟨its, r', pl, hz⟩ := I.list hq
    have hlen := r'.length
    exact Calls.call_len_list pl.isList (by simp only [List.size_toArray] <;> omega) ⟨.int ys.length, H, I.tok _, ⟨s.toks + 1, by rw [List.size_toArray, hlen]⟩, q⟩
  · obtain ⟨its, r', pl, hz⟩ := I.tuple hq
    have hlen := r'.length
    exact len_tuple pl (by simp only [List.size_toArray] <;> omega) ⟨.int ys.length, H, I.tok _, ⟨s.toks + 1, by rw [List.size_toArray, hlen]⟩, q⟩
theorem call_len_str : CallR X (.builtin "len") (fun xs H Q => ∃ z, xs = [.str z] ∧ z.length ≤ sizeLine ∧ Q (.int z.length) H) := by
  intro pins s σ H xs us Q I r h
  obtain ⟨z, rfl, hz, q⟩ := h
  obtain ⟨u, rfl, t, rfl⟩ := vals1 r
  have hn := line63
  exact len_str (by omega) ⟨.int z.length, H, I.tok _, ⟨_, rfl⟩, q⟩
theorem CallR.or {f : Value} {r r' : List V → Hp → VK → Prop} (h : CallR X f r) (h' : CallR X f r') : CallR X f (fun xs H Q => r xs H Q ∨ r' xs H Q) := by
  intro pins s σ H xs us Q I rs q
  rcases q with q | q
  · exact h pins s σ H xs us Q I rs q
  · exact h' pins s σ H xs us Q I rs q

/-! ### the call of a builtin's method: o.m(..) -/
/-- the value is of that builtin type -/
noncomputable def tyV (K : PySem.W.Frag) (T : String) (x : V) (H : Hp) : Prop := match x with
  | .str _ => T = "str"
  | .int _ => T = "int"
  | .ref p => (T = "list" ∧ ∃ xs, SqL K H p xs) ∨ (T = "tuple" ∧ ∃ o, K.lookup p = some o ∧ o.cls = .type "tuple" ∧ o.dict = none) ∨
      (T = "dict" ∧ ((∃ kvs, H p = some (.dK kvs)) ∨ ∃ kvs, H p = some (.dT kvs))) ∨ (T = "set" ∧ ∃ S n, H p = some (.set S n))
  | _ => False
theorem tyV_is {pins : List (Addr × Obj)} {σ : St} {H : Hp} {s : Shared} {T : String} {x : V} {v : Value} (I : Inv X pins σ H s) (r : RelV x v) (ty : tyV X.K T x H) :
    s.TypeIs v T ∧ ∀ a, v = .ref a → ∃ ob, s.heap.get? a = some ob ∧ ob.dict = none := by
  cases x with
  | str z =>
    obtain ⟨t, rfl⟩ := r
    cases (show T = "str" from ty)
    exact ⟨typeIs_str s z t, fun _ e => nomatch e⟩
  | int i =>
    obtain ⟨t, rfl⟩ := r
    cases (show T = "int" from ty)
    exact ⟨typeIs_int s i t, fun _ e => nomatch e⟩
  | ref p =>
    cases r
    rcases ty with ⟨rfl, xs, hq⟩ | ⟨rfl, o, hk, hc, hd⟩ | ⟨rfl, hk⟩ | ⟨rfl, S, n, hk⟩
    · obtain ⟨its, _, pl, _⟩ := I.list hq
      refine ⟨pl.isList.typeIs, fun a e => ?_⟩
      cases e
      obtain ⟨o, n, e, c, hd, _⟩ := pl
      exact ⟨o, e, hd⟩
    · refine ⟨⟨o, I.kIn p o hk, hc⟩, fun a e => ?_⟩
      cases e
      exact ⟨o, I.kIn _ o hk, hd⟩
    · have z : ∃ o, s.heap.get? p = some o ∧ o.ExactDict := by
        rcases hk with ⟨kvs, hk⟩ | ⟨kvs, hk⟩
        · obtain ⟨_, _, _, _, o, _, _, e, ex, _⟩ := I.hok p _ hk
          exact ⟨o, e, ex⟩
        · obtain ⟨_, _, _, _, o, _, _, e, ex, _⟩ := I.hok p _ hk
          exact ⟨o, e, ex⟩
      obtain ⟨o, e, ex⟩ := z
      refine ⟨⟨o, e, ex.1⟩, fun a e2 => ?_⟩
      cases e2
      exact ⟨o, e, ex.2.1⟩
    · obtain ⟨o, _, _, _, e, ex, _⟩ := I.hok p _ hk
      refine ⟨⟨o, e, ex.1⟩, fun a e2 => ?_⟩
      cases e2
      exact ⟨o, e, ex.2.1⟩
  | _ => exact False.elim ty
noncomputable def tBM (K : PySem.W.Frag) (T : String) (r : V → List V → Hp → VK → Prop) (to : TE) (t : TA) : TE := fun σ H Q => to σ H fun x H1 => tyV K T x H1 ∧ t σ H1 fun xs H2 => r x xs H2 Q
variable {o e : Expr} {es : List Expr} {to : TE} {t : TA} {name : Str} {apos cpos : Pos} {T id : String} {r : V → List V → Hp → VK → Prop}
theorem pe_bm (pa : PlainAttrs T) (slot : Slot T name id) (hty : typeOf (.builtin id) = pure (.type "method_descriptor")) (hm : MtR X id r) (ho : PE X o to) (ha : PA X (e :: es) t)
    (hbase : attributeBase o name X.env (eval o X.env) = eval o X.env := by rfl)
    (hfew : ((backTo cpos (starEach (e :: es) X.env)).all (fun x => !x.1) && (backToKw cpos (keywordEach [] X.env)).all (fun x => x.1.isSome)
      && decide ((e :: es).length + ([] : List Keyword).length + (if ([] : List Keyword).isEmpty then 0 else 1) < 30)) = true := by rfl)
    (hline : (apos.endLine == cpos.line) = true := by rfl) (hs : starEach (e :: es) X.env = (false, eval e X.env) :: starEach es X.env := by rfl) (hplain : (backTo cpos (starEach es X.env)).any (·.1) = false := by rfl) :
    PE X (.Call (.Attribute o name apos) (e :: es) [] cpos) (tBM X.K T r to t) := by
  intro pins s σ H Q I h
  refine wpAny_Call_method_late hbase hfew hline rfl (thn (ho pins s σ H _ I h) fun v s1 ⟨x, H1, I1, r1, ty, q1⟩ => ?_)
  obtain ⟨h1, h2⟩ := tyV_is I1 r1 ty
  refine ⟨T, id, pa, slot, hty, h1, h2, ?_⟩
  have hA := ha cpos pins s1 σ H1 _ I1 q1
  rw [hs] at hA ⊢
  refine Calls.callWith_builtin (by show (false || (backTo cpos (starEach es X.env)).any (·.1)) = false; rw [hplain] <;> rfl) (Calls.evalArgs_plain ?_)
  exact thn hA fun us s2 ⟨vs, H2, I2, r2, q2⟩ => hm pins s2 σ H2 x vs v us Q I2 r1 r2 q2
/- xs.append(e), list.index on a module's tuple .. are MtR facts of 06m -/
end
end L2

namespace L2
open PySem PySem.Spec PyProof.Rows

noncomputable def MtM (X : Cx) (id : String) (r : V → List V → Hp → VK → Prop) : Prop :=
  ∀ (pins : List (Addr × Obj)) (s : Shared) (σ : St) (H : Hp) (x : V) (xs : List V) (v : Value) (us : List Value) (Q : VK), Inv X pins σ H s → RelV x v → Vals xs us → r x xs H Q →
    wpAny (model X.prog X.w) X.A (call (.builtin id) (v :: us)) (EP X pins σ Q) X.xe s

/-! ### lists of values -/
theorem Vals.one : ∀ {x : V} {us : List Value}, Vals [x] us → ∃ u, us = [u] ∧ RelV x u
  | _, _, .cons r .nil => ⟨_, rfl, r⟩
theorem Vals.two : ∀ {x y : V} {us : List Value}, Vals [x, y] us → ∃ u v, us = [u, v] ∧ RelV x u ∧ RelV y v
  | _, _, _, .cons r (.cons q .nil) => ⟨_, _, rfl, r, q⟩
theorem Vals.zero : ∀ {us : List Value}, Vals [] us → us = []
  | _, .nil => rfl
theorem Vals.dropLast {xs : List V} {us : List Value} (h : Vals xs us) : Vals xs.dropLast us.dropLast := by
  induction h with
  | nil => exact .nil
  | cons r t ih =>
    cases t with
    | nil => exact .nil
    | cons q t' => exact .cons r ih
theorem Vals.reverse {xs : List V} {us : List Value} (h : Vals xs us) : Vals xs.reverse us.reverse := by
  induction h with
  | nil => exact .nil
  | cons r t ih => rw [List.reverse_cons, List.reverse_cons]; exact Vals.append ih (.cons r .nil)
theorem Vals.rep {xs : List V} {us : List Value} (h : Vals xs us) : ∀ k : Nat, Vals (List.replicate k xs).flatten (List.replicate k us).flatten
  | 0 => .nil
  | k + 1 => by
    rw [List.replicate_succ, List.replicate_succ, List.flatten_cons, List.flatten_cons]
    exact Vals.append h (Vals.rep h k)
theorem foldl_rep (its : List Value) : ∀ (k : Nat) (acc : List Value),
    List.foldl (fun x1 x2 => x1 ++ x2) acc.toArray (List.replicate k its.toArray) = (acc ++ (List.replicate k its).flatten).toArray
  | 0, acc => by simp
  | k + 1, acc => by
    have e : acc.toArray ++ its.toArray = (acc ++ its).toArray := by simp
    have e2 : (acc ++ its) ++ (List.replicate k its).flatten = acc ++ (List.replicate (k + 1) its).flatten := by
      rw [List.replicate_succ, List.flatten_cons, List.append_assoc]
    rw [← e2, ← foldl_rep its k (acc ++ its), ← e, List.replicate_succ, List.foldl_cons]

section
variable {X : Cx} {pins : List (Addr × Obj)} {σ : St} {H : Hp} {s : Shared} {l b : Addr} {xs ys zs : List V}

/-! ### the two steps: a tracked list is rewritten, a new list is laid -/
theorem Inv.lset {its its' : List Value} {n : Nat} {f : Array Value → Array Value} {t' : Nat} (I : Inv X pins σ H s) (hH : H l = some (.lst xs))
    (e : s.heap.get? l = some { cls := .type "list", data := .seq its.toArray n }) (hf : f its.toArray = its'.toArray) (hv : Vals ys its') (hz : ys.length ≤ sizeLine) :
    Inv X pins σ (upd H l (.lst ys)) { s with heap := s.heap.update l (Obj.mapSeq f), toks := t' } := by
  have q := PySem.IsL.update e f
  rw [hf] at q
  refine I.write (x := l) (e := l) (by rw [hH]; exact trivial) (.inl rfl) (fun b' u hb hu => (Heap.get?_update_other s.heap (Obj.mapSeq f) (Ne.symm hb)).trans hu) ⟨_, q⟩ ?_
  exact ⟨hz, its', _, hv, q⟩
theorem Inv.lnew {its : List Value} {t' : Nat} (I : Inv X pins σ H s) (hv : Vals ys its) (hz : ys.length ≤ sizeLine) :
    Inv X pins σ (upd H s.heap.objs.size (.lst ys)) { s with heap := s.heap.push { cls := .type "list", data := .seq its.toArray }, toks := t' } :=
  I.laid (fun _ _ q => Heap.get?_push_of_some _ q) (Nat.le_refl _) ⟨hz, its, 0, hv, Heap.get?_push_size _ rfl⟩
theorem Inv.fresh (I : Inv X pins σ H s) : H s.heap.objs.size = none := I.hok.fresh (Nat.le_refl _)
theorem Inv.lstM (I : Inv X pins σ H s) (hH : H l = some (.lst xs)) : xs.length ≤ sizeLine ∧ ∃ (its : List Value) (n : Nat), Vals xs its ∧ xs.length = its.length ∧ s.heap.get? l = some { cls := .type "list", data := .seq its.toArray n } := by
  obtain ⟨z, its, n, r, e⟩ := I.hok l _ hH
  exact ⟨z, its, n, r, r.length, e⟩

theorem notLongL {n : Nat} (h : n ≤ sizeLine) : Builtin.List.listTooLong n = false := by
  unfold Builtin.List.listTooLong
  exact decide_eq_false (by omega)
end

section
variable {X : Cx}

/-! ### methods -/
noncomputable def rAppend : V → List V → Hp → VK → Prop := fun x vs H Q => ∃ l xs y, x = .ref l ∧ vs = [y] ∧ H l = some (.lst xs) ∧ xs.length < sizeLine ∧ Q .non (upd H l (.lst (xs ++ [y])))
theorem mt_append : MtM X "list.append" rAppend := by
  intro pins s σ H x vs v us Q I rx rv h
  obtain ⟨l, xs, y, rfl, rfl, hH, hz, q⟩ := h
  cases rx
  obtain ⟨u, rfl, ru⟩ := rv.one
  obtain ⟨z, its, n, r, hl, e⟩ := I.lstM hH
  refine call_meets F.slot_list_append ⟨_, e, rfl⟩ F.entry_list_append (F.args_list_append_2 _ _) (PySem.list_append l its.toArray n u (by rw [List.size_toArray]; omega)) ⟨e, ?_⟩
  refine ⟨.non, _, I.lset (its' := its ++ [u]) hH e (by simp) (r.append (.cons ru .nil)) ?_, rfl, q⟩
  rw [List.length_append, List.length_singleton]
  omega

noncomputable def rExtend : V → List V → Hp → VK → Prop := fun x vs H Q => ∃ l b xs zs, x = .ref l ∧ vs = [.ref b] ∧ H l = some (.lst xs) ∧ H b = some (.lst zs) ∧ xs.length + zs.length ≤ sizeLine ∧ Q .non (upd H l (.lst (xs ++ zs)))
theorem mt_extend : MtM X "list.extend" rExtend := by
  intro pins s σ H x vs v us Q I rx rv h
  obtain ⟨l, b, xs, zs, rfl, rfl, hH, hB, hz, q⟩ := h
  cases rx
  obtain ⟨u, rfl, ru⟩ := rv.one
  cases ru
  obtain ⟨z, its, n, r, hl, e⟩ := I.lstM hH
  obtain ⟨z2, its2, n2, r2, hl2, e2⟩ := I.lstM hB
  have hsz : its.toArray.size + its2.toArray.size ≤ sizeLine := by rw [List.size_toArray, List.size_toArray]; omega
  have hlong : ¬ (!its.toArray.isEmpty && Builtin.List.listTooLong (its.toArray.size + its2.toArray.size)) = true := by
    rw [notLongL hsz, Bool.and_false]
    exact Bool.false_ne_true
  refine call_meets F.slot_list_extend ⟨_, e, rfl⟩ F.entry_list_extend (F.args_list_extend_2 _ _)
    (AutoSeq1.list_extend_list_list_0 l its.toArray n b its2.toArray n2 hlong (by rw [List.size_toArray]; omega) (by omega)) ⟨e, e2, ?_⟩
  refine ⟨.non, _, I.lset (its' := its ++ its2) hH e (by simp) (r.append r2) ?_, rfl, q⟩
  rw [List.length_append]
  omega





/-! ### list + list, list += list, list * int -/
noncomputable def rCat : R2 := fun x y H Q => ∃ l b xs zs, x = .ref l ∧ y = .ref b ∧ H l = some (.lst xs) ∧ H b = some (.lst zs) ∧ xs.length + zs.length ≤ sizeLine ∧ ∀ p, H p = none → Q (.ref p) (upd H p (.lst (xs ++ zs)))
theorem op_cat : OpR X (binaryOp .Add) rCat := by
  intro pins s σ H x y v u Q I rx ry h
  obtain ⟨l, b, xs, zs, rfl, rfl, hH, hB, hz, q⟩ := h
  cases rx
  cases ry
  obtain ⟨z, its, n, r, hl, e⟩ := I.lstM hH
  obtain ⟨z2, its2, n2, r2, hl2, e2⟩ := I.lstM hB
  refine PySem.P.add_list e e2 ?_ (by rw [List.size_toArray, List.size_toArray]; omega)
  have ea : its.toArray ++ its2.toArray = (its ++ its2).toArray := by simp
  rw [ea]
  exact ⟨.ref _, _, I.lnew (t' := s.toks) (r.append r2) (by rw [List.length_append]; omega), rfl, q _ I.fresh⟩
/-- a list times an int (a negative one is nothing) -/
noncomputable def rRep : R2 := fun x y H Q => ∃ l k xs, x = .ref l ∧ y = .int k ∧ H l = some (.lst xs) ∧ -(2 ^ 63) ≤ k ∧ k < 2 ^ 63 ∧ xs.length * k.toNat ≤ sizeLine ∧
  ∀ p, H p = none → Q (.ref p) (upd H p (.lst (List.replicate k.toNat xs).flatten))
theorem len_rep {α : Type} (xs : List α) (k : Nat) : (List.replicate k xs).flatten.length = k * xs.length := by
  induction k with
  | zero => simp
  | succ k ih => rw [List.replicate_succ, List.flatten_cons, List.length_append, ih, Nat.succ_mul, Nat.add_comm]
theorem op_rep : OpR X (binaryOp .Mult) rRep := by
  intro pins s σ H x y v u Q I rx ry h
  obtain ⟨l, k, xs, rfl, rfl, hH, h1, h2, hz, q⟩ := h
  cases rx
  obtain ⟨t, rfl⟩ := ry
  obtain ⟨z, its, n, r, hl, e⟩ := I.lstM hH
  have hlen : its.toArray.size * k.toNat ≤ sizeLine := by rw [List.size_toArray, ← hl]; exact hz
  have hcap : ¬ its.toArray.size * k.toNat > (2 ^ 63 - 1) / 8 := by
    have : (sizeLine : Nat) ≤ (2 ^ 63 - 1) / 8 := by decide
    omega
  have hfit : ¬ (!Builtin.List.listFitsIndex k) = true := by
    rw [fitsIndex_both h1 h2]
    exact Bool.false_ne_true
  have hlong : ¬ Builtin.List.listTooLong (its.toArray.size * k.toNat) = true := by
    rw [notLongL hlen]
    exact Bool.false_ne_true
  have hnew : List.foldl (fun x1 x2 => x1 ++ x2) #[] (List.replicate (if its.toArray.isEmpty = true then 0 else k.toNat) its.toArray) = (List.replicate k.toNat its).flatten.toArray := by
    have f0 : ∀ m : Nat, List.foldl (fun x1 x2 => x1 ++ x2) #[] (List.replicate m its.toArray) = (List.replicate m its).flatten.toArray := fun m => by
      have := foldl_rep its m []
      rw [List.nil_append] at this
      exact this
    rw [f0]
    cases its with
    | nil => simp
    | cons a r' => rw [if_neg (by simp)]
  refine wpAny_binaryOp_repeat_ref (T := "list") (U := "int") (by decide) ⟨_, e, rfl⟩ (fun s' => typeIs_int s' k t) noFill_list_mul F.fills_int_mul F.slot_int_rmul repeat_list F.slot_int_index.lookup
    (call_meets F.slot_int_rmul (typeIs_int s k t) F.entry_int_rmul (F.args_int_rmul_2 _ _) (int___rmul___int_list k t l its.toArray n)
      ⟨e, rfl, ⟨_, e, rfl⟩, call_meets F.slot_list_mul ⟨_, e, rfl⟩ F.entry_list_mul (F.args_list_mul_2 _ _) (AutoListH.list___mul___list_int_3 l its.toArray n k t hfit hcap hlong) ⟨e, ?_⟩⟩)
  rw [hnew]
  exact ⟨.ref _, _, I.lnew (t' := s.toks) (r.rep k.toNat) (by rw [len_rep, Nat.mul_comm]; exact hz), rfl, q _ I.fresh⟩

/-! ### del xs[i] -/
end

/-! ### xs[a:b] = ys -/
section
variable {prog : Program} {w : World} {A : Around} {E : Value → Shared → Prop} {s : Shared}
set_option maxRecDepth 100000 in
end

section
variable {X : Cx}
end
end L2


namespace L2
open PySem PySem.Spec PyProof.Rows

/-! ### lists of pairs as tables -/
section
variable {κ : Type} [DecidableEq κ]
noncomputable def valV (kvs : List (κ × V)) (k : κ) : Option V := (kvs.find? fun kv => decide (kv.1 = k)).map (·.2)
/-- in its place, or at the end -/
noncomputable def putK (kvs : List (κ × V)) (k : κ) (v : V) : List (κ × V) :=
  if (kvs.any fun kv => decide (kv.1 = k)) = true then kvs.map (fun kv => if kv.1 = k then (kv.1, v) else kv) else kvs ++ [(k, v)]
noncomputable def dropK (kvs : List (κ × V)) (k : κ) : List (κ × V) := kvs.filter fun kv => decide (kv.1 ≠ k)

theorem valV_nil {k : κ} : valV ([] : List (κ × V)) k = none := rfl
theorem valV_pos {p : κ × V} {r : List (κ × V)} {k : κ} (e : p.1 = k) : valV (p :: r) k = some p.2 := by simp [valV, List.find?_cons, e]
theorem valV_neg {p : κ × V} {r : List (κ × V)} {k : κ} (e : ¬ p.1 = k) : valV (p :: r) k = valV r k := by simp [valV, List.find?_cons, e]
theorem valV_any (k : κ) : ∀ kvs : List (κ × V), (kvs.any fun kv => decide (kv.1 = k)) = (valV kvs k).isSome
  | [] => rfl
  | p :: r => by
    rw [List.any_cons]
    by_cases e : p.1 = k
    · simp only [valV_pos e, decide_eq_true e, Bool.true_or, Option.isSome_some]
    · rw [valV_neg e, decide_eq_false e, Bool.false_or]; exact valV_any k r
theorem valV_map (k j : κ) (y : V) : ∀ kvs : List (κ × V), valV (kvs.map fun kv => if kv.1 = k then (kv.1, y) else kv) j = (valV kvs j).map fun x => if j = k then y else x
  | [] => rfl
  | p :: r => by
    have ih := valV_map k j y r
    rw [List.map_cons]
    by_cases h : p.1 = k
    · rw [if_pos h]
      by_cases e : p.1 = j
      · rw [valV_pos (p := (p.1, y)) e, valV_pos e, Option.map_some, if_pos (e.symm.trans h)]
      · rw [valV_neg (p := (p.1, y)) e, valV_neg e, ih]
    · rw [if_neg h]
      by_cases e : p.1 = j
      · rw [valV_pos (p := p) e, valV_pos e, Option.map_some, if_neg (fun z => h (e.trans z))]
      · rw [valV_neg (p := p) e, valV_neg e, ih]
theorem valV_snoc (k j : κ) (y : V) : ∀ kvs : List (κ × V), valV kvs k = none → valV (kvs ++ [(k, y)]) j = if j = k then some y else valV kvs j
  | [], _ => by
    by_cases e : k = j
    · rw [if_pos e.symm]; exact valV_pos (p := (k, y)) e
    · rw [if_neg (fun z => e z.symm)]; exact valV_neg (p := (k, y)) e
  | p :: r, hn => by
    rw [List.cons_append]
    have hk : ¬ p.1 = k := fun z => by rw [valV_pos z] at hn; cases hn
    rw [valV_neg hk] at hn
    have ih := valV_snoc k j y r hn
    by_cases e : p.1 = j
    · rw [valV_pos e, valV_pos e, if_neg (fun z => hk (e.trans z))]
    · rw [valV_neg e, valV_neg e, ih]
theorem valV_put (kvs : List (κ × V)) (k j : κ) (y : V) : valV (putK kvs k y) j = if j = k then some y else valV kvs j := by
  unfold putK
  by_cases a : (kvs.any fun kv => decide (kv.1 = k)) = true
  · rw [if_pos a, valV_map]
    rw [valV_any] at a
    by_cases e : j = k
    · obtain ⟨x, hx⟩ := Option.isSome_iff_exists.mp a
      rw [if_pos e, e, hx, Option.map_some, if_pos rfl]
    · rw [if_neg e]
      cases valV kvs j with
      | none => rfl
      | some x => rw [Option.map_some, if_neg e]
  · rw [if_neg a]
    refine valV_snoc k j y kvs ?_
    rw [valV_any] at a
    cases q : valV kvs k with
    | none => rfl
    | some x => rw [q] at a; exact (a rfl).elim
theorem length_putK (kvs : List (κ × V)) (k : κ) (v : V) : (putK kvs k v).length ≤ kvs.length + 1 := by
  unfold putK
  split
  · rw [List.length_map]; omega
  · rw [List.length_append, List.length_cons, List.length_nil]; omega

theorem RelO.isSome_eq {o : Option V} {u : Option Value} (r : RelO o u) : o.isSome = u.isSome := by
  cases o with
  | none => cases u with
    | none => rfl
    | some _ => exact (show False from r).elim
  | some _ => cases u with
    | none => exact (show False from r).elim
    | some _ => rfl
theorem RelO.getD {o : Option V} {u : Option Value} {d : V} {d' : Value} (r : RelO o u) (rd : RelV d d') : RelV (o.getD d) (u.getD d') := by
  cases o with
  | none => cases u with
    | none => exact rd
    | some _ => exact (show False from r).elim
  | some _ => cases u with
    | none => exact (show False from r).elim
    | some _ => exact r

/-- raw tables of the same keys -/
theorem KV.val {kvs : List (κ × V)} {vs : List (κ × Value)} (r : KV kvs vs) (k : κ) : RelO (valV kvs k) (valueAt vs k) := by
  unfold KV at r
  induction r with
  | nil => exact True.intro
  | @cons p q ps qs h t ih =>
    obtain ⟨h1, h2⟩ := h
    by_cases e : p.1 = k
    · have e' : q.1 = k := h1.symm.trans e
      have b : valueAt (q :: qs) k = some q.2 := by simp [valueAt, List.find?_cons, e']
      rw [valV_pos e, b]; exact h2
    · have e' : ¬ q.1 = k := fun z => e (h1.trans z)
      have b : valueAt (q :: qs) k = valueAt qs k := by simp [valueAt, List.find?_cons, e']
      rw [valV_neg e, b]; exact ih
theorem KV.any {kvs : List (κ × V)} {vs : List (κ × Value)} (r : KV kvs vs) (k : κ) : (kvs.any fun kv => decide (kv.1 = k)) = vs.any fun kv => decide (kv.1 = k) := by
  unfold KV at r
  induction r with
  | nil => rfl
  | cons h t ih => rw [List.any_cons, List.any_cons, ih, h.1]
theorem KV.repl {kvs : List (κ × V)} {vs : List (κ × Value)} (r : KV kvs vs) (k : κ) {y : V} {u : Value} (ry : RelV y u) :
    KV (kvs.map fun kv => if kv.1 = k then (kv.1, y) else kv) (vs.map fun kv => if kv.1 = k then (kv.1, u) else kv) := by
  unfold KV at r ⊢
  induction r with
  | nil => exact .nil
  | @cons p q ps qs h t ih =>
    rw [List.map_cons, List.map_cons]
    refine .cons ?_ ih
    obtain ⟨h1, h2⟩ := h
    by_cases e : p.1 = k
    · rw [if_pos e, if_pos (h1.symm.trans e)]; exact ⟨h1, ry⟩
    · rw [if_neg e, if_neg (fun z => e (h1.trans z))]; exact ⟨h1, h2⟩
theorem KV.put {kvs : List (κ × V)} {vs : List (κ × Value)} (r : KV kvs vs) (k : κ) {y : V} {u : Value} (ry : RelV y u) : KV (putK kvs k y) (stored vs k u) := by
  unfold putK stored
  rw [r.any k]
  by_cases e : (vs.any fun kv => decide (kv.1 = k)) = true
  · rw [if_pos e, if_pos e]; exact r.repl k ry
  · rw [if_neg e, if_neg e]; exact Paired.snoc r ⟨rfl, ry⟩
theorem KV.drop {kvs : List (κ × V)} {vs : List (κ × Value)} (r : KV kvs vs) (k : κ) : KV (dropK kvs k) (without vs k) := by
  unfold KV at r ⊢
  unfold dropK without
  induction r with
  | nil => exact .nil
  | @cons p q ps qs h t ih =>
    obtain ⟨h1, h2⟩ := h
    rw [List.filter_cons, List.filter_cons]
    by_cases e : p.1 = k
    · have a : ¬ decide (p.1 ≠ k) = true := by simp [e]
      have b : ¬ decide (q.1 ≠ k) = true := by simp [h1.symm.trans e]
      rw [if_neg a, if_neg b]; exact ih
    · have e' : ¬ q.1 = k := fun z => e (h1.trans z)
      have a : decide (p.1 ≠ k) = true := by simp [e]
      have b : decide (q.1 ≠ k) = true := by simp [e']
      rw [if_pos a, if_pos b]; exact .cons ⟨h1, h2⟩ ih
theorem KV.keys {kvs : List (κ × V)} {vs : List (κ × Value)} (r : KV kvs vs) : kvs.map (·.1) = vs.map (·.1) := by
  unfold KV at r
  induction r with
  | nil => rfl
  | cons h t ih => rw [List.map_cons, List.map_cons, ih, h.1]
theorem KV.length {kvs : List (κ × V)} {vs : List (κ × Value)} (r : KV kvs vs) : kvs.length = vs.length := Paired.length r
end


/-! ### a tracked dict, its keys ints and texts or tuples of these -/
theorem kV_is {P : Program} {w : World} {k : Key} {u : Value} (r : RelV (kV k) u) : (mixKind P w).is k u = true := by
  cases k with
  | inl i => obtain ⟨t, e⟩ := (show ∃ t, u = Value.int i t from r); subst e; exact mixKind_int P w i t
  | inr x => obtain ⟨t, e⟩ := (show ∃ t, u = Value.str x t from r); subst e; exact mixKind_str P w x t
theorem items_are {P : Program} {w : World} : ∀ {ks : List Key} {us : List Value}, Vals (ks.map kV) us → ItemsAre (mixKind P w) ks us
  | [], _, r => by rw [List.map_nil] at r; cases r; exact .nil
  | k :: ks, _, r => by
    rw [List.map_cons] at r
    cases r with
    | cons h t => exact .cons (kV_is h) (items_are t)

/-- raw entries of a dict with tuple keys -/
noncomputable abbrev KT (H : Hp) : List (List Key × V) → List (List Key × Addr × Value) → Prop := Paired fun p q => p.1 = q.1 ∧ H q.2.1 = some (.tup (p.1.map kV)) ∧ RelV p.2 q.2.2
theorem KT.val {H : Hp} {kvs : List (List Key × V)} {xs : List (List Key × Addr × Value)} (r : KT H kvs xs) (k : List Key) : RelO (valV kvs k) ((atKey xs k).map (·.2)) := by
  induction r with
  | nil => exact True.intro
  | @cons p q ps qs h t ih =>
    obtain ⟨h1, _, h2⟩ := h
    by_cases e : p.1 = k
    · have e' : q.1 = k := h1.symm.trans e
      have b : atKey (q :: qs) k = some q.2 := by simp [atKey, List.find?_cons, e']
      rw [valV_pos e, b]; exact h2
    · have e' : ¬ q.1 = k := fun z => e (h1.trans z)
      have b : atKey (q :: qs) k = atKey qs k := by simp [atKey, List.find?_cons, e']
      rw [valV_neg e, b]; exact ih
theorem KT.repl {H : Hp} {kvs : List (List Key × V)} {xs : List (List Key × Addr × Value)} (r : KT H kvs xs) (k : List Key) {y : V} {u : Value} (ry : RelV y u) :
    KT H (kvs.map fun kv => if kv.1 = k then (kv.1, y) else kv) (xs.map (putAt k u)) := by
  induction r with
  | nil => exact .nil
  | @cons p q ps qs h t ih =>
    rw [List.map_cons, List.map_cons]
    refine .cons ?_ ih
    obtain ⟨h1, h2, h3⟩ := h
    unfold putAt
    by_cases e : p.1 = k
    · rw [if_pos e, if_pos (h1.symm.trans e)]; exact ⟨h1, h2, ry⟩
    · rw [if_neg e, if_neg (fun z => e (h1.trans z))]; exact ⟨h1, h2, h3⟩
theorem KT.put {H : Hp} {kvs : List (List Key × V)} {xs : List (List Key × Addr × Value)} (r : KT H kvs xs) (k : List Key) {b : Addr} {y : V} {u : Value} (hb : H b = some (.tup (k.map kV))) (ry : RelV y u) :
    KT H (putK kvs k y) (storedH xs k b u) := by
  have e : (kvs.any fun kv => decide (kv.1 = k)) = (atKey xs k).isSome := by
    rw [valV_any, (r.val k).isSome_eq, Option.isSome_map]
  unfold putK storedH
  rw [e]
  by_cases q : (atKey xs k).isSome = true
  · rw [if_pos q, if_pos q]; exact r.repl k ry
  · rw [if_neg q, if_neg q]; exact Paired.snoc r ⟨rfl, hb, ry⟩
theorem KT.keeps {H H' : Hp} {kvs : List (List Key × V)} {xs : List (List Key × Addr × Value)} (r : KT H kvs xs) (ht : ∀ b ys, H b = some (.tup ys) → H' b = some (.tup ys)) : KT H' kvs xs :=
  Paired.mapP r fun _ _ z => ⟨z.1, ht _ _ z.2.1, z.2.2⟩

section
variable {P : Program} {w : World} {H : Hp} {h : Heap} {a : Addr}
theorem rd_of {u : HO} (ok : HOk P w H h) (e : Rd H a u) : ObjOk P w H h a u := e.ok ok
theorem dk_rd {kvs : List (Key × V)} (ok : HOk P w H h) (e : Rd H a (.dK kvs)) : kvs.length ≤ sizeLine ∧ (a == sysModules) = false ∧ ∃ vs, KV kvs vs ∧ h.DictOf (mixKind P w) a vs :=
  show ObjOk P w H h a (.dK kvs) from rd_of ok e
theorem dk_of {kvs : List (Key × V)} (ok : HOk P w H h) (e : H a = some (.dK kvs)) : kvs.length ≤ sizeLine ∧ (a == sysModules) = false ∧ ∃ vs, KV kvs vs ∧ h.DictOf (mixKind P w) a vs := dk_rd ok (.inl e)
/-- a tracked tuple of ints and texts is a key -/
theorem key_of {ks : List Key} (ok : HOk P w H h) (e : H a = some (.tup (ks.map kV))) : (tupleKind (mixKind P w)).is h ks a := by
  obtain ⟨_, its, r, o, h1, h2, n, h3⟩ := (show ObjOk P w H h a (.tup (ks.map kV)) from ok a _ e)
  exact ⟨o, its.toArray, n, h1, h2, h3, by simpa using items_are r⟩
theorem dt_rd {kvs : List (List Key × V)} (ok : HOk P w H h) (e : Rd H a (.dT kvs)) : kvs.length ≤ sizeLine ∧ (a == sysModules) = false ∧
    ∃ xs, KT H kvs xs ∧ h.DictOfH (tupleKind (mixKind P w)) a xs := by
  obtain ⟨z, y, xs, r, o, es, ep, h1, h2, h3, h4, h5⟩ := (show ObjOk P w H h a (.dT kvs) from rd_of ok e)
  refine ⟨z, y, xs, r, o, es, ep, h1, h2, h3, h4, fun x hx => ?_, h5⟩
  have all : ∀ {l : List (List Key × V)} {m : List (List Key × Addr × Value)}, KT H l m → ∀ x ∈ m, (tupleKind (mixKind P w)).is h x.1 x.2.1 := by
    intro l m q
    induction q with
    | nil => intro x hx; exact nomatch hx
    | @cons p q ps qs hq t ih =>
      intro x hx
      rcases List.mem_cons.mp hx with e | hx
      · subst e
        exact key_of ok (by rw [← hq.1]; exact hq.2.1)
      · exact ih x hx
  exact all r x hx
theorem dt_of {kvs : List (List Key × V)} (ok : HOk P w H h) (e : H a = some (.dT kvs)) : kvs.length ≤ sizeLine ∧ (a == sysModules) = false ∧
    ∃ xs, KT H kvs xs ∧ h.DictOfH (tupleKind (mixKind P w)) a xs := dt_rd ok (.inl e)
end

/-- what the dict at a holds at the key y -/
noncomputable def DGet (H : Hp) (a : Addr) (y : V) (r : Option V) : Prop :=
  (∃ kvs k, Rd H a (.dK kvs) ∧ y = kV k ∧ r = valV kvs k) ∨ ∃ kvs k b, Rd H a (.dT kvs) ∧ y = .ref b ∧ H b = some (.tup (k.map kV)) ∧ r = valV kvs k
/-- the heap behind a[y] = v -/
noncomputable def DPut (H : Hp) (a : Addr) (y v : V) (H' : Hp) : Prop :=
  (∃ kvs k, H a = some (.dK kvs) ∧ y = kV k ∧ kvs.length < sizeLine ∧ H' = upd H a (.dK (putK kvs k v))) ∨
  ∃ kvs k b, H a = some (.dT kvs) ∧ y = .ref b ∧ H b = some (.tup (k.map kV)) ∧ kvs.length < sizeLine ∧ H' = upd H a (.dT (putK kvs k v))
theorem DGet.k {H : Hp} {a : Addr} {kvs : List (Key × V)} {k : Key} (e : H a = some (.dK kvs)) : DGet H a (kV k) (valV kvs k) := .inl ⟨kvs, k, .inl e, rfl, rfl⟩
theorem DGet.t {H : Hp} {a b : Addr} {kvs : List (List Key × V)} {k : List Key} (e : H a = some (.dT kvs)) (eb : H b = some (.tup (k.map kV))) : DGet H a (.ref b) (valV kvs k) := .inr ⟨kvs, k, b, .inl e, rfl, eb, rfl⟩
theorem DPut.k {H : Hp} {a : Addr} {kvs : List (Key × V)} {k : Key} {v : V} (e : H a = some (.dK kvs)) (hl : kvs.length < sizeLine) : DPut H a (kV k) v (upd H a (.dK (putK kvs k v))) := .inl ⟨kvs, k, e, rfl, hl, rfl⟩
theorem DPut.t {H : Hp} {a b : Addr} {kvs : List (List Key × V)} {k : List Key} {v : V} (e : H a = some (.dT kvs)) (eb : H b = some (.tup (k.map kV))) (hl : kvs.length < sizeLine) :
    DPut H a (.ref b) v (upd H a (.dT (putK kvs k v))) := .inr ⟨kvs, k, b, e, rfl, eb, hl, rfl⟩


section
variable {X : Cx} {pins : List (Addr × Obj)} {σ : St} {H : Hp} {s : Shared} {a : Addr} {y v : V} {u r : Value} {o : Option V} {A : Around} {E : Value → Shared → Prop}

theorem Inv.big (I : Inv X pins σ H s) : sysModules < s.heap.objs.size := by
  have h : mainGlobals < s.heap.objs.size := (I.mod.glob.keeps I.bk).lt
  exact Nat.lt_trans (by decide) h

/-- y in d -/
theorem d_in {Q : Value → Shared → Prop} (hu : A.units + 1 < cLine) (I : Inv X pins σ H s) (g : DGet H a y o) (ry : RelV y u) (h : ∀ s', Inv X pins σ H s' → Q (.bool o.isSome) s') :
    wpAny (model X.prog X.w) A (compareOp .In u (.ref a)) Q E s := by
  rcases g with ⟨kvs, k, e, ey, l⟩ | ⟨kvs, k, b, e, ey, eb, l⟩
  · subst ey
    obtain ⟨z, hd, vs, rel, dd⟩ := dk_rd I.hok e
    refine wpAny_in_of (kV_is ry) hd dd.mapOf ?_
    rw [← (rel.val k).isSome_eq, ← l]
    exact h _ (I.tok _)
  · subst ey
    cases (show u = Value.ref b from ry)
    obtain ⟨z, hd, xs, rel, dd⟩ := dt_rd I.hok e
    refine wpAny_in_heap (tupleKind_room_in1 hu) (key_of I.hok eb) hd dd ?_
    have q := (rel.val k).isSome_eq
    rw [Option.isSome_map] at q
    rw [← q, ← l]
    exact h _ (I.tok _)
/-- a dict's object is replaced -/
theorem d_write {h' : Heap} {t' : Nat} {ob : HO} (I : Inv X pins σ H s) (mu : Mut (H a)) (hs : Heap.SameBut a s.heap h') (he : ∃ q, h'.get? a = some q) (new : ObjOk X.prog X.w (upd H a ob) h' a ob) :
    Inv X pins σ (upd H a ob) { s with heap := h', toks := t' } :=
  I.write (x := a) (e := a) mu (.inl rfl) (fun b q hb z => (hs.2 b hb).trans z) he new
theorem dk_new {P : Program} {w : World} {H' : Hp} {h' : Heap} {kvs : List (Key × V)} {vs : List (Key × Value)} (z : kvs.length ≤ sizeLine) (hd : (a == sysModules) = false) (rel : KV kvs vs) (dd : h'.DictOf (mixKind P w) a vs) :
    ObjOk P w H' h' a (.dK kvs) := ⟨z, hd, vs, rel, dd⟩
/-- d[y] = v -/
theorem d_setItem {H' : Hp} {Q : Unit → Shared → Prop} (hu : A.units + 1 < cLine) (I : Inv X pins σ H s) (g : DPut H a y v H') (ry : RelV y u) (rv : RelV v r) (h : ∀ s', Inv X pins σ H' s' → Q () s') :
    wpAny (model X.prog X.w) A (setItem (.ref a) u r) Q E s := by
  rcases g with ⟨kvs, k, e, ey, l, eH⟩ | ⟨kvs, k, b, e, ey, eb, l, eH⟩
  · subst ey eH
    obtain ⟨z, hd, vs, rel, dd⟩ := dk_of I.hok e
    have hz : vs.length ≤ sizeLine := by rw [← rel.length]; exact z
    have hl : (putK kvs k v).length ≤ sizeLine := by have := length_putK kvs k v; omega
    refine wpAny_setItem_pairs (hsz := hz) (kV_is ry) dd fun h' dd' hs => h _ ?_
    have he : ∃ q, h'.get? a = some q := let ⟨q, _, _, hq, _⟩ := dd'; ⟨q, hq⟩
    exact d_write I (by rw [e]; exact True.intro) hs he (dk_new hl hd (rel.put k rv) dd')
  · subst ey eH
    cases (show u = Value.ref b from ry)
    obtain ⟨z, hd, xs, rel, dd⟩ := dt_of I.hok e
    have hz : xs.length ≤ sizeLine := by rw [← Paired.length rel]; exact z
    have hl : (putK kvs k v).length ≤ sizeLine := by have := length_putK kvs k v; omega
    refine wpAny_setItem_heap (hsz := hz) (tupleKind_room_in1 hu) (key_of I.hok eb) dd fun h' dd' hs => h _ ?_
    obtain ⟨q, es, ep, hq, h2, h3, h4, _, h5⟩ := dd'
    refine d_write I (by rw [e]; exact True.intro) hs ⟨q, hq⟩ ⟨hl, hd, _, (rel.put k eb rv).keeps fun c ys ec => ?_, q, es, ep, hq, h2, h3, h4, h5⟩
    rw [upd_ne (ne_of ec e (fun z => nomatch z))]
    exact ec
end

section
variable {X : Cx} {pins : List (Addr × Obj)} {σ : St} {H : Hp} {s : Shared} {a : Addr} {kvs : List (Key × V)} {k : Key} {u : Value} {A : Around} {E : Value → Shared → Prop}
end


/-! ### readings and rules -/


/-- y in d, y not in d -/
noncomputable def tDIn (ty td : TE) : TE := fun σ H Q => ty σ H fun y H1 => td σ H1 fun x H2 => ∃ a o, x = .ref a ∧ DGet H2 a y o ∧ Q (.bl o.isSome) H2
/-- d[y] = v -/
noncomputable def sDPut (td ty tv : TE) : TS := fun D σ H => tv σ H fun v H1 => td σ H1 fun x H2 => ty σ H2 fun y H3 => ∃ a H4, x = .ref a ∧ DPut H3 a y v H4 ∧ D.nx σ H4

section
variable {X : Cx} {o i e value : Expr} {pos pos' tpos : Pos} {td ty tv : TE}
theorem pc_din (hu : X.A.units + 1 < cLine) (hi : PE X i ty) (ho : PE X o td) : PC X .In i o (tDIn ty td) := by
  intro pins s σ H Q I h
  refine thn (hi pins s σ H _ I h) fun iv s1 ⟨y, H1, I1, ry, q1⟩ => thn (ho pins s1 σ H1 _ I1 q1) fun u s2 ⟨x, H2, I2, rx, a, ov, ex, g, q2⟩ => ?_
  subst ex
  obtain rfl : u = Value.ref a := rx
  exact d_in hu I2 g ry fun s3 I3 => ⟨.bl ov.isSome, H2, I3, rfl, q2⟩
theorem ps_dput (hu : X.A.units + 1 < cLine) (ho : PE X o td) (hi : PE X i ty) (hv : PE X value tv) (hs : swapsWith value (some (.Subscript o i pos')) pos.line X.env = pure false) :
    PS X (.Assign [.Subscript o i pos'] value pos) (sDPut td ty tv) := by
  intro pins s σ H D I h
  refine wpAny_Assign_Subscript (thn (hv pins s σ H _ I h) fun r s1 ⟨v, H1, I1, rv, q1⟩ => thn (ho pins s1 σ H1 _ I1 q1) fun u s2 ⟨x, H2, I2, rx, q2⟩ => thn (hi pins s2 σ H2 _ I2 q2) fun iv s3 ⟨y, H3, I3, ry, a, H4, ex, g, q3⟩ => ?_) hs
  subst ex
  obtain rfl : u = Value.ref a := rx
  exact d_setItem hu I3 g ry rv fun s4 I4 => ⟨σ, H4, I4, q3⟩
end


/-! ### displays -/
theorem dk_empty {P : Program} {w : World} {H : Hp} (h : Heap) (hb : sysModules < h.objs.size) : ObjOk P w H (h.push { cls := .type "dict", data := .dict #[] }) h.objs.size (.dK []) :=
  ⟨Nat.zero_le _, beq_eq_false_iff_ne.mpr (Ne.symm (Nat.ne_of_lt hb)), [], .nil, Heap.DictOf.new h⟩
/-- {}, to be a dict of the kind that is wanted -/
noncomputable def tDNewK : TE := fun _ H Q => ∀ p, H p = none → Q (.ref p) (upd H p (.dK []))
section
variable {X : Cx} {pos : Pos}
theorem pe_dnewK : PE X (.Dict [] [] pos) tDNewK := fun pins s σ H Q I h =>
  wpAny_Dict_empty ⟨.ref s.heap.objs.size, _, I.laid (a := s.heap.objs.size) (o := .dK []) (t' := s.toks) (fun _ _ q => Heap.get?_push_of_some _ q) (Nat.le_refl _) (dk_empty s.heap I.big), rfl, h _ (I.hok.fresh (Nat.le_refl _))⟩
end


noncomputable def mergeK (kvs more : List (Key × V)) : List (Key × V) := more.foldl (fun acc kv => putK acc kv.1 kv.2) kvs
theorem KV.merge : ∀ {more : List (Key × V)} {rs : List (Key × Value)} {kvs : List (Key × V)} {vs : List (Key × Value)}, KV more rs → KV kvs vs → KV (mergeK kvs more) (merged vs rs) := by
  intro more rs kvs vs r
  unfold KV at r
  induction r generalizing kvs vs with
  | nil => intro q; exact q
  | @cons p q ps qs h t ih =>
    intro r0
    have e : KV (putK kvs p.1 p.2) (stored vs q.1 q.2) := by
      have := r0.put p.1 h.2
      rw [← h.1]; exact this
    exact ih e


/-! ### methods -/
/-- a method call o.m(e) of a built-in, with one argument: what must be seen of the text -/
structure M1 (X : Cx) (o : Expr) (m : Str) (apos : Pos) (e : Expr) (cpos : Pos) : Prop where
  base : attributeBase o m X.env (eval o X.env) = eval o X.env
  few : ((backTo cpos (starEach [e] X.env)).all (fun x => !x.1) && (backToKw cpos (keywordEach [] X.env)).all (fun x => x.1.isSome)
    && decide (([e] : List Expr).length + ([] : List Keyword).length + (if ([] : List Keyword).isEmpty then 0 else 1) < 30)) = true
  line : (apos.endLine == cpos.line) = true
  trees : backTo cpos (starEach [e] X.env) = [(false, eval e X.env)]
structure M2 (X : Cx) (o : Expr) (m : Str) (apos : Pos) (e f : Expr) (cpos : Pos) : Prop where
  base : attributeBase o m X.env (eval o X.env) = eval o X.env
  few : ((backTo cpos (starEach [e, f] X.env)).all (fun x => !x.1) && (backToKw cpos (keywordEach [] X.env)).all (fun x => x.1.isSome)
    && decide (([e, f] : List Expr).length + ([] : List Keyword).length + (if ([] : List Keyword).isEmpty then 0 else 1) < 30)) = true
  line : (apos.endLine == cpos.line) = true
  trees : backTo cpos (starEach [e, f] X.env) = [(false, eval e X.env), (false, eval f X.env)]


section
variable {X : Cx} {pins : List (Addr × Obj)} {σ : St} {H : Hp} {s : Shared} {a : Addr} {y d : V} {u r : Value} {o : Option V} {A : Around} {E : Value → Shared → Prop}
end

section
variable {X : Cx} {o e f : Expr} {apos cpos : Pos} {td ty tx : TE}
end

/-! ### dict(d): a copy -/
section
variable {X : Cx} {pins : List (Addr × Obj)} {σ : St} {H : Hp} {s : Shared} {a : Addr} {kvs : List (Key × V)} {A : Around} {E : Value → Shared → Prop}
end


section
variable {X : Cx} {pins : List (Addr × Obj)} {σ : St} {H : Hp} {s : Shared} {a : Addr} {y : V} {u : Value} {A : Around} {E : Value → Shared → Prop}
end
end L2

namespace Att
open PySem PySem.W PySem.Calls PyProof.Rows

/-! ### the script -/
theorem ints_of_wellAll {P : Params} {h : Heap} : ∀ (ns : List Int) (vs : List Value), WellAll P h vs (ns.map WData.int) → IntsAre vs ns := by
  intro ns
  induction ns with
  | nil =>
    intro vs w
    rw [List.map_nil] at w
    cases w
    exact .nil
  | cons n ns ih =>
    intro vs w
    rw [List.map_cons] at w
    cases w with
    | cons a b =>
      cases a
      exact .cons _ _ (ih _ b)

theorem script_of {l : OpenLaw} {n : Nat} (hn : l.most = some n) {P : Params} {h : Heap} {args : List WData} {vals : List Value}
    (hpre : l.row.toRowW.claim.pre args = true) (hwl : WellAll P h vals args) :
    ∃ a vs ns, vals = [Value.ref a] ∧ args = [WData.list (ns.map WData.int)] ∧ h.get? a = some { cls := .type "list", data := .seq vs.toArray } ∧ IntsAre vs ns ∧ ns.length ≤ n := by
  have hsh : WShape.hasAll [] args [.list .int] = true := (pre_splitW hpre).1
  have hc : l.pre.holds [] { args := args } = true := (pre_splitW hpre).2
  obtain ⟨d, r, rfl, h1, h2⟩ := hasAllW_cons hsh
  obtain rfl := hasAllW_nil h2
  obtain ⟨xs, rfl, h3⟩ := hasW_list h1
  obtain ⟨ns, rfl⟩ := items_int h3
  have hlen : ns.length ≤ n := by
    unfold OpenLaw.pre at hc
    have h4 : (WTm.not (.lt (.lit (.int (n : Int))) (.len (.arg 0)))).holds [] { args := [.list (ns.map .int)] } = true := by
      have h4 := (holds_andW hc).1
      rw [hn] at h4
      exact h4
    have h5 := condW_of h4 (w_not (w_lt w_lit (w_len_list (w_arg rfl))))
    rw [List.length_map] at h5
    refine Nat.le_of_not_lt fun q => ?_
    have q' : (n : Int) < ((ns.length : Nat) : Int) := by omega
    first
      | (rw [decide_eq_true q'] at h5; exact absurd h5 (by decide))
      | (simp at h5; omega)
  cases hwl with
  | cons w1 w2 =>
    cases w2
    cases w1 with
    | list ho hall => exact ⟨_, _, ns, rfl, rfl, ho, ints_of_wellAll ns _ hall, hlen⟩

theorem post_true (l : OpenLaw) (args : List WData) : l.row.toRowW.claim.post args (.bool true) args = true :=
  postW_of (r := l.row.toRowW) (X := (true == true))
    (show WShape.has [] (.bool true) .bool = true by first | rfl | decide | simp [WShape.has, WShape.arms, WShape.armsAll])
    (show (WTm.eq .res (.lit (.bool true))).value [] { args := args, res := some (.bool true), after := args } = some (.bool (true == true)) from w_eq_bool (w_res rfl) w_lit) rfl

/-! ### the attachment: holds_open's last premise (the goal 'hc' behind k_head) from a wpAny of the law's body -/

/-- the same from a codeAny of the CALL (for a layer whose function contracts speak of calls) -/
theorem attach_call {l : OpenLaw} {n : Nat} {q : Program} {loose : List Str} {XP : (Str → Option Value) → Heap → Prop} {YP : World → Heap → Prop} {d : DefRec}
    (hn : l.most = some n) (hdf : d.params.defaults = [])
    (call : ∀ (w : World) (s₀ s₁ : Shared) (mg mb : Str → Option Value) (fa : Addr) (o : Obj) (pm cd doc : Value) (a : Addr) (vs : List Value) (ns : List Int),
      Ground q loose [] XP w s₀ mg mb s₁.heap → YP w s₁.heap →
      s₁.heap.get? fa = some o → o.data = .func (docDef d.name d.params d.body d.scope pm cd doc) → s₁.heap.CodeRec cd d.name → mg d.name = some (.ref fa) →
      s₁.heap.get? a = some { cls := .type "list", data := .seq vs.toArray } → IntsAre vs ns → ns.length ≤ n → s₁.gens = #[] →
      codeAny (model l.prog w) callerA (.call (.ref fa) ⟨[.ref a], []⟩) (fun r s' => r = .ok (.ret (.bool true)) ∧ OldK s₁.heap s'.heap ∧ s'.os = s₁.os ∧ AllBare s'.gens) s₁) :
    WalkO q loose XP YP l.row.toRowW d [] (fun f vs => PySem.call f vs) := by
  intro w s₀ s₁ mg mb G Y fa o pm cd doc dV kV ho hd hcd hD hmg hg args vals as hpre hlay hrd hwl hlo
  obtain rfl : dV = .none := Dflts.none hD hdf
  obtain rfl : kV = .none := Dflts.noKw hD
  obtain ⟨a, vs, ns, rfl, rfl, hobj, hints, hlen⟩ := script_of hn hpre hwl
  refine enter_call (codeAny_mono (call w s₀ s₁ mg mb fa o pm cd doc a vs ns G Y ho (fd_plain hd) hcd hmg hobj hints hlen hg) fun r s' hq => ?_)
  obtain ⟨rfl, h2, h3, h4⟩ := hq
  exact ⟨.inl ⟨.bool true, .bool true, [], rfl, fun _ => rfl, .bool true, post_true l _, fun _ => ⟨List.Pairwise.nil, fun _ hm => (nomatch hm)⟩⟩, h2, h3, h4⟩


/-! ### rules over ANY heap (no ledger) from facts about the written part K: the library's own take a ledger (News) for what they write -/
section
variable {prog : Program} {w : World} {A : Around} {E : Value → Shared → Prop} {s : Shared} {K : Frag}





/-! the whole heap as the ledger: makes every rule that writes through a ledger a rule over any heap -/
noncomputable def ledger (h : Heap) (L d : Addr) : List (Addr × Obj) := (List.range h.objs.size).filterMap fun a => if a = L ∨ a = d then none else (h.get? a).map fun o => (a, o)

end
end Att

namespace L2
open PySem PySem.Spec PyProof.Rows

theorem vals_ints : ∀ {vs : List Value} {ns : List Int}, IntsAre vs ns → Vals (ns.map V.int) vs
  | _, _, .nil => .nil
  | _, _, .cons n t h => .cons ⟨t, rfl⟩ (vals_ints h)

/-- nothing is tracked but the script, known to the object (or it is an object of the module) -/
noncomputable def Only (H : Hp) : Prop := ∀ b, H b = none ∨ ∃ o xs, H b = some (.frz o (.lst xs))

/-- THE HEAD: the law's promise, at the heap behind the top. F, the promise of the law's def, may use that base is part of the heap (so K.In base, base.Ns mainGlobals mg stand in Mod) -/
theorem law_call {P : Program} {w : World} {K : PySem.W.Frag} {mg mb : Str → Option Value} {CX : CXT} {k : Nat} {fa a : Addr} {fd : FuncData} {x : Str} {sp : Sp} {s₁ : Shared} {vs : List Value} {ns : List Int}
    (KX : K.In s₁.heap) (hns : s₁.heap.Ns mainGlobals mg) (hb : s₁.heap.Ns builtinsNs mb) (hbb : ∀ x : Str, x ≠ "__name__" → mb x = bootBuiltins x) (hlim : s₁.heap.NoLimit) (hg : s₁.gens = #[])
    (ha : s₁.heap.get? a = some { cls := .type "list", data := .seq vs.toArray }) (hi : IntsAre vs ns) (hl : ns.length ≤ sizeLine) (hr : Room k callerA)
    (F : ∀ base : Heap, K.In base → base.Ns mainGlobals mg → FnOk P w K mg base CX k fa fd [x] sp) (hbind : ∀ (s : Shared) (u : Value), BindsTo s fd ⟨[u], []⟩ [(x, u)])
    (hsp : ∀ H : Hp, Only H → SqL K H a (ns.map V.int) → sp [.ref a] H (fun v _ => v = .bl true) fun _ _ _ => False)
    (hCX : ∀ H e s', CX [] H s₁ (fun _ _ _ => False) e s' → False) :
    codeAny (model P w) callerA (.call (.ref fa) ⟨[.ref a], []⟩) (fun r s' => r = .ok (.ret (.bool true)) ∧ OldK s₁.heap s'.heap ∧ s'.os = s₁.os ∧ AllBare s'.gens) s₁ := by
  have rv := vals_ints hi
  have lenV := hi.length
  -- from an abstract heap in which nothing but the script may be tracked
  have core : ∀ H : Hp, Only H → SqL K H a (ns.map V.int) → HOk P w H s₁.heap → (∀ b, H b ≠ none → b = a) → (H a ≠ none → K.lookup a = none) →
      codeAny (model P w) callerA (.call (.ref fa) ⟨[.ref a], []⟩) (fun r s' => r = .ok (.ret (.bool true)) ∧ OldK s₁.heap s'.heap ∧ s'.os = s₁.os ∧ AllBare s'.gens) s₁ := by
    intro H hO hS hok hA hK
    have base_of : ∀ {b : Addr} {o : Obj}, s₁.heap.get? b = some o → H b = none → (hidT s₁.heap H).get? b = some o := fun e n => hidT_get e n
    have noA : ∀ {b : Addr} {o : Obj} {es : Array DictEntry} {ep : Nat}, s₁.heap.get? b = some o → o.data = .dict es ep → H b = none := fun {b o es ep} e d => by
      cases q : H b with
      | none => rfl
      | some u =>
        have e' : b = a := hA b (by rw [q]; simp)
        subst e'
        rw [ha] at e; cases e
        have d' : Data.seq vs.toArray _ = Data.dict es ep := d
        cases d'
    have nsK : ∀ {b : Addr} {m : Str → Option Value}, s₁.heap.Ns b m → (hidT s₁.heap H).Ns b m := fun {b m} ⟨o, es, ep, e, d, r⟩ => ⟨o, es, ep, base_of e (noA e d), d, r⟩
    have hKb : K.In (hidT s₁.heap H) := fun b o e => base_of (KX b o e) (by
      cases q : H b with
      | none => rfl
      | some u =>
        have e' : b = a := hA b (by rw [q]; simp)
        subst e'
        rw [hK (by rw [q]; simp)] at e; cases e)
    have hM : Mod K mg (hidT s₁.heap H) := ⟨hKb, nsK hns, ⟨mb, nsK hb, hbb⟩, let ⟨mc, h1, h2⟩ := hlim; ⟨mc, nsK h1, h2⟩⟩
    have e0 : Env0 P w K mg (hidT s₁.heap H) callerA [] s₁ H := ⟨rfl, hM, fun b o e => of_hidT e, Nat.le_of_eq (hidT_size _ _), trivial, fun b hb => absurd (show b ∈ ([] : List Addr) from hb) (by simp), hok, .of_eq hg⟩
    refine codeAny_mono ((F _ hKb (nsK hns)).run callerA [] s₁ H ⟨[.ref a], []⟩ [.ref a] [.ref a] _ _ hr e0 (hbind s₁ (.ref a)) (.cons rfl .nil) (hsp H hO hS)) fun r s' h => ?_
    cases r with
    | error e => exact (hCX H e s' h).elim
    | ok fl =>
      cases fl with
      | next => exact False.elim h
      | brk => exact False.elim h
      | cont => exact False.elim h
      | ret u =>
        obtain ⟨v, H', os, bare, un, hok', r', q⟩ := h
        have q' : v = .bl true := q
        subst q'
        obtain rfl : u = Value.bool true := r'
        refine ⟨rfl, OldK.of_keep fun b o e => ?_, os, bare⟩
        cases q : H b with
        | none => exact un.keep b o e q (by intro z; exact absurd (show b ∈ ([] : List Addr) from z) (by simp)) (by simp)
        | some u =>
          rcases hO b with z | ⟨ob, xs, z⟩
          · rw [q] at z; cases z
          · have z2 := un.frzs b ob _ z
            obtain ⟨e1, _⟩ := hok b _ z
            obtain ⟨e2, _⟩ := hok' b _ z2
            rw [e] at e1; cases e1
            exact e2
  cases hk : K.lookup a with
  | some o =>
    -- the script is one of the module's own objects
    have e := KX a o hk
    rw [ha] at e
    cases e
    refine core (fun _ => none) (fun _ => .inl rfl) (.inr ⟨_, vs.toArray, _, hk, rfl, rfl, rfl, by rw [List.size_toArray, lenV]; exact hl, by simpa using rv⟩) (fun b u z => by have z' : (none : Option HO) = some u := z; cases z') (fun b z => absurd rfl z) fun z => absurd rfl z
  | none =>
    refine core (fun b => if b = a then some (.frz { cls := .type "list", data := .seq vs.toArray } (.lst (ns.map V.int))) else none) (fun b => ?_) (.inl (.inr ⟨{ cls := .type "list", data := .seq vs.toArray }, if_pos rfl⟩)) (fun b u z => ?_) (fun b z => ?_) fun _ => hk
    · by_cases hb : b = a
      · exact .inr ⟨_, _, if_pos hb⟩
      · exact .inl (if_neg hb)
    · by_cases hb : b = a
      · have z' := (if_pos hb).symm.trans z
        cases z'
        subst hb
        exact ⟨ha, by rw [List.length_map]; exact hl, vs, _, rv, ha⟩
      · have z' := (if_neg hb).symm.trans z
        cases z'
    · by_cases hb : b = a
      · exact hb
      · exact absurd (if_neg hb) z
end L2

namespace L2
open PySem PySem.Spec PyProof.Rows

noncomputable abbrev KOf {K : PySem.W.Frag} {h : Heap} (_ : K.In h) : PySem.W.Frag := K

/-- the goal that k_head leaves (case hc), from the law's promise. F gives the function object fd (K's own) once, then the promise over every base -/
theorem walk_of {l : PySem.W.OpenLaw} {n k : Nat} {q : Program} {loose : List Str} {XP : (Str → Option Value) → Heap → Prop} {YP : World → Heap → Prop} {d : DefRec} {K : Params → PySem.W.Frag} {CX : World → CXT} {sp : World → Sp} {x : Str}
    (hn : l.most = some n) (hn2 : n ≤ sizeLine) (hdf : d.params.defaults = []) (hr : Room k callerA)
    (hY : ∀ (w : World) (h : Heap), YP w h → (K w.params).In h)
    (F : ∀ (w : World) (mg : Str → Option Value) (fa : Addr) (h : Heap), (K w.params).In h → h.Ns mainGlobals mg → mg d.name = some (.ref fa) →
      ∃ fd : FuncData, (∀ (s : Shared) (u : Value), BindsTo s fd ⟨[u], []⟩ [(x, u)]) ∧
        ∀ base : Heap, (K w.params).In base → base.Ns mainGlobals mg → FnOk l.prog w (K w.params) mg base (CX w) k fa fd [x] (sp w))
    (hsp : ∀ (w : World) (H : Hp) (a : Addr) (ns : List Int), ns.length ≤ n → Only H → SqL (K w.params) H a (ns.map V.int) → sp w [.ref a] H (fun v _ => v = .bl true) fun _ _ _ => False)
    (hCX : ∀ (w : World) (H : Hp) (s : Shared) (e : Value) (s' : Shared), CX w [] H s (fun _ _ _ => False) e s' → False) :
    PySem.W.WalkO q loose XP YP l.row.toRowW d [] (fun f vs => PySem.call f vs) := by
  refine Att.attach_call hn hdf fun w s₀ s₁ mg mb fa o pm cd doc a vs ns G Y ho hd hcd hmg hobj hints hlen hg => ?_
  have KX := hY w _ Y
  obtain ⟨fd, hb, hF⟩ := F w mg fa _ KX G.T.g hmg
  exact law_call KX G.T.g G.T.b G.T.builtins G.T.nolimit hg hobj hints (Nat.le_trans hlen hn2) hr hF hb (fun H hO hS => hsp w H a ns hlen hO hS) fun H e s' => hCX w H s₁ e s'
end L2

/- THE LAST THEOREM (shape; LID, My.* are yours):
   My.Adr: a structure of the addresses that your layer names (classes, functions); My.Txt K t: a structure (Prop) of the equations over K;
   My.txt_mk : {K} {implicit addresses ..} (e1 : nsIn K mainGlobals "law" = some (some (.ref f))) (e2 : K.lookup f = some ⟨oc, od, .func (fnOf "law" "law" params body scope dV kV doc pm an cdv ct), sl⟩) (e3 : codeIn K cdv "law" = true) .. : ∃ t, My.Txt K t

set_option maxRecDepth 100000 in
set_option maxHeartbeats 0 in
theorem PySem.Challenge.cw_LID_holds : PySem.Challenge.rw_LID.Holds := by
  w_on; o_law; k_head; (case hw => w_witness2)
  k_fill
  refine L2.walk_of (l := PySem.Challenge.rw_LID) (n := 63) (k := 40) (x := "script") (CX := fun w => ..) (sp := fun _ => My.sp_law) rfl (by decide) rfl ⟨rfl, by decide, by decide⟩ (fun w h Y => PySem.W.kIn_of Y) ?F ?S ?C
  case F =>
    intro w mg fa h KX G hmg
    have T : ∃ t, My.Txt (L2.KOf KX) t := by
      dsimp only [L2.KOf]                          -- K must stand as «<heap const> w.params» for k_is
      refine' My.txt_mk ?e1 ?e2 ?e3 ..
      (case e1 => PySem.W.k_is)                    -- in the order: a name -> its address -> its object -> its parts
      (case e2 => PySem.W.k_is)
      ..
    obtain ⟨t, T⟩ := T
    have e0 := hmg.symm.trans (PySem.W.mg_of KX G T.law)
    cases e0                                       -- fa is the law's own address
    exact ⟨_, fun s u => .of_eq rfl, fun base kb nb => My.law_fn T kb nb⟩     -- if «.of_eq rfl» comes too early: refine' ⟨_, ?b, fun base kb nb => My.law_fn T kb nb⟩; exact fun s u => .of_eq rfl
  case S => exact fun w H a ns hl hO hS => ..
  case C => exact ..
(the tactic k_is has no namespace: write k_is) -/

/-! SHORT WORDS over the layer: a def of the text, its body, what a loop and a test want. -/
namespace L2
open PySem PySem.Spec PyProof.Rows

/-! ### the text by places -/
noncomputable def defArgs (s : Stmt) : Arguments := match s with
  | .FunctionDef _ a _ _ _ _ _ _ _ _ => a
  | _ => { posonlyargs := [], args := [], vararg := none, kwonlyargs := [], kw_defaults := [], kwarg := none, defaults := [] }
noncomputable def defBody (s : Stmt) : List Stmt := match s with
  | .FunctionDef _ _ b _ _ _ _ _ _ _ => b
  | _ => []
noncomputable def defScope (s : Stmt) : Scope := match s with
  | .FunctionDef _ _ _ _ _ _ sc _ _ _ => sc
  | _ => { kind := .function, names := [], isGenerator := false, isCoroutine := false }

/-! ### no exception leaves a def -/
noncomputable abbrev CX0 : CXT := fun _ _ _ _ _ _ => False
noncomputable abbrev E0 : XK := fun _ _ _ => False
theorem pass0 {X : Cx} : Passes CX0 X E0 := fun _ _ _ _ _ _ _ h => h.elim

/-! ### a def (or method) of the text as it stands behind the top -/
structure Fun (K : PySem.W.Frag) (x qual : Str) (st : Stmt) (f : Addr) (fd : FuncData) : Prop where
  ex : ∃ (oc : Value) (od : Option Addr) (kV doc pm : Value) (an : Option Addr) (cdv ct : Value) (osl : Array (Option Value)),
    fd = PySem.W.fnOf x qual (defArgs st) (defBody st) (defScope st) .none kV doc pm an cdv ct ∧ K.lookup f = some ⟨oc, od, .func fd, osl⟩ ∧ PySem.W.codeIn K cdv qual = true
  kp : PySem.W.keepIn K (.ref f) = true
section
variable {P : Program} {w : World} {K : PySem.W.Frag} {mg : Str → Option Value} {base : Heap}
/-- THE RULE for a def: its body as a term of rules, and the reading of that term -/
theorem Fun.ok {x qual : Str} {st : Stmt} {f : Addr} {fd : FuncData} {N ps : List Str} {k : Nat} {sp : Sp} (F : Fun K x qual st f fd) (S : FnScope N ps (defScope st)) (len : ∀ vs H Q E, sp vs H Q E → vs.length = ps.length)
    (hbody : ∀ (cdv : Value) (A : Around) (outer : List Env) (s : Shared) (H : Hp) (vs : List V) (Q : VK) (E : XK), Room k (A.deeper (envOfC qual (defScope st) s.heap.objs.size f cdv)) → sp vs H Q E →
      ∃ t, PSs (cxOf CX0 P w K mg base N qual (defScope st) f cdv A outer s H E).nox (defBody st) t ∧ t { nx := fun _ H' => Q .non H', rt := Q } (start N vs) H) : FnOk P w K mg base CX0 (k + 1) f fd ps sp := by
  obtain ⟨oc, od, kV, doc, pm, an, cdv, ct, osl, rfl, lk, hcd⟩ := F.ex
  refine fn_of lk hcd S len fun A outer s H vs Q E hr hsp => ?_
  obtain ⟨t, h, q⟩ := hbody cdv A outer s H vs Q E hr hsp
  exact ⟨t, h.nox, q⟩
/-- how its arguments bind (no defaults): h is «fun _ _ _ _ _ _ us hl => match us, hl with | [_, _], _ => rfl», one _ a parameter -/
theorem Fun.binds {x qual : Str} {st : Stmt} {f : Addr} {fd : FuncData} {ps : List Str} (F : Fun K x qual st f fd)
    (h : ∀ (kV doc pm : Value) (an : Option Addr) (cdv ct : Value) (us : List Value), us.length = ps.length → bindArgs (PySem.W.fnOf x qual (defArgs st) (defBody st) (defScope st) .none kV doc pm an cdv ct) ⟨us, []⟩ = pure (ps.zip us)) : Binds K fd ps [] := by
  obtain ⟨oc, od, kV, doc, pm, an, cdv, ct, osl, rfl, lk, hcd⟩ := F.ex
  exact .all (h kV doc pm an cdv ct)
theorem fun_mk {x qual : Str} {st : Stmt} {f : Addr} {oc : Value} {od an : Option Addr} {osl : Array (Option Value)} {kV doc pm cdv ct : Value} (l : K.lookup f = some ⟨oc, od, .func (PySem.W.fnOf x qual (defArgs st) (defBody st) (defScope st) .none kV doc pm an cdv ct), osl⟩)
    (c : PySem.W.codeIn K cdv qual = true) (k : PySem.W.keepIn K (.ref f) = true) : Fun K x qual st f (PySem.W.fnOf x qual (defArgs st) (defBody st) (defScope st) .none kV doc pm an cdv ct) := ⟨⟨oc, od, kV, doc, pm, an, cdv, ct, osl, rfl, l, c⟩, k⟩
end
theorem hu_of {A : Around} {k : Nat} (hr : Room k A) : A.units + 1 < cLine := Nat.lt_of_le_of_lt (Nat.add_le_add_left (by decide : 1 ≤ 64) _) hr.units

/-! ### expressions in short: the name that stands in the i-th slot -/
section
variable {X : Cx}
theorem pv (i : Nat) {x : Str} {pos : Pos} (hN : X.N[i]? = some x := by rfl) (hv : Vis X.env.scope x := by first | exact Or.inl rfl | exact Or.inr (Or.inl rfl) | exact Or.inr (Or.inr rfl)) (hd : (x == ("__debug__" : Str)) = false := by decide)
    (hcd : (x == ("__classdict__" : Str)) = false := by decide) : PE X (.Name x pos) (tVar i) := pe_var hN hv hd hcd
end

/-! ### tests -/
theorem iteF {A B : Prop} (h : B) : if false = true then A else B := by
  rw [if_neg Bool.false_ne_true]
  exact h
theorem iteT {A B : Prop} (h : A) : if true = true then A else B := by
  rw [if_pos rfl]
  exact h
theorem ite2 {c A B : Prop} [Decidable c] (h1 : c → A) (h2 : ¬ c → B) : if c then A else B := by
  by_cases h : c
  · rw [if_pos h]
    exact h1 h
  · rw [if_neg h]
    exact h2 h

/-! ### heaps -/
/-- all that was tracked is as it was -/
noncomputable def Same (H H' : Hp) : Prop := ∀ b o, H b = some o → H' b = some o
theorem Same.refl (H : Hp) : Same H H := fun _ _ h => h
theorem Same.trans {H H1 H2 : Hp} (a : Same H H1) (b : Same H1 H2) : Same H H2 := fun c o h => b c o (a c o h)
theorem Same.free {H H' : Hp} (e : Same H H') {l : Addr} (h : H' l = Option.none) : H l = Option.none := by
  cases q : H l with
  | none => rfl
  | some o =>
    rw [e l o q] at h
    cases h
theorem Same.seq {K : PySem.W.Frag} {H H' : Hp} {a : Addr} {xs : List V} (e : Same H H') (h : SqL K H a xs) : SqL K H' a xs := by
  rcases h with (h | ⟨o, h⟩) | h
  · exact .inl (.inl (e _ _ h))
  · exact .inl (.inr ⟨o, e _ _ h⟩)
  · exact .inr h

/-! ### a dict's pairs: keys that differ -/
section
variable {κ : Type} [DecidableEq κ]
end
end L2


namespace M
/-! names that a cell tells -/
noncomputable def let26 (i : Int) : Nat := 97 + (i % 26).toNat
noncomputable def nmSize (c : Int) (many : Nat) : Nat := 1 + (c / 26 % (if 24 < many then 7 else 8)).toNat
noncomputable def nm (c : Int) (many k : Nat) : List Nat :=
  if c / 1664 % 3 = 0 ∧ many ≤ 8 then List.replicate (1 + ((c + k) % 8).toNat) (let26 c)
  else
    let b := (List.replicate (nmSize c many) (let26 c)).set (c / 208 % nmSize c many).toNat (let26 (c + 1 + (k % 24 : Nat)))
    if 23 < k then b ++ [let26 c] else b
theorem let26_lo (i : Int) : 97 ≤ let26 i := by unfold let26; omega
theorem let26_hi (i : Int) : let26 i ≤ 122 := by unfold let26; omega
theorem nmSize_lo (c : Int) (many : Nat) : 1 ≤ nmSize c many := by unfold nmSize; omega
theorem nmSize_hi (c : Int) (many : Nat) : nmSize c many ≤ 8 ∧ (24 < many → nmSize c many ≤ 7) := by
  unfold nmSize
  split <;> omega
noncomputable def good (l : List Nat) : Prop := 1 ≤ l.length ∧ l.length ≤ 8 ∧ ∀ x ∈ l, 97 ≤ x ∧ x ≤ 122
theorem mem_set_of {α : Type} {l : List α} {i : Nat} {a x : α} (h : x ∈ l.set i a) : x = a ∨ x ∈ l := by
  rcases List.mem_or_eq_of_mem_set h with h | h
  · exact .inr h
  · exact .inl h
theorem nm_good {c : Int} {many k : Nat} (hk : k < many) : good (nm c many k) := by
  have s1 := nmSize_lo c many
  have s2 := nmSize_hi c many
  unfold nm
  split
  · refine ⟨by simp, by simp; omega, fun x hx => ?_⟩
    have e := (List.mem_replicate.mp hx).2
    rw [e]; exact ⟨let26_lo c, let26_hi c⟩
  · have all : ∀ x ∈ (List.replicate (nmSize c many) (let26 c)).set (c / 208 % nmSize c many).toNat (let26 (c + 1 + (k % 24 : Nat))), 97 ≤ x ∧ x ≤ 122 := fun x hx => by
      rcases mem_set_of hx with e | hx
      · rw [e]; exact ⟨let26_lo _, let26_hi _⟩
      · have e := (List.mem_replicate.mp hx).2
        rw [e]; exact ⟨let26_lo c, let26_hi c⟩
    dsimp only
    split
    · refine ⟨by simp, by simp; omega, fun x hx => ?_⟩
      rcases List.mem_append.mp hx with h | h
      · exact all x h
      · have e := List.mem_singleton.mp h
        rw [e]; exact ⟨let26_lo c, let26_hi c⟩
    · exact ⟨by simpa using s1, by simp; omega, all⟩
theorem pos_lt (c : Int) (n : Nat) (h : 1 ≤ n) : (c / 208 % n).toNat < n := by
  have h1 : 0 ≤ c / 208 % (n : Int) := Int.emod_nonneg _ (by omega)
  have h2 : c / 208 % (n : Int) < n := Int.emod_lt_of_pos _ (by omega)
  omega

/-! trees -/
inductive Tr (α : Type) where
  | leaf (x : α)
  | knot (f : α) (l r : Tr α)
namespace Tr
variable {α : Type}
/-- the names of the leaves, from left to right -/
noncomputable def lv : Tr α → List α
  | .leaf x => [x]
  | .knot _ l r => l.lv ++ r.lv
/-- the names of the deeds -/
noncomputable def kn : Tr α → List α
  | .leaf _ => []
  | .knot f l r => f :: (l.kn ++ r.kn)
noncomputable def dp : Tr α → Nat
  | .leaf _ => 1
  | .knot _ l r => max l.dp r.dp + 1
noncomputable def isL : Tr α → Bool
  | .leaf _ => true
  | .knot _ _ _ => false
noncomputable def name : Tr α → α
  | .leaf x => x
  | .knot f _ _ => f
/-- the places, a place ahead of those within it -/
noncomputable def pl : Tr α → List (List Nat)
  | .leaf _ => [[]]
  | .knot _ l r => [] :: (l.pl.map (0 :: ·) ++ r.pl.map (1 :: ·))
noncomputable def sub : Tr α → List Nat → Option (Tr α)
  | t, [] => some t
  | .leaf _, _ :: _ => none
  | .knot _ l r, i :: p => if i = 0 then l.sub p else if i = 1 then r.sub p else none
/-- the parts with their places, p ahead of each -/
noncomputable def wk : Tr α → List Nat → List (List Nat × Tr α)
  | .leaf x, p => [(p, .leaf x)]
  | .knot f l r, p => (p, .knot f l r) :: (l.wk (p ++ [0]) ++ r.wk (p ++ [1]))
theorem lv_pos (t : Tr α) : 1 ≤ t.lv.length := by
  induction t with
  | leaf x => simp [lv]
  | knot f l r ihl ihr => simp [lv]; omega
theorem dp_pos (t : Tr α) : 1 ≤ t.dp := by cases t <;> simp [dp]
theorem dp_le (t : Tr α) : t.dp ≤ t.lv.length := by
  induction t with
  | leaf x => simp [lv, dp]
  | knot f l r ihl ihr =>
    have := l.lv_pos
    have := r.lv_pos
    simp [lv, dp]; omega
theorem wk_pl (t : Tr α) : ∀ p, (t.wk p).map (·.1) = t.pl.map (p ++ ·) := by
  induction t with
  | leaf x => intro p; simp [wk, pl]
  | knot f l r ihl ihr =>
    intro p
    simp only [wk, pl, List.map_cons, List.map_append, ihl, ihr, List.append_nil, List.map_map]
    congr 1
    congr 1
    · apply List.map_congr_left; intro a _; simp
    · apply List.map_congr_left; intro a _; simp
theorem pl_wk (t : Tr α) : t.pl = (t.wk []).map (·.1) := by rw [wk_pl]; simp
theorem wk_sub (t : Tr α) : ∀ p q s, (q, s) ∈ t.wk p → ∃ q', q = p ++ q' ∧ t.sub q' = some s := by
  induction t with
  | leaf x =>
    intro p q s h
    simp only [wk, List.mem_singleton, Prod.mk.injEq] at h
    exact ⟨[], by simp [h.1], by simp [sub, h.2]⟩
  | knot f l r ihl ihr =>
    intro p q s h
    simp only [wk, List.mem_cons, List.mem_append, Prod.mk.injEq] at h
    rcases h with ⟨h1, h2⟩ | h | h
    · exact ⟨[], by simp [h1], by simp [sub, h2]⟩
    · obtain ⟨q', e, hs⟩ := ihl _ _ _ h
      exact ⟨0 :: q', by simp [e], by simp [sub, hs]⟩
    · obtain ⟨q', e, hs⟩ := ihr _ _ _ h
      exact ⟨1 :: q', by simp [e], by simp [sub, hs]⟩
theorem sub_mem {t s : Tr α} {q : List Nat} (h : (q, s) ∈ t.wk []) : t.sub q = some s := by
  obtain ⟨q', e, hs⟩ := wk_sub t _ _ _ h
  simpa [e] using hs
/-- the leaves among the parts -/
theorem wk_lv (t : Tr α) : ∀ p, ((t.wk p).filter (fun q => q.2.isL)).map (fun q => q.2.name) = t.lv := by
  induction t with
  | leaf x => intro p; simp [wk, isL, lv, name]
  | knot f l r ihl ihr =>
    intro p
    have e : (Tr.knot f l r).isL = false := rfl
    simp only [wk, lv, List.filter_cons, e, List.filter_append, List.map_append, ihl, ihr]
    simp [ihl, ihr]
theorem wk_len (t : Tr α) : ∀ p, (t.wk p).length + 1 = 2 * t.lv.length := by
  induction t with
  | leaf x => intro p; simp [wk, lv]
  | knot f l r ihl ihr =>
    intro p
    have h1 := ihl (p ++ [0])
    have h2 := ihr (p ++ [1])
    simp only [wk, lv, List.length_cons, List.length_append]
    omega
theorem pl_len (t : Tr α) : t.pl.length + 1 = 2 * t.lv.length := by
  rw [pl_wk, List.length_map]; exact t.wk_len []
theorem wk_plen (t : Tr α) : ∀ p q s, (q, s) ∈ t.wk p → q.length + s.dp ≤ p.length + t.dp := by
  induction t with
  | leaf x =>
    intro p q s h
    simp only [wk, List.mem_singleton, Prod.mk.injEq] at h
    simp [h.1, h.2]
  | knot f l r ihl ihr =>
    intro p q s h
    simp only [wk, List.mem_cons, List.mem_append, Prod.mk.injEq] at h
    rcases h with ⟨h1, h2⟩ | h | h
    · simp [h1, h2]
    · have := ihl _ _ _ h; simp [dp] at this ⊢; omega
    · have := ihr _ _ _ h; simp [dp] at this ⊢; omega
end Tr
/-- the first leaf of that name -/
noncomputable def firstOf {α : Type} [DecidableEq α] (x : α) : List (List Nat × Tr α) → Option (List Nat)
  | [] => none
  | q :: r => if q.2.isL ∧ q.2.name = x then some q.1 else firstOf x r
/-! depths of the trees that are put together in turn -/
noncomputable def dstep (j : Nat) (ds : List Nat) : List Nat :=
  ds.take (j % (ds.length - 1)) ++ [max (ds.getD (j % (ds.length - 1)) 0) (ds.getD (j % (ds.length - 1) + 1) 0) + 1] ++ ds.drop (j % (ds.length - 1) + 2)
noncomputable def dsim : Nat → List Nat → List Nat
  | 0, ds => ds
  | j + 1, ds => dstep j (dsim j ds)
theorem dsim_ok : ∀ m : Fin 8, ((dsim (24 + m.val) (List.replicate (25 + m.val) 1)).all (· ≤ 24)) = true := by decide +kernel

/-! trees put together -/
noncomputable def merge {β : Type} (p : Nat) (t : β) (ts : List β) : List β := ts.take p ++ [t] ++ ts.drop (p + 2)
theorem split2 {β : Type} : ∀ {p : Nat} {ts : List β} {a b : β}, ts[p]? = some a → ts[p + 1]? = some b → ts = ts.take p ++ [a, b] ++ ts.drop (p + 2)
  | 0, ts, a, b, h1, h2 => by
    cases ts with
    | nil => simp at h1
    | cons x r =>
      cases r with
      | nil => simp at h2
      | cons y r => simp at h1 h2; simp [h1, h2]
  | p + 1, ts, a, b, h1, h2 => by
    cases ts with
    | nil => simp at h1
    | cons x r =>
      have e := split2 (p := p) (ts := r) (by simpa using h1) (by simpa using h2)
      simp only [List.take_succ_cons, List.drop_succ_cons, List.cons_append]
      rw [← e]
structure TI {α : Type} (names deeds : List α) (many j : Nat) (ts : List (Tr α)) : Prop where
  perm : (ts.flatMap Tr.lv).Perm names
  kn : ∀ t ∈ ts, ∀ f ∈ t.kn, f ∈ deeds
  len : ts.length + j = many
  nl : names.length = many
  dps : 24 < many → ts.map Tr.dp = dsim j (List.replicate many 1)
theorem TI.start {α : Type} {names deeds : List α} : TI names deeds names.length 0 (names.map Tr.leaf) where
  perm := by
    have e : (names.map Tr.leaf).flatMap Tr.lv = names := by
      induction names with
      | nil => rfl
      | cons a r ih => simp [Tr.lv, ih]
    rw [e]
  kn := fun t ht f hf => by
    obtain ⟨x, _, rfl⟩ := List.mem_map.mp ht
    simp [Tr.kn] at hf
  len := by simp
  nl := rfl
  dps := fun _ => by
    have e : ∀ l : List α, (l.map Tr.leaf).map Tr.dp = List.replicate l.length 1 := fun l => by
      induction l with
      | nil => rfl
      | cons a r ih => simp only [List.map_cons, List.length_cons, List.replicate_succ, ih, Tr.dp]
    exact e names
theorem TI.step {α : Type} {names deeds : List α} {many j : Nat} {ts : List (Tr α)} (I : TI names deeds many j ts) {p : Nat} {a b x y : Tr α} {f : α} (h1 : ts[p]? = some a) (h2 : ts[p + 1]? = some b) (hp : 24 < many → p = j % (ts.length - 1)) (hf : f ∈ deeds)
    (hxy : (x = a ∧ y = b) ∨ (x = b ∧ y = a)) : TI names deeds many (j + 1) (merge p (.knot f x y) ts) := by
  have e := split2 h1 h2
  have hlt : p + 1 < ts.length := (List.getElem?_eq_some_iff.mp h2).1
  have hd : (Tr.knot f x y).dp = max a.dp b.dp + 1 := by
    rcases hxy with ⟨rfl, rfl⟩ | ⟨rfl, rfl⟩ <;> simp [Tr.dp, Nat.max_comm]
  refine ⟨?_, fun t ht g hg => ?_, ?_, I.nl, fun hm => ?_⟩
  · have q := I.perm
    rw [e] at q
    refine List.Perm.trans ?_ q
    unfold merge
    simp only [List.flatMap_append, List.flatMap_cons, List.flatMap_nil, List.append_nil]
    refine List.Perm.append_right _ (List.Perm.append_left _ ?_)
    simp only [Tr.lv]
    rcases hxy with ⟨rfl, rfl⟩ | ⟨rfl, rfl⟩
    · exact List.Perm.refl _
    · exact List.perm_append_comm
  · unfold merge at ht
    have ma : a ∈ ts := List.mem_of_getElem? h1
    have mb : b ∈ ts := List.mem_of_getElem? h2
    simp only [List.mem_append, List.mem_singleton] at ht
    rcases ht with (ht | rfl) | ht
    · exact I.kn t (List.mem_of_mem_take ht) g hg
    · simp only [Tr.kn, List.mem_cons, List.mem_append] at hg
      rcases hg with rfl | hg | hg
      · exact hf
      · rcases hxy with ⟨rfl, rfl⟩ | ⟨rfl, rfl⟩
        · exact I.kn _ ma g hg
        · exact I.kn _ mb g hg
      · rcases hxy with ⟨rfl, rfl⟩ | ⟨rfl, rfl⟩
        · exact I.kn _ mb g hg
        · exact I.kn _ ma g hg
    · exact I.kn t (List.mem_of_mem_drop ht) g hg
  · have := I.len
    unfold merge
    simp only [List.length_append, List.length_take, List.length_drop, List.length_singleton]
    omega
  · have q := I.dps hm
    simp only [dsim, dstep]
    rw [← q]
    have hp := hp hm
    simp only [List.length_map]
    rw [← hp]
    unfold merge
    simp only [List.map_append, List.map_take, List.map_drop, List.map_cons, List.map_nil, hd]
    have g1 : (ts.map Tr.dp).getD p 0 = a.dp := by simp [List.getD, h1]
    have g2 : (ts.map Tr.dp).getD (p + 1) 0 = b.dp := by simp [List.getD, h2]
    rw [g1, g2]
theorem TI.end {α : Type} {names deeds : List α} {many j : Nat} {t : Tr α} (I : TI names deeds many j [t]) (hm : many ≤ 32) : t.lv.Perm names ∧ (∀ f ∈ t.kn, f ∈ deeds) ∧ t.dp ≤ 24 := by
  have hp : t.lv.Perm names := by have := I.perm; simpa using this
  refine ⟨hp, I.kn t (by simp), ?_⟩
  by_cases h : 24 < many
  · have q := I.dps h
    have hl := I.len
    simp at hl
    have ok := dsim_ok ⟨many - 25, by omega⟩
    have e1 : 24 + (many - 25) = j := by omega
    have e2 : 25 + (many - 25) = many := by omega
    simp only [e1, e2] at ok
    rw [← q] at ok
    simpa using ok
  · have h1 := t.dp_le
    have h2 := hp.length_eq
    have h3 := I.nl
    omega
end M

namespace M
noncomputable abbrev Pl := List Nat
namespace Tr
variable {α : Type}
/-! ranks -/
noncomputable def rk : Tr α → Nat
  | .leaf _ => 1
  | .knot _ l r => if l.rk = r.rk then l.rk + 1 else max l.rk r.rk
theorem sub_nil (t : Tr α) : t.sub [] = some t := by cases t <;> rfl
/-- each way that keeps to the greater rank is held at some place -/
noncomputable def blk (h : Pl → Bool) : Tr α → Pl → Bool
  | .leaf _, p => h p
  | .knot _ l r, p => h p || (if l.rk = r.rk then blk h l (p ++ [0]) && blk h r (p ++ [1]) else if r.rk < l.rk then blk h l (p ++ [0]) else blk h r (p ++ [1]))
end Tr
noncomputable def held (bx : List (Option Pl)) (p : Pl) : Bool := bx.any fun o => o == some p

/-! the leaves' places -/
theorem pl_filter {α : Type} (t : Tr α) (g : Pl → Bool) (hg : ∀ q s, (q, s) ∈ t.wk [] → g q = s.isL) : t.pl.filter g = ((t.wk []).filter (fun q => q.2.isL)).map (·.1) := by
  rw [Tr.pl_wk, List.filter_map]
  congr 1
  apply List.filter_congr
  intro q hq
  exact hg q.1 q.2 hq
theorem pl_sub {α : Type} {t : Tr α} {p : Pl} (h : p ∈ t.pl) : ∃ s, t.sub p = some s ∧ (p, s) ∈ t.wk [] := by
  rw [Tr.pl_wk] at h
  obtain ⟨⟨q, s⟩, hq, rfl⟩ := List.mem_map.mp h
  exact ⟨s, Tr.sub_mem hq, hq⟩
theorem pl_len_le {α : Type} (t : Tr α) : t.pl.length ≤ 2 * t.lv.length := by have := t.pl_len; omega
theorem pl_dp {α : Type} {t : Tr α} {p : Pl} (h : p ∈ t.pl) : p.length < t.dp := by
  obtain ⟨s, _, hs⟩ := pl_sub h
  have := t.wk_plen [] _ _ hs
  have := s.dp_pos
  simp at *; omega
/-- the names of a tree that a script tells -/
structure TreeOf (many : Nat) (t : Tr (List Nat)) (c c' : Int) : Prop where
  perm : t.lv.Perm ((List.range many).map (nm c many))
  kn : ∀ f ∈ t.kn, f ∈ (List.range 3).map (nm c' 3)
  dp : t.dp ≤ 24

end M

set_option linter.all false
namespace M
variable {α β γ : Type}
/-! ### deeds, and what they do to boxes and shelf, whatever these hold -/
inductive Deed (α : Type)
  | take (x : α) (i : Int)
  | join (f : α) (i j h : Int)
  | put (i s : Int)
  | fetch (s i : Int)
noncomputable def inN (k : Int) (i : Int) : Prop := 0 ≤ i ∧ i < k
noncomputable instance (k i : Int) : Decidable (inN k i) := by unfold inN; infer_instance
namespace Deed
noncomputable def bn : Deed α → List Int
  | .take _ i => [i]
  | .join _ i j h => [i, j, h]
  | .put i _ => [i]
  | .fetch _ i => [i]
noncomputable def sn : Deed α → List Int
  | .put _ s => [s]
  | .fetch s _ => [s]
  | _ => []
noncomputable def ok (k m : Int) (d : Deed α) : Prop := (∀ i ∈ d.bn, inN k i) ∧ ∀ s ∈ d.sn, inN m s
noncomputable instance (k m : Int) (d : Deed α) : Decidable (d.ok k m) := by unfold ok; infer_instance
/-- the box, or the place of the shelf, that it sets -/
noncomputable def set (d : Deed α) (v : β) (st : List β × List β) : List β × List β := match d with
  | .take _ i => (st.1.set i.toNat v, st.2)
  | .join _ _ _ h => (st.1.set h.toNat v, st.2)
  | .put _ s => (st.1, st.2.set s.toNat v)
  | .fetch _ i => (st.1.set i.toNat v, st.2)
noncomputable def val (z : β) (tk : α → β) (jn : α → β → β → β) (d : Deed α) (st : List β × List β) : β := match d with
  | .take x _ => tk x
  | .join f i j _ => jn f (st.1.getD i.toNat z) (st.1.getD j.toNat z)
  | .put i _ => st.1.getD i.toNat z
  | .fetch s _ => st.2.getD s.toNat z
noncomputable def go (z : β) (tk : α → β) (jn : α → β → β → β) (st : List β × List β) (d : Deed α) : List β × List β := d.set (d.val z tk jn st) st
noncomputable def rows (z : β) (tk : α → β) (jn : α → β → β → β) (k m : Nat) (row : List (Deed α)) : List β × List β := row.foldl (go z tk jn) (List.replicate k z, List.replicate m z)
end Deed
/-! ### marks -/
noncomputable def knotAt [DecidableEq α] (t : Tr α) (f : α) (p : List Nat) : Bool := match t.sub p with
  | some (.knot g _ _) => decide (g = f)
  | _ => false
/-- the knot over two places -/
noncomputable def over [DecidableEq α] (t : Tr α) (f : α) : Option (List Nat) → Option (List Nat) → Option (List Nat)
  | some p, some q => if p = p.dropLast ++ [0] ∧ q = p.dropLast ++ [1] ∧ knotAt t f p.dropLast = true then some p.dropLast else none
  | _, _ => none
noncomputable def mark [DecidableEq α] (t : Tr α) : List (Option (List Nat)) × List (Option (List Nat)) → Deed α → List (Option (List Nat)) × List (Option (List Nat)) := Deed.go none (fun x => firstOf x (t.wk [])) (over t)
/-! ### as the law reckons them -/
end M

/-! ### list comprehensions over the layer -/
namespace L2
open PySem PySem.Spec PyProof.Rows

theorem forIn_of_step {α β : Type} {f : α → β → Sem (ForInStep β)} {g : β → α → β} : ∀ (l : List α) (b : β), (∀ x ∈ l, ∀ b, f x b = pure (.yield (g b x))) → forIn l b f = pure (l.foldl g b)
  | [], b, _ => by rw [List.forIn_nil]; rfl
  | x :: l, b, h => by
    rw [List.forIn_cons, h x List.mem_cons_self b, pure_bind]
    exact forIn_of_step l _ fun y hy b => h y (List.mem_cons_of_mem _ hy) b

noncomputable def closStep (cells : List (Str × Addr)) (acc : List (Str × Addr)) (x : Str × NameKind) : List (Str × Addr) :=
  if (x.2 == NameKind.free) = true then (match cells.lookup x.1 with | some a => (x.1, a) :: acc | none => acc) else acc
noncomputable def closOf (cells : List (Str × Addr)) (names : List (Str × NameKind)) : List (Str × Addr) := names.foldl (closStep cells) []
theorem closureFor_of {scope : Scope} {env : Env} (h : ∀ y ∈ scope.names, y.2 = NameKind.free → ∃ a, env.cells.lookup y.1 = some a) : closureFor scope env = pure (closOf env.cells scope.names) := by
  simp only [closureFor]
  rw [forIn_of_step (g := closStep env.cells) scope.names [] (fun x hx b => by
    obtain ⟨n, k⟩ := x
    by_cases hk : (k == NameKind.free) = true
    · have hk' : k = .free := by simpa using hk
      obtain ⟨a, e⟩ := h _ hx hk'
      have e' : env.cells.lookup n = some a := e
      simp only [hk, if_true, closStep, e', cellOf, pure_bind]
      try rfl
    · simp only [hk, closStep]
      try rfl)]
  rw [pure_bind]
  rfl
theorem closStep_sound {cells acc : List (Str × Addr)} {y : Str × NameKind} {x : Str} {c : Addr} (h : (closStep cells acc y).lookup x = some c) : acc.lookup x = some c ∨ cells.lookup x = some c := by
  unfold closStep at h
  split at h
  · split at h
    · rename_i a e
      rw [List.lookup_cons] at h
      split at h
      · rename_i hb
        have : x = y.1 := by simpa using hb
        rw [this, e]; exact .inr h
      · exact .inl h
    · exact .inl h
  · exact .inl h
theorem clos_sound {cells : List (Str × Addr)} : ∀ (names : List (Str × NameKind)) (acc : List (Str × Addr)) {x : Str} {c : Addr}, (names.foldl (closStep cells) acc).lookup x = some c → acc.lookup x = some c ∨ cells.lookup x = some c
  | [], _, _, _, h => .inl h
  | y :: r, acc, x, c, h => by
    rcases clos_sound r _ h with h | h
    · exact closStep_sound h
    · exact .inr h
theorem closOf_sound {cells : List (Str × Addr)} {names : List (Str × NameKind)} {x : Str} {c : Addr} (h : (closOf cells names).lookup x = some c) : cells.lookup x = some c := by
  rcases clos_sound names [] h with h | h
  · simp at h
  · exact h
theorem closStep_keeps {cells acc : List (Str × Addr)} {y : Str × NameKind} {x : Str} {c : Addr} (h : acc.lookup x = some c) : ∃ c', (closStep cells acc y).lookup x = some c' := by
  unfold closStep
  split
  · split
    · rw [List.lookup_cons]
      split
      · exact ⟨_, rfl⟩
      · exact ⟨c, h⟩
    · exact ⟨c, h⟩
  · exact ⟨c, h⟩
theorem clos_keeps {cells : List (Str × Addr)} : ∀ (names : List (Str × NameKind)) (acc : List (Str × Addr)) {x : Str} {c : Addr}, acc.lookup x = some c → ∃ c', (names.foldl (closStep cells) acc).lookup x = some c'
  | [], _, _, c, h => ⟨c, h⟩
  | y :: r, acc, x, c, h => by
    obtain ⟨c', h'⟩ := closStep_keeps (cells := cells) (y := y) h
    exact clos_keeps r _ h'
theorem clos_has {cells : List (Str × Addr)} : ∀ (names : List (Str × NameKind)) (acc : List (Str × Addr)) {x : Str} {a : Addr}, (x, NameKind.free) ∈ names → cells.lookup x = some a → ∃ c', (names.foldl (closStep cells) acc).lookup x = some c'
  | [], _, _, _, h, _ => nomatch h
  | y :: r, acc, x, a, h, e => by
    rcases List.mem_cons.mp h with rfl | h
    · refine clos_keeps r (closStep cells acc (x, .free)) (x := x) (c := a) ?_
      unfold closStep
      rw [if_pos (by rfl)]
      simp only [e]
      simp
    · exact clos_has r _ h e
theorem closOf_has {cells : List (Str × Addr)} {names : List (Str × NameKind)} {x : Str} {a : Addr} (h : (x, NameKind.free) ∈ names) (e : cells.lookup x = some a) : (closOf cells names).lookup x = some a := by
  obtain ⟨c', h'⟩ := clos_has names [] h e
  have := closOf_sound h'
  rw [e] at this; cases this
  exact h'
theorem lookup_mem {α : Type} : ∀ {l : List (Str × α)} {x : Str} {k : α}, l.lookup x = some k → (x, k) ∈ l
  | [], _, _, h => by simp at h
  | (n, k') :: r, x, k, h => by
    rw [List.lookup_cons] at h
    split at h
    · rename_i hb
      cases h
      have : x = n := by simpa using hb
      rw [this]; exact List.mem_cons_self
    · exact List.mem_cons_of_mem _ (lookup_mem h)
theorem lookup_relabel {env : Env} : ∀ {names : List (Str × NameKind)} {x : Str} {k : NameKind},
    (names.map fun (n, k) => if (k == NameKind.free && env.scope.kind == .function && env.kindOf n == some .cell) then (n, NameKind.cell) else (n, k)).lookup x = some k →
    names.lookup x = some k ∨ (k = .cell ∧ names.lookup x = some .free)
  | [], _, _, h => by simp at h
  | (n, k') :: r, x, k, h => by
    have ih := @lookup_relabel env r x k
    rw [List.map_cons] at h
    by_cases hc : (k' == NameKind.free && env.scope.kind == .function && env.kindOf n == some .cell) = true
    · have h2 : List.lookup x ((n, NameKind.cell) :: (r.map fun (n, k) => if (k == NameKind.free && env.scope.kind == .function && env.kindOf n == some .cell) then (n, NameKind.cell) else (n, k))) = some k := by
        simpa only [if_pos hc] using h
      rw [List.lookup_cons] at h2 ⊢
      split at h2
      · cases h2
        have : k' = .free := by
          cases k' <;> first | rfl | simp at hc
        simp_all
      · exact ih h2
    · have h2 : List.lookup x ((n, k') :: (r.map fun (n, k) => if (k == NameKind.free && env.scope.kind == .function && env.kindOf n == some .cell) then (n, NameKind.cell) else (n, k))) = some k := by
        simpa only [if_neg hc] using h
      rw [List.lookup_cons] at h2 ⊢
      split at h2
      · exact .inl h2
      · exact ih h2
theorem relabel_free {env : Env} : ∀ {names : List (Str × NameKind)} {x : Str}, names.lookup x = some .free →
    (names.map fun (n, k) => if (k == NameKind.free && env.scope.kind == .function && env.kindOf n == some .cell) then (n, NameKind.cell) else (n, k)).lookup x = some .cell ∨
    (names.map fun (n, k) => if (k == NameKind.free && env.scope.kind == .function && env.kindOf n == some .cell) then (n, NameKind.cell) else (n, k)).lookup x = some .free
  | [], _, h => by simp at h
  | (n, k') :: r, x, h => by
    have ih := @relabel_free env r x
    rw [List.lookup_cons] at h
    rw [List.map_cons]
    dsimp only
    by_cases hc : (k' == NameKind.free && env.scope.kind == .function && env.kindOf n == some .cell) = true
    · rw [if_pos hc, List.lookup_cons]
      cases hb : (x == n) with
      | true => exact .inl rfl
      | false =>
        rw [hb] at h
        exact ih h
    · rw [if_neg hc, List.lookup_cons]
      cases hb : (x == n) with
      | true =>
        rw [hb] at h
        exact .inr h
      | false =>
        rw [hb] at h
        exact ih h

/-- the block's context -/
noncomputable def blk (X : Cx) (N : List Str) (scope : Scope) (C : Addr) (s : Shared) (H : Hp) (ex : List Addr) : Cx :=
  { X with N := N, s₀ := s, H₀ := H, env := compEnvC scope (closOf X.env.cells scope.names) C X.env, outer := X.stack, ex := ex, fn := fun _ => false, pn := [], xe := fun _ _ => False }
/-- what the block's scope must have; N: the loop's name, then the captured ones; caps: their slots outside -/
structure CSc (X : Cx) (scope : Scope) (x : Str) (N : List Str) (caps : List Nat) : Prop where
  kind : scope.kind = .function
  nocellB : (scope.names.all fun y => y.2 != NameKind.cell) = true
  namesB : (scope.names.all fun y => y.2 != NameKind.local || scope.names.lookup y.1 == some NameKind.local) = true
  lx : scope.names.lookup x = some .local
  nd : N.Nodup
  n0 : N[0]? = some x
  capN : caps.map (fun j => X.N[j]?) = N.tail.map some
  capFB : (N.tail.all fun y => scope.names.lookup y == some NameKind.free) = true
  freesB : (scope.names.all fun y => y.2 != NameKind.free || X.env.scope.names.lookup y.1 == some NameKind.cell || X.env.scope.names.lookup y.1 == some NameKind.free) = true
theorem CSc.nocell {X : Cx} {scope : Scope} {x : Str} {N : List Str} {caps : List Nat} (S : CSc X scope x N caps) : ∀ y ∈ scope.names, y.2 ≠ .cell := fun y hy => by
  have h := List.all_eq_true.mp S.nocellB y hy
  simpa using h
theorem CSc.names {X : Cx} {scope : Scope} {x : Str} {N : List Str} {caps : List Nat} (S : CSc X scope x N caps) : ∀ y ∈ scope.names, y.2 = .local → scope.names.lookup y.1 = some .local := fun y hy e => by
  have h := List.all_eq_true.mp S.namesB y hy
  simp only [e, bne_self_eq_false, Bool.false_or] at h
  simpa using h
theorem CSc.capF {X : Cx} {scope : Scope} {x : Str} {N : List Str} {caps : List Nat} (S : CSc X scope x N caps) : ∀ y ∈ N.tail, scope.names.lookup y = some .free := fun y hy => by
  have h := List.all_eq_true.mp S.capFB y hy
  simpa using h
theorem CSc.frees {X : Cx} {scope : Scope} {x : Str} {N : List Str} {caps : List Nat} (S : CSc X scope x N caps) : ∀ y ∈ scope.names, y.2 = .free → (X.env.kindOf y.1 = some .cell ∨ X.env.kindOf y.1 = some .free) := fun y hy e => by
  have h := List.all_eq_true.mp S.freesB y hy
  simp only [e, bne_self_eq_false, Bool.false_or, Bool.or_eq_true] at h
  rcases h with h | h
  · exact .inl (by show X.env.scope.names.lookup y.1 = _; simpa using h)
  · exact .inr (by show X.env.scope.names.lookup y.1 = _; simpa using h)
/-- the block's names -/
noncomputable def blkSt (caps : List Nat) (σ : St) (o : Option V) : St := o :: caps.map fun j => (σ[j]?).join

theorem HOk.adopt {P : Program} {w : World} {H : Hp} {h : Heap} {a : Addr} {o : HO} (x : HOk P w H h) (hn : H a = none) (new : ObjOk P w (upd H a o) h a o) : HOk P w (upd H a o) h := fun b u e => by
  by_cases hb : b = a
  · subst hb; rw [upd_same] at e; cases e; exact new
  · rw [upd_ne hb] at e
    exact (x b u e).stay (fun c v _ q => q) (fun c q => by rw [upd_ne (ne_of_none q hn)]; exact q) fun c xs q => by rw [upd_ne (ne_of_none q hn)]; exact q

section
variable {X : Cx} {pins : List (Addr × Obj)} {σ : St} {H : Hp} {s : Shared} {scope : Scope} {x : Str} {N : List Str} {caps : List Nat} {fp : List Addr}
theorem CSc.cells (S : CSc X scope x N caps) (ok : X.Ok) : ∀ y ∈ scope.names, y.2 = NameKind.free → ∃ a, X.env.cells.lookup y.1 = some a := fun y hy e => ok.has _ (S.frees y hy e)
theorem CSc.len (S : CSc X scope x N caps) : N.length = caps.length + 1 := by
  have h := congrArg List.length S.capN
  simp only [List.length_map, List.length_tail] at h
  have h2 := S.n0
  cases N with
  | nil => simp at h2
  | cons a r => simp at h ⊢; omega
theorem CSc.at (S : CSc X scope x N caps) {i : Nat} {y : Str} (h : N[i + 1]? = some y) : ∃ j, caps[i]? = some j ∧ X.N[j]? = some y ∧ scope.names.lookup y = some .free := by
  have h2 := S.n0
  cases hN : N with
  | nil => rw [hN] at h2; simp at h2
  | cons a r =>
    rw [hN] at h
    have ht : N.tail[i]? = some y := by rw [hN]; simpa using h
    have e := congrArg (fun l => l[i]?) S.capN
    simp only [List.getElem?_map, ht, Option.map_some] at e
    cases hc : caps[i]? with
    | none => rw [hc] at e; simp at e
    | some j =>
      rw [hc] at e
      refine ⟨j, rfl, ?_, S.capF y ?_⟩
      · simpa using e
      · exact List.mem_of_getElem? ht

theorem blk_ok (S : CSc X scope x N caps) (I : Inv X pins σ H s) (hf : ∀ b ∈ fp, FpOk X pins H b) (hlt : ∀ b ∈ fp, b < s.heap.objs.size) :
    (blk X N scope (s.heap.objs.size + 1) s H (s.heap.objs.size :: fp)).Ok where
  mod := I.ok.mod
  kind := S.kind
  glob := I.ok.glob
  blt := I.ok.blt
  above := Nat.le_succ _
  inj := fun a b c e1 e2 => I.ok.inj a b c (closOf_sound e1) (closOf_sound e2)
  has := fun y hy => by
    have e : ∃ k, (relabel scope X.env).names.lookup y = some k ∧ (k = .cell ∨ k = .free) := by
      rcases hy with h | h
      · exact ⟨_, h, .inl rfl⟩
      · exact ⟨_, h, .inr rfl⟩
    obtain ⟨k, e, hk⟩ := e
    have hfree : scope.names.lookup y = some .free := by
      rcases lookup_relabel (env := X.env) e with h | ⟨_, h⟩
      · rcases hk with rfl | rfl
        · exact absurd rfl (S.nocell _ (lookup_mem h))
        · exact h
      · exact h
    obtain ⟨a, ea⟩ := S.cells I.ok _ (lookup_mem hfree) rfl
    exact ⟨a, closOf_has (lookup_mem hfree) ea⟩
  cab := fun _ _ h => by cases h
  hd := I.ok.hd
  frames := I.ok.frames
  stk := .inl rfl
  exf := fun b hb => by
    rcases List.mem_cons.mp hb with rfl | hb
    · refine ⟨Nat.ne_of_lt (Nat.lt_succ_self _), fun y c e z => ?_⟩
      exact (I.fpOk (Nat.le_refl _) (I.hok.fresh (Nat.le_refl _))).2.2.2.2.1 y c (closOf_sound e) z
    · refine ⟨Nat.ne_of_lt (Nat.lt_succ_of_lt (hlt b hb)), fun y c e z => ?_⟩
      exact (hf b hb).2.2.2.2.1 y c (closOf_sound e) z
  bs := I.bs
  bsz := Nat.le_trans I.ok.bsz I.sz
  noex := fun b o e hb => by
    rcases List.mem_cons.mp hb with rfl | hb
    · exact absurd (Heap.lt_size (I.bk _ _ e)) (Nat.lt_irrefl _)
    · rcases (hf b hb).2.2.2.1 with z | z
      · exact I.ok.noex b o e z
      · exact absurd (Nat.lt_of_lt_of_le (Heap.lt_size (I.ok.bs b o e).1) z) (Nat.lt_irrefl _)
  exfs := fun b hb hs => by
    have hs' := I.stkSub b hs
    rcases List.mem_cons.mp hb with rfl | hb
    · rcases List.mem_cons.mp hs' with z | z
      · exact absurd I.lt (by rw [← z]; exact Nat.lt_irrefl _)
      · exact I.nofs (Nat.le_refl _) z
    · rcases List.mem_cons.mp hs' with z | z
      · exact (hf b hb).2.1 z
      · exact (hf b hb).2.2.1 z
  funs := I.stack
  frf := I.stkFree

theorem blk_inv (S : CSc X scope x N caps) (I : Inv X pins σ H s) (hf : ∀ b ∈ fp, FpOk X pins H b) (hlt : ∀ b ∈ fp, b < s.heap.objs.size) {h₁ : Heap} {m : Str → Option Value} {tk : Nat}
    (hns : h₁.Ns (s.heap.objs.size + 1) m) (old : ∀ b o, s.heap.get? b = some o → h₁.get? b = some o) :
    Inv (blk X N scope (s.heap.objs.size + 1) s H (s.heap.objs.size :: fp)) [] (blkSt caps σ none) H { s with heap := h₁, toks := tk } where
  ok := blk_ok S I hf hlt
  os := rfl
  bare := I.bare
  base := Un.kept old
  loc := ⟨m, hns, fun i y v e1 e2 _ => by
    cases i with
    | zero => simp [blkSt] at e2
    | succ i =>
      obtain ⟨j, hj, hX, hfree⟩ := S.at e1
      have e2' : (σ[j]?).join = some v := by
        simp only [blkSt, List.getElem?_cons_succ, List.getElem?_map, hj, Option.map_some] at e2
        exact Option.some.inj e2
      have e3 : σ[j]? = some (some v) := by
        cases hh : σ[j]? with
        | none => rw [hh] at e2'; simp at e2'
        | some o => rw [hh] at e2'; simp at e2'; rw [e2']
      obtain ⟨m₂, _, hl⟩ := I.loc
      have hk := S.frees _ (lookup_mem hfree) rfl
      obtain ⟨u, r, l⟩ := hl j y v hX e3 (by
        rcases hk with k | k
        · exact .inr (.inl k)
        · exact .inr (.inr k))
      refine ⟨u, r, .inr ?_⟩
      rcases l with ⟨k, _⟩ | ⟨_, c, hc, hcell⟩
      · rcases hk with k' | k' <;> (rw [k] at k'; cases k')
      · obtain ⟨o, ho, hd⟩ := hcell
        exact ⟨relabel_free hfree, c, closOf_has (lookup_mem hfree) hc, o, old _ _ ho, hd⟩⟩
  cell := fun y c e => by
    obtain ⟨v, o, ho, hd⟩ := I.cell y c (closOf_sound e)
    exact ⟨v, o, old _ _ ho, hd⟩
  free := I.hok.fresh (Nat.le_succ _)
  freeC := fun y c e => I.freeC y c (closOf_sound e)
  pin := fun p hp => by
    have : p ∈ ([] : List (Addr × Obj)) := hp
    simp at this
  hok := I.hok.kept old
  len := by
    show (blkSt caps σ none).length = N.length
    rw [S.len]; simp [blkSt]
end

/-- the tests of a comprehension -/
noncomputable def PIfs (X : Cx) (ifs : List Expr) (t : TT) : Prop :=
  ∀ (pins : List (Addr × Obj)) (s : Shared) (σ : St) (H : Hp) (Q : Bool → Hp → Prop), Inv X pins σ H s → t σ H Q →
    wpAny (model X.prog X.w) X.A (forIn ifs true fun c r => if r = true then do let ok ← isTrue c X.env (eval c X.env); pure (ForInStep.yield ok) else pure (ForInStep.yield r)) (TP X pins σ Q) X.xe s
noncomputable def tYes : TT := fun _ H Q => Q true H
theorem pif_nil {X : Cx} : PIfs X [] tYes := fun pins s σ H Q I h => wpAny_tests_nil ⟨H, I, h⟩
theorem pif_one {X : Cx} {c : Expr} {t : TT} (h : PT X c t) : PIfs X [c] t := fun pins s σ H Q I hw => wpAny_tests_one (h pins s σ H Q I hw)

/-- [elt for x in iter if c] -/
noncomputable def wComp (J : It) (caps : List Nat) (tc : TT) (te : TE) (σ : St) (H1 : Hp) (Q : VK) : Prop :=
  ∃ W : Nat → Nat → List V → Hp → Prop, (∃ m, W 0 m [] H1) ∧ ∀ i m ys H, W i m ys H →
    (J.stop i H ∧ ∀ p, H p = none → Q (.ref p) (upd H p (.lst ys))) ∨
    (J.go i H ∧ ys.length < sizeLine ∧ ∃ N : List V → Hp → Prop, (∀ ys' H', N ys' H' → ∃ m', m' < m ∧ W (i + 1) m' ys' H') ∧ ∀ v H', J.yld i H v H' →
      tc (blkSt caps σ (some v)) H' fun b H2 => if b = true then te (blkSt caps σ (some v)) H2 fun y H3 => N (ys ++ [y]) H3 else N ys H2)
noncomputable def tComp (wi : TI) (caps : List Nat) (tc : TT) (te : TE) : TE := fun σ H Q => wi σ H fun J H1 => wComp J caps tc te σ H1 Q

theorem wp_pull {M : Model} {A : Around} {E : Value → Shared → Prop} {s : Shared} {m : Sem (Option Value)} {F : Value → Shared → Prop} (h : wpAny M A m (fun r s1 => ∃ u, r = some u ∧ wpAny M A (pure () : Sem Unit) (fun _ s2 => F u s2) E s1) E s) :
    wpAny M A m (fun r s1 => ∃ u, r = some u ∧ F u s1) E s := fun Γ p hΓ =>
  Sem.wp_mono M Γ m (fun r p' s' h' => by obtain ⟨u, e, h'⟩ := h'; exact ⟨u, e, h' Γ p' hΓ⟩) (fun _ _ _ h' => h') p s (h Γ p hΓ)

section
variable {X : Cx} {pins : List (Addr × Obj)} {σ : St} {H : Hp} {s : Shared} {scope : Scope} {x : Str} {N : List Str} {caps : List Nat} {fp : List Addr}
noncomputable abbrev lobj (its : List Value) (k : Nat) : Obj := { cls := .type "list", data := .seq its.toArray k }

/-- the whole block: from the list's making to its end -/
theorem comp_block {elt iter : Expr} {px pos : Pos} {ifs : List Expr} {tc : TT} {te : TE} {J : It} {it : Addr} {tn : Nat → Heap → Prop} {Q : VK} {RR : Value → Addr → Result → Shared → Prop} {E : Value → Shared → Prop}
    (hcalm : X.calm = true) (S : CSc X scope x N caps) (hc : ∀ C s H ex, PIfs (blk X N scope C s H ex) ifs tc) (he : ∀ C s H ex, PE (blk X N scope C s H ex) elt te)
    (I : Inv X pins σ H s) (T : Turn X.prog X.w X.K (.Name x px) J fp it tn) (t0 : tn 0 s.heap) (hf : ∀ b ∈ fp, FpOk X pins H b) (wc : wComp J caps tc te σ H Q)
    (fin : ∀ D C s' m' H' ys, Inv X pins σ (upd H' D (.lst ys)) s' → Q (.ref D) (upd H' D (.lst ys)) → s'.heap.Ns C m' → FpOk X pins (upd H' D (.lst ys)) C → C ≠ X.env.locals → RR (.ref D) C (.ok .next) s') :
    wpAny (model X.prog X.w) X.A (newList []) (fun acc s₃ => wpAny (model X.prog X.w) X.A (newFunctionEnv scope X.env.globals (closOf X.env.cells scope.names) [] X.env.qual none .none (some X.env)) (fun cenv s₄ =>
      codeAny (model X.prog X.w) X.A (.compStart (.ListComp elt [⟨.Name x px, iter, ifs, 0⟩] scope pos) 0 (.ref it) acc { cenv with scope := relabel scope X.env }) (RR acc cenv.locals) s₄) E s₃) E s := by
  refine wpAny_newObj_type (wpAny_newFunctionEnv S.nocell (by intro y hy; simp at hy) (fun h₁ hns₁ hsb₁ => ?_) S.kind)
  dsimp only at hns₁ hsb₁ ⊢
  generalize hH2 : s.heap.push { cls := .type "list", dict := none, data := .seq ([] : List Value).toArray } = H2 at hns₁ hsb₁ ⊢
  have hC : H2.objs.size = s.heap.objs.size + 1 := by rw [← hH2, Heap.size_push]
  have hDC : s.heap.objs.size ≠ H2.objs.size := by rw [hC]; exact Nat.ne_of_lt (Nat.lt_succ_self _)
  have below : ∀ b, b < s.heap.objs.size → b ≠ H2.objs.size := fun b hb => by rw [hC]; exact Nat.ne_of_lt (Nat.lt_succ_of_lt hb)
  have old : ∀ b o, s.heap.get? b = some o → h₁.get? b = some o := fun b o e => hsb₁.extBut b o (below b (Heap.lt_size e)) (Heap.get?_push_of_some _ (hH2 ▸ Heap.get?_push_of_some _ e))
  have hacc : h₁.get? s.heap.objs.size = some (lobj [] 0) := hsb₁.extBut _ _ hDC (Heap.get?_push_of_some _ (hH2 ▸ Heap.get?_push_size _ rfl))
  have hlt : ∀ b ∈ fp, b < s.heap.objs.size := fun b hb => by
    obtain ⟨o, e, _⟩ := T.obj 0 _ t0 b hb
    exact Heap.lt_size e
  have hDfp : s.heap.objs.size ∉ fp := fun z => Nat.lt_irrefl _ (hlt _ z)
  have hDok : FpOk X pins H s.heap.objs.size := I.fpOk (Nat.le_refl _) (I.hok.fresh (Nat.le_refl _))
  have hCok : FpOk X pins H H2.objs.size := I.fpOk (by rw [hC]; exact Nat.le_succ _) (I.hok.fresh (by rw [hC]; exact Nat.le_succ _))
  rw [hC] at hns₁ hDC hCok ⊢
  clear hC
  generalize hD : s.heap.objs.size = D at hacc hDfp hDok hDC
  have IY := blk_inv S I hf hlt (h₁ := h₁) (tk := s.toks + ([] : List (Str × Value)).length) hns₁ old
  rw [hD] at IY hns₁ hCok
  generalize hY : blk X N scope (D + 1) s H (D :: fp) = Y at IY
  have envY : Y.env = compEnvC scope (closOf X.env.cells scope.names) (D + 1) X.env := by rw [← hY]; rfl
  have exY : Y.ex = D :: fp := by rw [← hY]; rfl
  have fsY : Y.fs = frs X.stack := by rw [← hY]; rfl
  have pnY : Y.pn = [] := by rw [← hY]; rfl
  have locY : Y.env.locals = D + 1 := by rw [envY]; rfl
  have hcY : PIfs Y ifs tc := by rw [← hY]; exact hc _ _ _ _
  have heY : PE Y elt te := by rw [← hY]; exact he _ _ _ _
  have prY : Y.prog = X.prog ∧ Y.w = X.w ∧ Y.K = X.K ∧ Y.calm = X.calm ∧ Y.A = X.A ∧ Y.N = N ∧ Y.xe = fun _ _ => False := by rw [← hY]; exact ⟨rfl, rfl, rfl, rfl, rfl, rfl, rfl⟩
  obtain ⟨pr1, pr2, pr3, pr4, pr5, pr6, pr7⟩ := prY
  -- what a block's state has of the records
  have fpY : ∀ {H' : Hp} {pl : List (Addr × Obj)}, (∀ b ∈ fp, H' b = none) → (∀ p ∈ pl, p.1 = D) → ∀ b ∈ fp, FpOk Y pl H' b := fun {H' pl} hn hp b hb => by
    refine ⟨hn b hb, ?_, ?_, .inl (by rw [exY]; exact List.mem_cons_of_mem _ hb), fun y c e => (IY.ok.exf b (by rw [exY]; exact List.mem_cons_of_mem _ hb)).2 y c e, fun p hpp z => ?_⟩
    · exact (IY.ok.exf b (by rw [exY]; exact List.mem_cons_of_mem _ hb)).1
    · exact IY.ok.exfs b (by rw [exY]; exact List.mem_cons_of_mem _ hb)
    · rw [pnY, List.nil_append] at hpp
      exact hDfp (by rw [← hp p hpp, z]; exact hb)
  have hDY : D ∈ Y.ex := by rw [exY]; exact List.mem_cons_self
  -- D pinned
  have pinD : ∀ {H' : Hp} {s' : Shared} {σ' : St} {its : List Value} {k : Nat}, Inv Y [] σ' H' s' → H' D = none → s'.heap.get? D = some (lobj its k) → Inv Y [(D, lobj its k)] σ' H' s' := fun {H' s' σ' its k} I' hn e =>
    I'.pins_of fun p hp => by
      have hp' : p = (D, lobj its k) := by simpa using hp
      subst hp'
      refine ⟨e, hn, (IY.ok.exf D hDY).1, IY.ok.exfs D hDY, fun v z => ?_⟩
      have z' : Data.seq its.toArray k = Data.cell v := z
      cases z'
  obtain ⟨W, ⟨m0, w0⟩, turn⟩ := wc
  have loop : ∀ s₃ : Shared, s₃ = { s with heap := h₁, toks := s.toks + ([] : List (Str × Value)).length } →
      codeAny (model X.prog X.w) X.A (.compLoop (.ListComp elt [⟨.Name x px, iter, ifs, 0⟩] scope pos) 0 (.ref it) (.ref D) Y.env) (RR (.ref D) (D + 1)) s₃ := by
    rintro s₃ rfl
    refine codeAny_compLoop_tests
      (fun n s' => ∃ i ys its k H', Inv Y [(D, lobj its k)] (blkSt caps σ none) H' s' ∧ Vals ys its ∧ ys.length ≤ sizeLine ∧ tn i s'.heap ∧ (∀ b ∈ fp, H' b = none) ∧ W i n ys H') ?_ m0
      ⟨0, [], [], 0, H, pinD IY hDok.1 hacc, .nil, Nat.zero_le _, T.keep _ _ _ t0 fun b _ o e => old b o e, fun b hb => (hf b hb).1, w0⟩
    rintro n s1 ⟨i, ys, its, k, H1, I1, rv, hl, st1, fr1, w1⟩
    have pin1 : ∀ p ∈ [(D, lobj its k)], p.1 = D := fun p hp => by
      have hp' : p = (D, lobj its k) := by simpa using hp
      rw [hp']
    rcases turn i n ys H1 w1 with ⟨stop, qn⟩ | ⟨go, hsz, Nx, hNx, step⟩
    · have z := T.done Y pr1 pr2 pr3 (pr4.trans hcalm) i [(D, lobj its k)] s1 (blkSt caps σ none) H1 (notedBy (model X.prog X.w) X.A Y.env fun e s' => RR (.ref D) (D + 1) (.error e) s') I1 (fpY fr1 pin1) st1 stop
      rw [pr5] at z
      refine thn z fun r s2 ⟨hr, I2⟩ => ?_
      subst hr
      obtain ⟨eD, nD, _, _, _⟩ := I2.pin (D, lobj its k) (List.mem_append_right _ List.mem_cons_self)
      have hU : Un (frs X.stack) (D :: fp) H (upd H1 D (.lst ys)) s.heap s2.heap := by
        have b := I2.base
        rw [fsY, exY] at b
        have b' : Un (frs X.stack) (D :: fp) H H1 s.heap s2.heap := by
          have e1 : Y.H₀ = H := by rw [← hY]; rfl
          have e2 : Y.s₀ = s := by rw [← hY]; rfl
          rw [e1, e2] at b; exact b
        have ne : ∀ a u, H1 a = some u → a ≠ D := fun a u e => ne_of_none e nD
        exact ⟨b'.keep, b'.slot, fun a o e n hx => by rw [upd_ne (fun z => hx (by rw [z]; exact List.mem_cons_self))]; exact b'.free a o e n hx, b'.there,
          fun a xs e => by rw [upd_ne (ne _ _ (b'.tups a xs e))]; exact b'.tups a xs e, fun a o u e => by rw [upd_ne (ne _ _ (b'.frzs a o u e))]; exact b'.frzs a o u e,
          fun a ps e => by obtain ⟨mo, q⟩ := b'.tbls a ps e; exact ⟨mo, by rw [upd_ne (ne _ _ q)]; exact q⟩⟩
      have hHok : HOk X.prog X.w (upd H1 D (.lst ys)) s2.heap := by
        have q := I2.hok
        rw [pr1, pr2] at q
        exact q.adopt nD ⟨hl, its, k, rv, eD⟩
      have IX : Inv X pins σ (upd H1 D (.lst ys)) s2 := I.call' (by have := I2.os; rw [show Y.s₀ = s by rw [← hY]; rfl] at this; exact this) hU hHok I2.bare (fun b hb => by
        rcases List.mem_cons.mp hb with rfl | hb
        · exact ⟨hDok.2.2.2.1, hDok.2.1, hDok.2.2.2.2.1, hDok.2.2.2.2.2⟩
        · have q := hf b hb
          exact ⟨q.2.2.2.1, q.2.1, q.2.2.2.2.1, q.2.2.2.2.2⟩)
      obtain ⟨mC, hnC, _⟩ := I2.loc
      rw [locY] at hnC
      have fC := I2.free
      rw [locY] at fC
      exact fin D (D + 1) s2 mC H1 ys IX (qn D nD) hnC ⟨by rw [upd_ne (fun z => hDC z.symm)]; exact fC, hCok.2⟩ hCok.2.1
    · have z := wp_pull (T.item Y pr1 pr2 pr3 (pr4.trans hcalm) i [(D, lobj its k)] s1 (blkSt caps σ none) H1 (notedBy (model X.prog X.w) X.A Y.env fun e s' => RR (.ref D) (D + 1) (.error e) s') I1 (fpY fr1 pin1) st1 go)
      rw [pr5] at z
      refine thn z fun r s2 ⟨u, hr, v, H2, I2, ru, yld, st2, fr2⟩ => ?_
      subst hr
      have I2' := I2.pinned (fpY fr2 pin1) (T.obj _ _ st2)
      have lxY : Y.env.scope.names.lookup x = some .local := by rw [envY]; exact lookup_relabel_local S.lx
      have g := pg_name (X := Y) (i := 0) (x := x) (pos := px) (by rw [pr6]; exact S.nd) (by rw [pr6]; exact S.n0) (.inl lxY) (.inr lxY)
      have a := g _ s2 _ H2 v u (fun σ' H' => σ' = blkSt caps σ (some v) ∧ H' = H2) I2' ru ⟨rfl, rfl⟩
      rw [pr1, pr2, pr5, pr7] at a
      refine wpAny_mono a (fun _ s3 ⟨σ3, H3, I3, e1, e2⟩ => ?_) fun _ _ f => f.elim
      subst e1 e2
      have c := hcY _ s3 _ H3 _ I3 (step v H3 yld)
      rw [pr1, pr2, pr5, pr7] at c
      refine wpAny_mono c (fun b s4 ⟨H4, I4, q4⟩ => ?_) fun _ _ f => f.elim
      -- the turn's end: D's object is told, the rest kept
      have again : ∀ {s5 : Shared} {H5 : Hp} {ys' : List V} {its' : List Value} {k' m' : Nat}, Inv Y (pinsAt fp s2.heap) (blkSt caps σ (some v)) H5 s5 → H5 D = none → s5.heap.get? D = some (lobj its' k') → Vals ys' its' → ys'.length ≤ sizeLine → m' < n → W (i + 1) m' ys' H5 →
          ∃ m, m < n ∧ ∃ i ys its k H', Inv Y [(D, lobj its k)] (blkSt caps σ none) H' s5 ∧ Vals ys its ∧ ys.length ≤ sizeLine ∧ tn i s5.heap ∧ (∀ b ∈ fp, H' b = none) ∧ W i m ys H' := fun {s5 H5 ys' its' k' m'} I5 nD eD rv' hl' hm w' => by
        refine ⟨m', hm, i + 1, ys', its', k', H5, pinD ((I5.pins_of fun p hp => by simp at hp).weak (by simp [blkSt]) fun j w hj => ?_) nD eD, rv', hl', T.keep _ _ _ st2 fun b hb o e => (I5.pin (b, o) (List.mem_append_right _ (mem_pinsAt hb e))).1, fun b hb => ?_, w'⟩
        · cases j with
          | zero => simp [blkSt] at hj
          | succ j => simpa [blkSt] using hj
        · obtain ⟨o, e, d⟩ := T.obj _ _ st2 b hb
          exact (I5.pin (b, o) (List.mem_append_right _ (mem_pinsAt hb e))).2.1
      have drop1 : ∀ {s5 : Shared} {H5 : Hp} {σ5 : St}, Inv Y ([(D, lobj its k)] ++ pinsAt fp s2.heap) σ5 H5 s5 → Inv Y (pinsAt fp s2.heap) σ5 H5 s5 := fun I5 => I5.pins_of fun p hp => I5.pin p (List.mem_append_right _ (List.mem_append_right _ hp))
      cases b with
      | false =>
        obtain ⟨m', hm, w'⟩ := hNx _ _ q4
        obtain ⟨eD, nD, _⟩ := I4.pin (D, lobj its k) (List.mem_append_right _ (List.mem_append_left _ List.mem_cons_self))
        exact again (drop1 I4) nD eD rv hl hm w'
      | true =>
        rw [if_pos rfl]
        rw [if_pos rfl] at q4
        have d := heY _ s4 _ H4 _ I4 q4
        rw [pr1, pr2, pr5, pr7] at d
        refine wpAny_mono d (fun w s5 ⟨y, H5, I5, ry, q5⟩ => ?_) fun _ _ f => f.elim
        obtain ⟨m', hm, w'⟩ := hNx _ _ q5
        obtain ⟨eD, nD, _⟩ := I5.pin (D, lobj its k) (List.mem_append_right _ (List.mem_append_left _ List.mem_cons_self))
        refine append_at (hsz := by rw [List.size_toArray, ← rv.length]; exact hl) eD fun h6 hs6 hD6 => ?_
        have I6 : Inv Y (pinsAt fp s2.heap) (blkSt caps σ (some v)) H5 { s5 with heap := h6, toks := s5.toks } := (drop1 I5).turned (fun b o hb e => (hs6.2 b hb).trans e) nD (IY.ok.exf D hDY).1 (.inl hDY) (fun y c e => (IY.ok.exf D hDY).2 y c e) (fun p hp => by
          rw [pnY, List.nil_append] at hp
          intro z
          exact hDfp (by rw [← z]; exact (of_pinsAt hp).1))
        refine again (ys' := ys ++ [y]) (its' := its ++ [w]) (k' := k + 1) I6 nD ?_ (rv.append (.cons ry .nil)) (by rw [List.length_append, List.length_singleton]; exact hsz) hm w'
        rw [hD6]
        show some ({ cls := .type "list", data := .seq (its.toArray.push w) (k + 1) } : Obj) = some { cls := .type "list", data := .seq (its ++ [w]).toArray (k + 1) }
        rw [List.push_toArray]
  rw [envY] at loop
  have st1 : tn 0 h₁ := T.keep _ _ _ t0 fun b _ o e => old b o e
  exact codeAny_compStart_list (loop _ rfl) (T.self _ 0 _ _ _ st1 (loop _ rfl))

/-- a comprehension as a value -/
theorem pe_comp {elt iter : Expr} {px pos : Pos} {ifs : List Expr} {wi : TI} {tc : TT} {te : TE} (hcalm : X.calm = true) (S : CSc X scope x N caps) (hi : PI X (.Name x px) iter wi)
    (hc : ∀ C s H ex, PIfs (blk X N scope C s H ex) ifs tc) (he : ∀ C s H ex, PE (blk X N scope C s H ex) elt te) (hs : ∀ x, foldedSetIterable iter X.env x = pure x := by intro _; rfl) :
    PE X (.ListComp elt [⟨.Name x px, iter, ifs, 0⟩] scope pos) (tComp wi caps tc te) := by
  intro pins s σ H Q I h
  rw [eval_ListComp]
  refine wpAny_comprehension_free (use := none) rfl hs (closureFor_of (S.cells I.ok)) S.kind S.names (thn (hi pins s σ H _ I h) fun xv s1 h1 => thn h1 fun itv s2 h2 => ?_)
  obtain ⟨it, fp, tn, J, H2, e, I2, T, st2, f2, wc⟩ := h2
  subst e
  refine comp_block (RR := fun acc C => compPost (model X.prog X.w) X.A X.xe none (EP X pins σ Q) acc C) hcalm S hc he I2 T st2 f2 wc fun D C s' m' H' ys I' q hn fC _ => ?_
  refine ⟨m', hn, fun h' hs' => ⟨.ref D, upd H' D (.lst ys), ?_, rfl, q⟩⟩
  exact I'.turned (t' := s'.toks) (fun b o hb e => (hs'.2 b hb).trans e) fC.1 fC.2.1 fC.2.2.2.1 fC.2.2.2.2.1 fC.2.2.2.2.2
/-- y = a comprehension, y a plain local name -/
theorem ps_comp {elt iter : Expr} {px py pos spos : Pos} {ifs : List Expr} {wi : TI} {tc : TT} {te : TE} {y : Str} {i : Nat} (hcalm : X.calm = true) (S : CSc X scope x N caps) (hi : PI X (.Name x px) iter wi)
    (hc : ∀ C s H ex, PIfs (blk X N scope C s H ex) ifs tc) (he : ∀ C s H ex, PE (blk X N scope C s H ex) elt te) (hN : X.N.Nodup) (hy : X.N[i]? = some y) (hx : X.env.scope.names.lookup y = some .local)
    (hsw : swapsWith (.ListComp elt [⟨.Name x px, iter, ifs, 0⟩] scope pos) (some (.Name y py)) spos.line X.env = pure true) (hs : ∀ x, foldedSetIterable iter X.env x = pure x := by intro _; rfl) :
    PS X (.Assign [.Name y py] (.ListComp elt [⟨.Name x px, iter, ifs, 0⟩] scope pos) spos) (fun D σ H => tComp wi caps tc te σ H fun v H1 => D.nx (σ.set i (some v)) H1) := by
  intro pins s σ H D I h
  rw [exec_Assign_Name_used _ _ _ _ hsw]
  refine wpAny_bind (wpAny_standAt (wpAny_bind ?_))
  show wpAny _ X.A (do let _ ← comprehension (.ListComp elt [⟨.Name x px, iter, ifs, 0⟩] scope pos) scope X.env _ (newList []) false (eval iter X.env) (some (assign (.Name y py) X.env))) _ _ s
  refine wpAny_bind (wpAny_mono (wpAny_comprehension_free (use := some (assign (.Name y py) X.env)) (Q := fun _ s' => SP X pins D .next s') rfl hs (closureFor_of (S.cells I.ok)) S.kind S.names
    (thn (hi pins s σ H _ I h) fun xv s1 h1 => thn h1 fun itv s2 h2 => ?_)) (fun _ s' hq => wpAny_pure (wpAny_pure hq)) fun _ _ e => e)
  obtain ⟨it, fp, tn, J, H2, e, I2, T, st2, f2, wc⟩ := h2
  subst e
  refine comp_block (RR := fun acc C => compPost (model X.prog X.w) X.A X.xe (some (assign (.Name y py) X.env)) (fun _ s' => SP X pins D .next s') acc C) hcalm S hc he I2 T st2 f2 wc fun d C s' m' H' ys I' q hn fC hCL => ?_
  show wpAny _ X.A (assign (.Name y py) X.env (.ref d)) _ _ _
  refine wpAny_assign_Name (store_ok2 I' hN hy (.inl hx) (v := .ref d) rfl (fun s'' I'' ⟨a, hs, ha⟩ => ?_) (.inr hx))
  have hne : C ≠ a := by
    rcases ha with rfl | ha
    · exact hCL
    · exact fun z => fC.2.2.2.2.1 _ _ ha z.symm
  refine ⟨m', hn.sameBut hs hne, fun h' hs' => ⟨_, _, I''.turned (t' := s''.toks) (fun b o hb e => (hs'.2 b hb).trans e) fC.1 fC.2.1 fC.2.2.2.1 fC.2.2.2.2.1 fC.2.2.2.2.2, q⟩⟩
end
end L2

namespace L2
open PySem PySem.Spec PyProof.Rows

/-! ### texts walked -/
noncomputable def Its (x : Str) : It := ⟨fun i _ => i < x.cps.size, fun i H v H' => H' = H ∧ ∃ c, x.cps[i]? = some c ∧ v = .str ⟨#[c]⟩, fun i _ => i = x.cps.size⟩
theorem turn_str {P : Program} {w : World} {K : PySem.W.Frag} {tg : Expr} (it : Addr) (x : Str) (t : Tok) {ty : String} (hty : ty = "str_ascii_iterator" ∨ ty = "str_iterator") : Turn P w K tg (Its x) [it] it (fun i h => h.IsStrIter it ty x t i) where
  mem := by simp
  obj := fun i h st b hb => by
    have e : b = it := by simpa using hb
    subst e
    obtain ⟨o, e, c, d⟩ := st
    exact ⟨o, e, fun v z => by rw [d] at z; cases z⟩
  keep := fun i h h' st k => by
    obtain ⟨o, e, c, d⟩ := st
    exact ⟨o, k it (by simp) o e, c, d⟩
  item := by
    intro X hP hw hK hc i pins s σ H E I hf st hg
    subst hP hw hK
    obtain ⟨f0, f1, f2, f3, f4, f5⟩ := hf it (by simp)
    have W : Walks X.prog X.w X.A it [it] [it] x.cps.size (SignAt x) (fun i h => h.IsStrIter it ty x t i) := by
      rcases hty with rfl | rfl
      · exact Walks.strAscii (I.ok.hd hc) it x t
      · exact Walks.strWide (I.ok.hd hc) it x t
    refine W.item i s _ _ hg st fun v h' tk hv st' kk => ?_
    obtain ⟨c, u, e, rfl⟩ := hv
    have I1 : Inv X pins σ H { s with heap := h', toks := tk } := I.turned (fun b o hb e => kk b o (by simpa using hb) e) f0 f1 f3 f4 f5
    obtain ⟨o, eo, co, dO⟩ := id st'
    refine ⟨_, rfl, go_of (s := { s with heap := h', toks := tk }) eo co dO (by rcases hty with rfl | rfl <;> decide) ⟨.str ⟨#[c]⟩, H, I1, ⟨u, rfl⟩, ⟨rfl, c, e, rfl⟩, st', fun b hb => (hf b hb).1⟩⟩
  done := by
    intro X hP hw hK hc i pins s σ H E I hf st hg
    subst hP hw hK
    obtain ⟨f0, f1, f2, f3, f4, f5⟩ := hf it (by simp)
    have W : Walks X.prog X.w X.A it [it] [it] x.cps.size (SignAt x) (fun i h => h.IsStrIter it ty x t i) := by
      rcases hty with rfl | rfl
      · exact Walks.strAscii (I.ok.hd hc) it x t
      · exact Walks.strWide (I.ok.hd hc) it x t
    have hg' : i = x.cps.size := hg
    subst hg'
    exact W.done s _ _ st fun h' tk kk => ⟨rfl, I.turned (fun b o hb e => kk b o (by simpa using hb) e) f0 f1 f3 f4 f5⟩
  self := fun _ _ _ _ _ st h => by
    rcases hty with rfl | rfl
    · exact wpAny_pyIter_striter_ascii st h
    · exact wpAny_pyIter_striter_wide st h
noncomputable def iStr (tl : TE) : TI := fun σ H R => tl σ H fun x H1 => ∃ z, x = .str z ∧ R (Its z) H1
theorem pi_str {X : Cx} {tg l : Expr} {tl : TE} (hl : PE X l tl) : PI X tg l (iStr tl) := by
  intro pins s σ H R I h
  refine thn (hl pins s σ H _ I h) fun v s1 ⟨x, H1, I1, r1, q1⟩ => ?_
  obtain ⟨z, e, q⟩ := q1
  subst e
  obtain ⟨t, rfl⟩ := r1
  have fin : ∀ {ty : String}, ty = "str_ascii_iterator" ∨ ty = "str_iterator" → PIE X pins σ tg R (.ref s1.heap.objs.size) { s1 with heap := s1.heap.push { cls := .type ty, data := .fields #[.str z t, .int 0 0] } } := fun {ty} hty => by
    refine ⟨s1.heap.objs.size, [s1.heap.objs.size], _, _, H1, rfl, I1.kept (t' := s1.toks) fun b o e => Heap.get?_push_of_some _ e, turn_str _ z t hty, ⟨_, Heap.get?_push_size _ rfl, rfl, rfl⟩, fun b hb => ?_, q⟩
    have e : b = s1.heap.objs.size := by simpa using hb
    subst e
    exact I1.fpOk (Nat.le_refl _) (I1.hok.fresh (Nat.le_refl _))
  cases ha : z.cps.all (· < 128)
  · exact wpAny_pyIter_wide ha (fin (.inr rfl))
  · exact wpAny_pyIter_ascii ha (fin (.inl rfl))

/-! ### the forms of a comprehension -/
theorem comp_list {K : PySem.W.Frag} {a : Addr} {xs : List V} {caps : List Nat} {tc : TT} {te : TE} {σ : St} {H : Hp} {Q : VK} (Pv : Nat → List V → Hp → Prop) (h0 : Pv 0 [] H) (hx : xs.length < sizeLine) (hy : ∀ i ys H, Pv i ys H → ys.length ≤ i)
    (hl : ∀ i ys H, i ≤ xs.length → Pv i ys H → SqL K H a xs)
    (hs : ∀ i x ys H, xs[i]? = some x → Pv i ys H → tc (blkSt caps σ (some x)) H fun b H2 => if b = true then te (blkSt caps σ (some x)) H2 fun y H3 => Pv (i + 1) (ys ++ [y]) H3 else Pv (i + 1) ys H2)
    (hd : ∀ ys H, Pv xs.length ys H → ∀ p, H p = none → Q (.ref p) (upd H p (.lst ys))) : wComp (Itl K a) caps tc te σ H Q := by
  refine ⟨fun i m ys H => m = xs.length - i ∧ i ≤ xs.length ∧ Pv i ys H, ⟨xs.length, by simp, Nat.zero_le _, h0⟩, ?_⟩
  rintro i m ys H ⟨rfl, hi, p⟩
  have q := hl i ys H hi p
  by_cases hlt : i < xs.length
  · refine .inr ⟨⟨xs, xs[i], q, by simp [hlt]⟩, Nat.lt_of_le_of_lt (Nat.le_trans (hy i ys H p) hi) hx, Pv (i + 1), fun ys' H' p' => ⟨xs.length - (i + 1), by omega, rfl, hlt, p'⟩, fun x H' y => ?_⟩
    obtain ⟨e, y⟩ := y
    subst e
    exact hs i x ys _ (y xs q) p
  · have e : i = xs.length := by omega
    subst e
    exact .inl ⟨⟨xs, q, Nat.le_refl _⟩, hd ys H p⟩
theorem comp_range {lo : Int} {n : Nat} {caps : List Nat} {tc : TT} {te : TE} {σ : St} {H : Hp} {Q : VK} (Pv : Nat → List V → Hp → Prop) (h0 : Pv 0 [] H) (hx : n < sizeLine) (hy : ∀ i ys H, Pv i ys H → ys.length ≤ i)
    (hs : ∀ i ys H, i < n → Pv i ys H → tc (blkSt caps σ (some (.int (lo + i)))) H fun b H2 => if b = true then te (blkSt caps σ (some (.int (lo + i)))) H2 fun y H3 => Pv (i + 1) (ys ++ [y]) H3 else Pv (i + 1) ys H2)
    (hd : ∀ ys H, Pv n ys H → ∀ p, H p = none → Q (.ref p) (upd H p (.lst ys))) : wComp (Itr lo n) caps tc te σ H Q := by
  refine ⟨fun i m ys H => m = n - i ∧ i ≤ n ∧ Pv i ys H, ⟨n, by simp, Nat.zero_le _, h0⟩, ?_⟩
  rintro i m ys H ⟨rfl, hi, p⟩
  by_cases hlt : i < n
  · refine .inr ⟨hlt, Nat.lt_of_le_of_lt (Nat.le_trans (hy i ys H p) hi) hx, Pv (i + 1), fun ys' H' p' => ⟨n - (i + 1), by omega, rfl, hlt, p'⟩, fun x H' y => ?_⟩
    obtain ⟨e, y⟩ := y
    subst e y
    exact hs i ys _ hlt p
  · have e : i = n := by omega
    subst e
    exact .inl ⟨Nat.le_refl _, hd ys H p⟩
theorem comp_str {x : Str} {caps : List Nat} {tc : TT} {te : TE} {σ : St} {H : Hp} {Q : VK} (Pv : Nat → List V → Hp → Prop) (h0 : Pv 0 [] H) (hx : x.cps.size < sizeLine) (hy : ∀ i ys H, Pv i ys H → ys.length ≤ i)
    (hs : ∀ i c ys H, x.cps[i]? = some c → Pv i ys H → tc (blkSt caps σ (some (.str ⟨#[c]⟩))) H fun b H2 => if b = true then te (blkSt caps σ (some (.str ⟨#[c]⟩))) H2 fun y H3 => Pv (i + 1) (ys ++ [y]) H3 else Pv (i + 1) ys H2)
    (hd : ∀ ys H, Pv x.cps.size ys H → ∀ p, H p = none → Q (.ref p) (upd H p (.lst ys))) : wComp (Its x) caps tc te σ H Q := by
  refine ⟨fun i m ys H => m = x.cps.size - i ∧ i ≤ x.cps.size ∧ Pv i ys H, ⟨x.cps.size, by simp, Nat.zero_le _, h0⟩, ?_⟩
  rintro i m ys H ⟨rfl, hi, p⟩
  by_cases hlt : i < x.cps.size
  · refine .inr ⟨hlt, Nat.lt_of_le_of_lt (Nat.le_trans (hy i ys H p) hi) hx, Pv (i + 1), fun ys' H' p' => ⟨x.cps.size - (i + 1), by omega, rfl, hlt, p'⟩, fun v H' y => ?_⟩
    obtain ⟨e, c, ec, ev⟩ := y
    subst e ev
    exact hs i c ys _ ec p
  · have e : i = x.cps.size := by omega
    subst e
    exact .inl ⟨rfl, hd ys H p⟩

section
variable {X : Cx}
/-! ### texts: slices, order, join -/
noncomputable def rSlS : V → Option Int → Option Int → Hp → VK → Prop := fun x lo hi H Q => ∃ z, x = .str z ∧ z.length ≤ sizeLine ∧ Q (.str (Txt.slice z lo hi)) H
theorem sl_str : SlR X rSlS := by
  intro pins s σ H x v vl vu lo hi sl Q I rx hs pl pu h
  obtain ⟨z, rfl, hz, q⟩ := h
  obtain ⟨t, rfl⟩ := rx
  refine ⟨"str", _, F.slot_str_getitem.lookup, typeIs_str _ _ _, ?_⟩
  have fin : ∀ t' k, EP X pins σ Q (.str (Txt.slice z lo hi) t') { s with toks := k } := fun t' k => ⟨.str _, H, I.tok _, ⟨_, rfl⟩, q⟩
  cases pl with
  | none =>
    cases pu with
    | none => exact wpAny_getItem_str_slice (l := none) (u := none) (st := none) hs rfl (post_val_or_str ⟨Nat.le_trans (Txt.slice_le z _ _) hz, fin⟩)
    | int j uj => exact wpAny_getItem_str_slice (l := none) (u := some (j, uj)) (st := none) hs rfl (post_val_or_str ⟨Nat.le_trans (Txt.slice_le z _ _) hz, fin⟩)
  | int i ui =>
    cases pu with
    | none => exact wpAny_getItem_str_slice (l := some (i, ui)) (u := none) (st := none) hs rfl (post_val_or_str ⟨Nat.le_trans (Txt.slice_le z _ _) hz, fin⟩)
    | int j uj => exact wpAny_getItem_str_slice (l := some (i, ui)) (u := some (j, uj)) (st := none) hs rfl (post_val_or_str ⟨Nat.le_trans (Txt.slice_le z _ _) hz, fin⟩)
theorem op_le_str : OpR X (compareOp .LtE) (fun x y H Q => ∃ i j, x = .str i ∧ y = .str j ∧ Q (.bl (!decide (j.cps.toList < i.cps.toList))) H) := by
  intro pins s σ H x y v u Q I rx ry h
  obtain ⟨i, j, rfl, rfl, q⟩ := h
  obtain ⟨t, rfl⟩ := rx
  obtain ⟨t', rfl⟩ := ry
  exact PySem.P.le_str ⟨.bl _, H, I, rfl, q⟩
theorem strsAre_of {ys : List Str} : ∀ {us : List Value}, Vals (ys.map V.str) us → StrsAre us ys := by
  induction ys with
  | nil => intro us r; cases r; exact .nil
  | cons y ys ih =>
    intro us r
    cases r with
    | cons r t =>
      obtain ⟨k, rfl⟩ := r
      exact .cons y k (ih t)
noncomputable def rJoin (K : PySem.W.Frag) : V → List V → Hp → VK → Prop := fun x xs H Q => ∃ sep a ys, x = .str sep ∧ xs = [.ref a] ∧ (SqL K H a (ys.map V.str) ∨ SqT K H a (ys.map V.str)) ∧ (ys.map (·.length)).sum + ys.length * sep.length ≤ 16777216 ∧ Q (.str (Txt.join sep ys)) H
theorem mt_join : MtR X "str.join" (rJoin X.K) := by
  intro pins s σ H x xs v us Q I rx rs h
  obtain ⟨sep, a, ys, rfl, rfl, hq, hok, q⟩ := h
  obtain ⟨t, rfl⟩ := rx
  obtain ⟨u, rfl, ru⟩ := vals1 rs
  cases ru
  rcases hq with hq | hq
  · obtain ⟨its, rv, p, hz⟩ := I.list hq
    exact join_list p.isList (strsAre_of rv) hok fun t' k => ⟨.str _, H, I.tok _, ⟨_, rfl⟩, q⟩
  · obtain ⟨its, rv, p, hz⟩ := I.tuple hq
    exact join_tuple p (strsAre_of rv) hok fun t' k => ⟨.str _, H, I.tok _, ⟨_, rfl⟩, q⟩
noncomputable def rMulS : R2 := fun x y H Q => ∃ z k, x = .str z ∧ y = .int k ∧ MulOk z k ∧ Q (.str (Txt.mul z k)) H
theorem op_mulS : OpR X (binaryOp .Mult) rMulS := by
  intro pins s σ H x y v u Q I rx ry h
  obtain ⟨z, k, rfl, rfl, hk, q⟩ := h
  obtain ⟨t, rfl⟩ := rx
  obtain ⟨t', rfl⟩ := ry
  exact SB.mul hk fun t' k => ⟨.str _, H, I.tok _, ⟨_, rfl⟩, q⟩
/-! ### f-strings -/
noncomputable def tJs : List TE → Str → TE
  | [], acc => fun _ H Q => acc.length ≤ sizeLine ∧ Q (.str acc) H
  | t :: r, acc => fun σ H Q => t σ H fun v H1 => ∃ y, v = .str y ∧ (acc ++ y).length ≤ sizeLine ∧ tJs r (acc ++ y) σ H1 Q
inductive PEs (X : Cx) : List Expr → List TE → Prop
  | nil : PEs X [] []
  | cons {e : Expr} {t : TE} {es : List Expr} {ts : List TE} : PE X e t → PEs X es ts → PEs X (e :: es) (t :: ts)
theorem pe_parts {pins : List (Addr × Obj)} {σ : St} {Q : VK} {es : List Expr} {ts : List TE} (h : PEs X es ts) : ∀ (acc : Str) (H : Hp) (s : Shared), Inv X pins σ H s → tJs ts acc σ H Q →
    Joins (model X.prog X.w) X.A X.xe (evalEach es X.env) acc (fun out s₁ => out.length ≤ sizeLine ∧ EP X pins σ Q (.str out s₁.toks) { s₁ with toks := s₁.toks + 1 }) s := by
  induction h with
  | nil => intro acc H s I h; exact ⟨h.1, .str acc, H, I.tok _, ⟨_, rfl⟩, h.2⟩
  | @cons e t es ts he _ ih =>
    intro acc H s I h
    refine thn (he pins s σ H _ I h) fun v s1 ⟨x, H1, I1, r1, y, ey, hz, q⟩ => ?_
    subst ey
    obtain ⟨t, rfl⟩ := r1
    exact ⟨y, t, rfl, hz, ih _ H1 s1 I1 q⟩
theorem pe_js {e1 e2 : Expr} {es : List Expr} {ts : List TE} {pos : Pos} (h : PEs X (e1 :: e2 :: es) ts) : PE X (.JoinedStr (e1 :: e2 :: es) pos) (tJs ts Str.empty) := by
  intro pins s σ H Q I hw
  exact JoinedStr_many (wpAny_joinPartsRec _ _ _ _ (pe_parts h _ H s I hw))
/-! ### all, any of bools -/
theorem truthOf_bools {P : Program} {w : World} {A : Around} {bs : List Bool} {its : List Value} (r : Vals (bs.map V.bl) its) : TruthOf P w A (fun i v => its.toArray[i]? = some v) (fun i => bs.getD i false) := fun i v s Q E hv hq => by
  have hv' : its[i]? = some v := by simpa using hv
  have hi : i < its.length := (List.getElem?_eq_some_iff.mp hv').1
  have hb : i < bs.length := by have := r.length; simp at this; omega
  obtain ⟨u, hu, ru⟩ := r.get (i := i) (x := .bl bs[i]) (by simp [hb])
  rw [hv'] at hu; cases hu
  cases ru
  have e : bs.getD i false = bs[i] := by simp [List.getD, hb]
  have hq' : Q (bs.getD i false) s := hq
  rw [e] at hq'
  exact wpAny_truthy_bool hq'
theorem all_range (bs : List Bool) : (List.range bs.length).all (fun i => bs.getD i false) = bs.all id := by
  rw [Bool.eq_iff_iff, List.all_eq_true, List.all_eq_true]
  constructor
  · intro h b hb
    obtain ⟨i, hi, rfl⟩ := List.mem_iff_getElem.mp hb
    have := h i (List.mem_range.mpr hi)
    simpa [List.getD, hi] using this
  · intro h i hi
    have hi := List.mem_range.mp hi
    have := h bs[i] (List.getElem_mem hi)
    simpa [List.getD, hi] using this
theorem call_all (hc : X.calm = true) : CallR X (.builtin "all") (fun xs H Q => ∃ (a : Addr) (bs : List Bool), xs = [.ref a] ∧ SqL X.K H a (bs.map V.bl) ∧ Q (.bl (bs.all id)) H) := by
  intro pins s σ H xs us Q I r h
  obtain ⟨a, bs, rfl, hq, q⟩ := h
  obtain ⟨u, rfl, ru⟩ := vals1 r
  cases ru
  obtain ⟨its, rv, p, hz⟩ := I.list hq
  have I1 : Inv X pins σ H { s with heap := s.heap.push { cls := .type "list_iterator", data := .fields #[.ref a, .int 0 0] } } := I.kept (t' := s.toks) fun b o e => Heap.get?_push_of_some _ e
  have fp := I.fpOk (b := s.heap.objs.size) (Nat.le_refl _) (I.hok.fresh (Nat.le_refl _))
  have hl := rv.length
  have hlt : a < s.heap.objs.size := by obtain ⟨o, ho, _⟩ := p.isList; exact Heap.lt_size ho
  refine call_all_walk (wpAny_pyIter_list p.isList ⟨s.heap.objs.size, [s.heap.objs.size, a], [s.heap.objs.size], its.toArray.size, _, _, fun i => bs.getD i false, rfl,
    Walks.list (A := X.A.in1) (show X.A.in1.handled = none from I.ok.hd hc) _ _ (Nat.ne_of_lt hlt) its.toArray, ⟨⟨_, Heap.get?_push_size _ rfl, rfl, rfl⟩, p.isList.push _⟩, truthOf_bools rv, fun h' tk kk => ?_⟩)
  refine ⟨.bl (bs.all id), H, I1.turned (fun b o hb e => kk b o (by simpa using hb) e) fp.1 fp.2.1 fp.2.2.2.1 fp.2.2.2.2.1 fp.2.2.2.2.2, ?_, q⟩
  have e : its.toArray.size = bs.length := by simp at hl ⊢; exact hl.symm
  rw [e, all_range]
  rfl
end
end L2

namespace L2
open PySem PySem.Spec PyProof.Rows

/-! ### plain data, and how the abstract heap bears it -/
inductive D where
  | non | bl (b : Bool) | int (i : Int) | str (x : Str) | tup (ds : List D) | lst (ds : List D)

mutual
noncomputable def D.eq : D → D → Bool
  | .non, e => match e with | .non => true | _ => false
  | .bl a, e => match e with | .bl b => a == b | .int j => (if a then (1 : Int) else 0) == j | _ => false
  | .int i, e => match e with | .int j => i == j | .bl b => i == (if b then (1 : Int) else 0) | _ => false
  | .str x, e => match e with | .str y => x == y | _ => false
  | .tup ds, e => match e with | .tup es => D.eqs ds es | _ => false
  | .lst ds, e => match e with | .lst es => D.eqs ds es | _ => false
noncomputable def D.eqs : List D → List D → Bool
  | [], es => es.isEmpty
  | d :: ds, es => match es with | [] => false | e :: r => D.eq d e && D.eqs ds r
end
mutual
noncomputable def D.dp : D → Nat
  | .tup ds => D.dps ds + 1
  | .lst ds => D.dps ds + 1
  | _ => 0
noncomputable def D.dps : List D → Nat
  | [] => 0
  | d :: ds => max (D.dp d) (D.dps ds)
end
mutual
/-- no truth values in it -/
noncomputable def D.cl : D → Bool
  | .bl _ => false
  | .tup ds => D.cls ds
  | .lst ds => D.cls ds
  | _ => true
noncomputable def D.cls : List D → Bool
  | [] => true
  | d :: ds => D.cl d && D.cls ds
end
mutual
theorem D.eq_refl : ∀ d : D, D.eq d d = true
  | .non => rfl
  | .bl b => by simp [D.eq]
  | .int i => by simp [D.eq]
  | .str x => by simp [D.eq]
  | .tup ds => by simp only [D.eq]; exact D.eqs_refl ds
  | .lst ds => by simp only [D.eq]; exact D.eqs_refl ds
theorem D.eqs_refl : ∀ ds : List D, D.eqs ds ds = true
  | [] => rfl
  | d :: ds => by simp only [D.eqs, D.eq_refl d, D.eqs_refl ds, Bool.and_self]
end
theorem D.eqs_length : ∀ {ds es : List D}, D.eqs ds es = true → ds.length = es.length
  | [], es, h => by cases es <;> simp_all [D.eqs]
  | d :: ds, es, h => by
    cases es with
    | nil => simp [D.eqs] at h
    | cons e r =>
      simp only [D.eqs, Bool.and_eq_true] at h
      simp [D.eqs_length h.2]
/-- == item by item -/
theorem D.eqs_all : ∀ (ds es : List D), (((List.range (min ds.length es.length)).all fun j => D.eq (ds.getD j .non) (es.getD j .non)) && ds.length == es.length) = D.eqs ds es
  | [], es => by cases es <;> simp [D.eqs]
  | d :: ds, es => by
    cases es with
    | nil => simp [D.eqs]
    | cons e r =>
      have ih := D.eqs_all ds r
      have e1 : min (d :: ds).length (e :: r).length = min ds.length r.length + 1 := by simp only [List.length_cons]; omega
      have e2 : ((d :: ds).length == (e :: r).length) = (ds.length == r.length) := by simp
      have e3 : ((List.range (min ds.length r.length + 1)).all fun j => D.eq ((d :: ds).getD j .non) ((e :: r).getD j .non)) = (D.eq d e && (List.range (min ds.length r.length)).all fun j => D.eq (ds.getD j .non) (r.getD j .non)) := by
        rw [List.range_succ_eq_map, List.all_cons, List.all_map]
        rfl
      rw [e1, e2, e3]
      simp only [D.eqs]
      rw [← ih, Bool.and_assoc]

mutual
noncomputable def Dt (H : Hp) : D → V → Prop
  | .non, v => v = .non
  | .bl b, v => v = .bl b
  | .int i, v => v = .int i
  | .str x, v => v = .str x
  | .tup ds, v => ∃ a vs, v = .ref a ∧ H a = some (.tup vs) ∧ Dts H ds vs
  | .lst ds, v => ∃ a vs, v = .ref a ∧ H a = some (.lst vs) ∧ Dts H ds vs
noncomputable def Dts (H : Hp) : List D → List V → Prop
  | [], vs => vs = []
  | d :: ds, vs => ∃ v r, vs = v :: r ∧ Dt H d v ∧ Dts H ds r
end
theorem Dts.length {H : Hp} : ∀ {ds : List D} {vs : List V}, Dts H ds vs → vs.length = ds.length
  | [], vs, h => by simp only [Dts] at h; simp [h]
  | d :: ds, vs, h => by
    simp only [Dts] at h
    obtain ⟨v, r, rfl, _, h⟩ := h
    simp [Dts.length h]
theorem Dts.get {H : Hp} : ∀ {ds : List D} {vs : List V} {i : Nat} {d : D}, Dts H ds vs → ds[i]? = some d → ∃ v, vs[i]? = some v ∧ Dt H d v
  | [], vs, i, d, _, e => by simp at e
  | d' :: ds, vs, i, d, h, e => by
    simp only [Dts] at h
    obtain ⟨v, r, rfl, h1, h2⟩ := h
    cases i with
    | zero => simp at e; subst e; exact ⟨v, rfl, h1⟩
    | succ i => simpa using Dts.get (i := i) h2 (by simpa using e)
theorem Dts.append {H : Hp} : ∀ {ds es : List D} {vs us : List V}, Dts H ds vs → Dts H es us → Dts H (ds ++ es) (vs ++ us)
  | [], es, vs, us, h, h' => by simp only [Dts] at h; subst h; simpa using h'
  | d :: ds, es, vs, us, h, h' => by
    simp only [Dts] at h
    obtain ⟨v, r, rfl, h1, h2⟩ := h
    show Dts H (d :: (ds ++ es)) (v :: (r ++ us))
    simp only [Dts]
    exact ⟨v, r ++ us, rfl, h1, Dts.append h2 h'⟩
theorem Dts.one {H : Hp} {d : D} {v : V} (h : Dt H d v) : Dts H [d] [v] := by
  simp only [Dts]
  exact ⟨v, [], rfl, h, rfl⟩
theorem Dts.nil {H : Hp} : Dts H [] [] := by simp only [Dts]
theorem Dts.cons {H : Hp} {d : D} {v : V} {ds : List D} {vs : List V} (h : Dt H d v) (t : Dts H ds vs) : Dts H (d :: ds) (v :: vs) := by
  simp only [Dts]
  exact ⟨v, vs, rfl, h, t⟩
theorem Dts.take {H : Hp} : ∀ {ds : List D} {vs : List V} (n : Nat), Dts H ds vs → Dts H (ds.take n) (vs.take n)
  | _, _, 0, _ => by simp [Dts]
  | [], vs, n + 1, h => by simp only [Dts] at h; subst h; simp [Dts]
  | d :: ds, vs, n + 1, h => by
    simp only [Dts] at h
    obtain ⟨v, r, rfl, h1, h2⟩ := h
    exact Dts.cons h1 (Dts.take n h2)
theorem Dts.drop {H : Hp} : ∀ {ds : List D} {vs : List V} (n : Nat), Dts H ds vs → Dts H (ds.drop n) (vs.drop n)
  | _, _, 0, h => h
  | [], vs, n + 1, h => by simp only [Dts] at h; subst h; simp [Dts]
  | d :: ds, vs, n + 1, h => by
    simp only [Dts] at h
    obtain ⟨v, r, rfl, h1, h2⟩ := h
    exact Dts.drop n h2
theorem Dts.set {H : Hp} {d : D} {v : V} (h : Dt H d v) : ∀ {ds : List D} {vs : List V} (n : Nat), Dts H ds vs → Dts H (ds.set n d) (vs.set n v)
  | [], vs, n, h' => by simp only [Dts] at h'; subst h'; simp [Dts]
  | e :: ds, vs, 0, h' => by
    simp only [Dts] at h'
    obtain ⟨u, r, rfl, h1, h2⟩ := h'
    exact Dts.cons h h2
  | e :: ds, vs, n + 1, h' => by
    simp only [Dts] at h'
    obtain ⟨u, r, rfl, h1, h2⟩ := h'
    exact Dts.cons h1 (Dts.set h n h2)
mutual
theorem Dt.inj {H : Hp} : ∀ {d e : D} {v : V}, Dt H d v → Dt H e v → d = e
  | .non, e, v, h, h' => by simp only [Dt] at h; subst h; cases e <;> simp_all [Dt]
  | .bl b, e, v, h, h' => by simp only [Dt] at h; subst h; cases e <;> simp_all [Dt]
  | .int i, e, v, h, h' => by simp only [Dt] at h; subst h; cases e <;> simp_all [Dt]
  | .str x, e, v, h, h' => by simp only [Dt] at h; subst h; cases e <;> simp_all [Dt]
  | .tup ds, e, v, h, h' => by
    simp only [Dt] at h
    obtain ⟨a, vs, rfl, ea, hs⟩ := h
    cases e with
    | tup es =>
      simp only [Dt] at h'
      obtain ⟨a', vs', q, ea', hs'⟩ := h'
      cases q
      rw [ea] at ea'; cases ea'
      rw [Dts.inj hs hs']
    | lst es =>
      simp only [Dt] at h'
      obtain ⟨a', vs', q, ea', hs'⟩ := h'
      cases q
      rw [ea] at ea'; cases ea'
    | _ => simp [Dt] at h'
  | .lst ds, e, v, h, h' => by
    simp only [Dt] at h
    obtain ⟨a, vs, rfl, ea, hs⟩ := h
    cases e with
    | lst es =>
      simp only [Dt] at h'
      obtain ⟨a', vs', q, ea', hs'⟩ := h'
      cases q
      rw [ea] at ea'; cases ea'
      rw [Dts.inj hs hs']
    | tup es =>
      simp only [Dt] at h'
      obtain ⟨a', vs', q, ea', hs'⟩ := h'
      cases q
      rw [ea] at ea'; cases ea'
    | _ => simp [Dt] at h'
theorem Dts.inj {H : Hp} : ∀ {ds es : List D} {vs : List V}, Dts H ds vs → Dts H es vs → ds = es
  | [], es, vs, h, h' => by
    simp only [Dts] at h; subst h
    cases es <;> simp_all [Dts]
  | d :: ds, es, vs, h, h' => by
    simp only [Dts] at h
    obtain ⟨v, r, rfl, h1, h2⟩ := h
    cases es with
    | nil => simp [Dts] at h'
    | cons e es =>
      simp only [Dts] at h'
      obtain ⟨v', r', q, h1', h2'⟩ := h'
      cases q
      rw [Dt.inj h1 h1', Dts.inj h2 h2']
end
mutual
theorem Dt.same {H H' : Hp} (S : Same H H') : ∀ {d : D} {v : V}, Dt H d v → Dt H' d v
  | .non, v, h => h
  | .bl b, v, h => h
  | .int i, v, h => h
  | .str x, v, h => h
  | .tup ds, v, h => by
    simp only [Dt] at h ⊢
    obtain ⟨a, vs, rfl, ea, hs⟩ := h
    exact ⟨a, vs, rfl, S _ _ ea, Dts.same S hs⟩
  | .lst ds, v, h => by
    simp only [Dt] at h ⊢
    obtain ⟨a, vs, rfl, ea, hs⟩ := h
    exact ⟨a, vs, rfl, S _ _ ea, Dts.same S hs⟩
theorem Dts.same {H H' : Hp} (S : Same H H') : ∀ {ds : List D} {vs : List V}, Dts H ds vs → Dts H' ds vs
  | [], vs, h => h
  | d :: ds, vs, h => by
    simp only [Dts] at h ⊢
    obtain ⟨v, r, rfl, h1, h2⟩ := h
    exact ⟨v, r, rfl, Dt.same S h1, Dts.same S h2⟩
end
mutual
/-- no lists in it -/
noncomputable def D.nl : D → Bool
  | .lst _ => false
  | .tup ds => D.nls ds
  | _ => true
noncomputable def D.nls : List D → Bool
  | [] => true
  | d :: ds => D.nl d && D.nls ds
end
/-- the tuples are as they were -/
noncomputable def Tups (H H' : Hp) : Prop := ∀ b xs, H b = some (.tup xs) → H' b = some (.tup xs)
theorem Same.tups {H H' : Hp} (S : Same H H') : Tups H H' := fun b xs h => S b _ h
theorem Tups.trans {H H1 H2 : Hp} (a : Tups H H1) (b : Tups H1 H2) : Tups H H2 := fun c o h => b c o (a c o h)
theorem Tups.refl (H : Hp) : Tups H H := fun _ _ h => h
theorem Tups.lst {H : Hp} {p : Addr} {xs ys : List V} (h : H p = some (.lst xs)) : Tups H (upd H p (.lst ys)) := fun b zs e => by
  rw [upd_ne (ne_of e h (by intro z; cases z))]; exact e
mutual
theorem Dt.tups {H H' : Hp} (S : Tups H H') : ∀ {d : D} {v : V}, d.nl = true → Dt H d v → Dt H' d v
  | .non, v, _, h => h
  | .bl b, v, _, h => h
  | .int i, v, _, h => h
  | .str x, v, _, h => h
  | .tup ds, v, n, h => by
    simp only [Dt] at h ⊢
    obtain ⟨a, vs, rfl, ea, hs⟩ := h
    simp only [D.nl] at n
    exact ⟨a, vs, rfl, S _ _ ea, Dts.tups S n hs⟩
  | .lst ds, v, n, h => by simp [D.nl] at n
theorem Dts.tups {H H' : Hp} (S : Tups H H') : ∀ {ds : List D} {vs : List V}, D.nls ds = true → Dts H ds vs → Dts H' ds vs
  | [], vs, _, h => h
  | d :: ds, vs, n, h => by
    simp only [Dts] at h ⊢
    obtain ⟨v, r, rfl, h1, h2⟩ := h
    simp only [D.nls, Bool.and_eq_true] at n
    exact ⟨v, r, rfl, Dt.tups S n.1 h1, Dts.tups S n.2 h2⟩
end

/-! ### == over plain data -/
section
variable {P : Program} {w : World} {H : Hp} {s : Shared}
open PySem.SeqAt
theorem isD_obj (hok : HOk P w H s.heap) {d : D} {v : V} {u : Value} (h : Dt H d v) (r : RelV v u) :
    (∃ ds a vs its, d = .tup ds ∧ v = .ref a ∧ u = .ref a ∧ Dts H ds vs ∧ Vals vs its ∧ s.heap.IsTuple a its.toArray) ∨ (∃ ds a vs its, d = .lst ds ∧ v = .ref a ∧ u = .ref a ∧ Dts H ds vs ∧ Vals vs its ∧ s.heap.IsList a its.toArray) ∨
    (d = .non ∧ u = .none) ∨ (∃ b, d = .bl b ∧ u = .bool b) ∨ (∃ i t, d = .int i ∧ u = .int i t) ∨ ∃ x t, d = .str x ∧ u = .str x t := by
  cases d with
  | non => simp only [Dt] at h; subst h; cases r; exact .inr (.inr (.inl ⟨rfl, rfl⟩))
  | bl b => simp only [Dt] at h; subst h; cases r; exact .inr (.inr (.inr (.inl ⟨b, rfl, rfl⟩)))
  | int i => simp only [Dt] at h; subst h; obtain ⟨t, rfl⟩ := r; exact .inr (.inr (.inr (.inr (.inl ⟨i, t, rfl, rfl⟩))))
  | str x => simp only [Dt] at h; subst h; obtain ⟨t, rfl⟩ := r; exact .inr (.inr (.inr (.inr (.inr ⟨x, t, rfl, rfl⟩))))
  | tup ds =>
    simp only [Dt] at h
    obtain ⟨a, vs, rfl, ea, hs⟩ := h
    cases r
    obtain ⟨_, its, rv, p⟩ := hok a _ ea
    exact .inl ⟨ds, a, vs, its, rfl, rfl, rfl, hs, rv, p⟩
  | lst ds =>
    simp only [Dt] at h
    obtain ⟨a, vs, rfl, ea, hs⟩ := h
    cases r
    obtain ⟨_, its, n, rv, p⟩ := hok a _ ea
    exact .inr (.inl ⟨ds, a, vs, its, rfl, rfl, rfl, hs, rv, ⟨_, p, rfl, n, rfl⟩⟩)

theorem in1_units (A : Around) : A.in1.units = A.units + 1 := rfl
mutual
theorem eqAt_D (hok : HOk P w H s.heap) : ∀ (d e : D) {A : Around} {x y : V} {u v : Value}, Dt H d x → Dt H e y → RelV x u → RelV y v → A.units + d.dp + 1 < cLine → EqAt A s u v (D.eq d e)
  | .tup ds, e, A, x, y, u, v, hd, he, rx, ry, hu => by
    have hu0 : A.units < cLine := by omega
    rcases isD_obj hok hd rx with ⟨ds', a, vs, its, ed, ex, eu, hs, rv, p⟩ | ⟨_, _, _, _, z, _⟩ | ⟨z, _⟩ | ⟨_, z, _⟩ | ⟨_, _, z, _⟩ | ⟨_, _, z, _⟩ <;> try cases z
    cases ed; subst ex eu
    rcases isD_obj hok he ry with ⟨es, b, us, jts, ee, ey, ev, hs', rv', p'⟩ | ⟨es, b, us, jts, ee, ey, ev, hs', rv', p'⟩ | ⟨ee, ev⟩ | ⟨b, ee, ev⟩ | ⟨i, t, ee, ev⟩ | ⟨z, t, ee, ev⟩ <;> subst ee ev
    · subst ey
      by_cases hab : a = b
      · subst hab
        rw [Dt.inj hd he, D.eq_refl]
        exact EqAt.same _
      · refine EqAt.of_refs hab ?_
        have n1 : its.toArray.size = ds.length := by have := rv.length; have := hs.length; simp; omega
        have n2 : jts.toArray.size = es.length := by have := rv'.length; have := hs'.length; simp; omega
        simp only [D.eq]
        rw [← D.eqs_all, ← n1, ← n2]
        refine RcAt.tuples p p' hu0 fun j j1 j2 => ?_
        simp only [D.dp] at hu
        have := eqAt_Ds hok ds es (A := A.in1) hs hs' rv rv' (by rw [in1_units]; omega) j (by simpa using j1) (by simpa using j2)
        simpa using this
    · subst ey; exact EqAt.tuple_list p p' hu0
    · exact EqAt.tuple_none p hu0
    · exact EqAt.tuple_bool b p hu0
    · exact EqAt.tuple_int i t p hu0
    · exact EqAt.tuple_str z t p hu0
  | .lst ds, e, A, x, y, u, v, hd, he, rx, ry, hu => by
    have hu0 : A.units < cLine := by omega
    rcases isD_obj hok hd rx with ⟨_, _, _, _, z, _⟩ | ⟨ds', a, vs, its, ed, ex, eu, hs, rv, p⟩ | ⟨z, _⟩ | ⟨_, z, _⟩ | ⟨_, _, z, _⟩ | ⟨_, _, z, _⟩ <;> try cases z
    cases ed; subst ex eu
    rcases isD_obj hok he ry with ⟨es, b, us, jts, ee, ey, ev, hs', rv', p'⟩ | ⟨es, b, us, jts, ee, ey, ev, hs', rv', p'⟩ | ⟨ee, ev⟩ | ⟨b, ee, ev⟩ | ⟨i, t, ee, ev⟩ | ⟨z, t, ee, ev⟩ <;> subst ee ev
    · subst ey; exact EqAt.list_tuple p p' hu0
    · subst ey
      by_cases hab : a = b
      · subst hab
        rw [Dt.inj hd he, D.eq_refl]
        exact EqAt.same _
      · refine EqAt.of_refs hab ?_
        have n1 : its.toArray.size = ds.length := by have := rv.length; have := hs.length; simp; omega
        have n2 : jts.toArray.size = es.length := by have := rv'.length; have := hs'.length; simp; omega
        simp only [D.eq]
        by_cases hsz : its.toArray.size = jts.toArray.size
        · have e := D.eqs_all ds es
          rw [← n1, ← n2, ← hsz, Nat.min_self, beq_self_eq_true, Bool.and_true] at e
          rw [← e]
          refine RcAt.lists p p' hsz hu0 fun j j1 j2 => ?_
          simp only [D.dp] at hu
          have := eqAt_Ds hok ds es (A := A.in1) hs hs' rv rv' (by rw [in1_units]; omega) j (by simpa using j1) (by simpa using j2)
          simpa using this
        · have e : D.eqs ds es = false := by
            cases h : D.eqs ds es with
            | false => rfl
            | true => exact absurd (D.eqs_length h) (by omega)
          rw [e]
          exact RcAt.lists_lengths p p' (by simpa using hsz) hu0
    · exact EqAt.list_none p hu0
    · exact EqAt.list_bool b p hu0
    · exact EqAt.list_int i t p hu0
    · exact EqAt.list_str z t p hu0
  | .non, e, A, x, y, u, v, hd, he, rx, ry, hu => by
    have hu0 : A.units < cLine := by omega
    simp only [Dt] at hd; subst hd; cases rx
    rcases isD_obj hok he ry with ⟨es, b, us, jts, ee, ey, ev, hs', rv', p'⟩ | ⟨es, b, us, jts, ee, ey, ev, hs', rv', p'⟩ | ⟨ee, ev⟩ | ⟨b, ee, ev⟩ | ⟨i, t, ee, ev⟩ | ⟨z, t, ee, ev⟩ <;> subst ee ev
    · exact EqAt.none_tuple p' hu0
    · exact EqAt.none_list p' hu0
    · exact EqAt.same _
    · exact EqAt.none_bool b
    · exact EqAt.none_int i t
    · exact EqAt.none_str z t
  | .bl c, e, A, x, y, u, v, hd, he, rx, ry, hu => by
    have hu0 : A.units < cLine := by omega
    simp only [Dt] at hd; subst hd; cases rx
    rcases isD_obj hok he ry with ⟨es, b, us, jts, ee, ey, ev, hs', rv', p'⟩ | ⟨es, b, us, jts, ee, ey, ev, hs', rv', p'⟩ | ⟨ee, ev⟩ | ⟨b, ee, ev⟩ | ⟨i, t, ee, ev⟩ | ⟨z, t, ee, ev⟩ <;> subst ee ev
    · exact EqAt.bool_tuple c p' hu0
    · exact EqAt.bool_list c p' hu0
    · exact EqAt.bool_none c
    · exact EqAt.bool_bool c b
    · exact EqAt.bool_int c i t
    · exact EqAt.bool_str c z t
  | .int c, e, A, x, y, u, v, hd, he, rx, ry, hu => by
    have hu0 : A.units < cLine := by omega
    simp only [Dt] at hd; subst hd; obtain ⟨tt, rfl⟩ := rx
    rcases isD_obj hok he ry with ⟨es, b, us, jts, ee, ey, ev, hs', rv', p'⟩ | ⟨es, b, us, jts, ee, ey, ev, hs', rv', p'⟩ | ⟨ee, ev⟩ | ⟨b, ee, ev⟩ | ⟨i, t, ee, ev⟩ | ⟨z, t, ee, ev⟩ <;> subst ee ev
    · exact EqAt.int_tuple c tt p' hu0
    · exact EqAt.int_list c tt p' hu0
    · exact EqAt.int_none c tt
    · exact EqAt.int_bool c tt b
    · exact EqAt.int_int c tt i t
    · exact EqAt.int_str c tt z t
  | .str c, e, A, x, y, u, v, hd, he, rx, ry, hu => by
    have hu0 : A.units < cLine := by omega
    simp only [Dt] at hd; subst hd; obtain ⟨tt, rfl⟩ := rx
    rcases isD_obj hok he ry with ⟨es, b, us, jts, ee, ey, ev, hs', rv', p'⟩ | ⟨es, b, us, jts, ee, ey, ev, hs', rv', p'⟩ | ⟨ee, ev⟩ | ⟨b, ee, ev⟩ | ⟨i, t, ee, ev⟩ | ⟨z, t, ee, ev⟩ <;> subst ee ev
    · exact EqAt.str_tuple c tt p' hu0
    · exact EqAt.str_list c tt p' hu0
    · exact EqAt.str_none c tt
    · exact EqAt.str_bool c tt b
    · exact EqAt.str_int c tt i t
    · exact EqAt.str_str c tt z t
theorem eqAt_Ds (hok : HOk P w H s.heap) : ∀ (ds es : List D) {A : Around} {xs ys : List V} {us vs : List Value}, Dts H ds xs → Dts H es ys → Vals xs us → Vals ys vs → A.units + D.dps ds + 1 < cLine →
    ∀ j (h1 : j < us.length) (h2 : j < vs.length), EqAt A s us[j] vs[j] (D.eq (ds.getD j .non) (es.getD j .non))
  | [], es, A, xs, ys, us, vs, hd, he, rx, ry, hu, j, h1, h2 => by
    simp only [Dts] at hd; subst hd; cases rx; simp at h1
  | d :: ds, es, A, xs, ys, us, vs, hd, he, rx, ry, hu, j, h1, h2 => by
    simp only [Dts] at hd
    obtain ⟨x, xr, rfl, hx, hxr⟩ := hd
    cases rx with
    | cons r rt =>
      cases es with
      | nil => simp only [Dts] at he; subst he; cases ry; simp at h2
      | cons e er =>
        simp only [Dts] at he
        obtain ⟨y, yr, rfl, hy, hyr⟩ := he
        cases ry with
        | cons q qt =>
          simp only [D.dps] at hu
          cases j with
          | zero => exact eqAt_D hok d e hx hy r q (by omega)
          | succ j => exact eqAt_Ds hok ds er hxr hyr rt qt (by omega) j (by simpa using h1) (by simpa using h2)
end
end
end L2

namespace L2
open PySem PySem.Spec PyProof.Rows

section
variable {P : Program} {w : World} {H : Hp} {s : Shared}
open PySem.SeqAt
theorem D.eqs_ne {ds es : List D} (h : ds.length ≠ es.length) : D.eqs ds es = false := by
  cases q : D.eqs ds es with
  | false => rfl
  | true => exact absurd (D.eqs_length q) h
theorem rcAt_D (hok : HOk P w H s.heap) {d e : D} {A : Around} {x y : V} {u v : Value} (hd : Dt H d x) (he : Dt H e y) (rx : RelV x u) (ry : RelV y v) (hu : A.units + d.dp + 1 < cLine) : RcAt A s u v (D.eq d e) := by
  have hu0 : A.units < cLine := by omega
  rcases isD_obj hok hd rx with ⟨ds, a, vs, its, ed, ex, eu, hs, rv, p⟩ | ⟨ds, a, vs, its, ed, ex, eu, hs, rv, p⟩ | ⟨ed, eu⟩ | ⟨c, ed, eu⟩ | ⟨c, tt, ed, eu⟩ | ⟨c, tt, ed, eu⟩
  · subst ed eu
    rcases isD_obj hok he ry with ⟨es, b, us, jts, ee, ey, ev, hs', rv', p'⟩ | ⟨es, b, us, jts, ee, ey, ev, hs', rv', p'⟩ | ⟨ee, ev⟩ | ⟨b, ee, ev⟩ | ⟨i, t, ee, ev⟩ | ⟨z, t, ee, ev⟩
    · subst ee ev
      have n1 : its.toArray.size = ds.length := by have := rv.length; have := hs.length; simp; omega
      have n2 : jts.toArray.size = es.length := by have := rv'.length; have := hs'.length; simp; omega
      simp only [D.eq]
      simp only [D.dp] at hu
      have all : ∀ j (j1 : j < its.toArray.size) (j2 : j < jts.toArray.size), EqAt A.in1 s its.toArray[j] jts.toArray[j] (D.eq (ds.getD j .non) (es.getD j .non)) := fun j j1 j2 => by
        have := eqAt_Ds hok ds es (A := A.in1) hs hs' rv rv' (by rw [in1_units]; omega) j (by simpa using j1) (by simpa using j2)
        simpa using this
      rw [← D.eqs_all, ← n1, ← n2]
      exact RcAt.tuples p p' hu0 all
    · subst ee ev
      exact RcAt.tuple_list p p' hu0
    · subst ee ev
      exact RcAt.tuple_none p hu0
    · subst ee ev
      exact RcAt.tuple_bool b p hu0
    · subst ee ev
      exact RcAt.tuple_int i t p hu0
    · subst ee ev
      exact RcAt.tuple_str z t p hu0
  · subst ed eu
    rcases isD_obj hok he ry with ⟨es, b, us, jts, ee, ey, ev, hs', rv', p'⟩ | ⟨es, b, us, jts, ee, ey, ev, hs', rv', p'⟩ | ⟨ee, ev⟩ | ⟨b, ee, ev⟩ | ⟨i, t, ee, ev⟩ | ⟨z, t, ee, ev⟩
    · subst ee ev
      exact RcAt.list_tuple p p' hu0
    · subst ee ev
      have n1 : its.toArray.size = ds.length := by have := rv.length; have := hs.length; simp; omega
      have n2 : jts.toArray.size = es.length := by have := rv'.length; have := hs'.length; simp; omega
      simp only [D.eq]
      simp only [D.dp] at hu
      have all : ∀ j (j1 : j < its.toArray.size) (j2 : j < jts.toArray.size), EqAt A.in1 s its.toArray[j] jts.toArray[j] (D.eq (ds.getD j .non) (es.getD j .non)) := fun j j1 j2 => by
        have := eqAt_Ds hok ds es (A := A.in1) hs hs' rv rv' (by rw [in1_units]; omega) j (by simpa using j1) (by simpa using j2)
        simpa using this
      by_cases hsz : its.toArray.size = jts.toArray.size
      · have e := D.eqs_all ds es
        rw [← n1, ← n2, ← hsz, Nat.min_self, beq_self_eq_true, Bool.and_true] at e
        rw [← e]
        exact RcAt.lists p p' hsz hu0 all
      · rw [D.eqs_ne (by omega)]
        exact RcAt.lists_lengths p p' (by simpa using hsz) hu0
    · subst ee ev
      exact RcAt.list_none p hu0
    · subst ee ev
      exact RcAt.list_bool b p hu0
    · subst ee ev
      exact RcAt.list_int i t p hu0
    · subst ee ev
      exact RcAt.list_str z t p hu0
  · subst ed eu
    rcases isD_obj hok he ry with ⟨es, b, us, jts, ee, ey, ev, hs', rv', p'⟩ | ⟨es, b, us, jts, ee, ey, ev, hs', rv', p'⟩ | ⟨ee, ev⟩ | ⟨b, ee, ev⟩ | ⟨i, t, ee, ev⟩ | ⟨z, t, ee, ev⟩
    · subst ee ev
      exact RcAt.none_tuple p' hu0
    · subst ee ev
      exact RcAt.none_list p' hu0
    · subst ee ev
      exact RcAt.none_none 
    · subst ee ev
      exact RcAt.none_bool b
    · subst ee ev
      exact RcAt.none_int i t
    · subst ee ev
      exact RcAt.none_str z t
  · subst ed eu
    rcases isD_obj hok he ry with ⟨es, b, us, jts, ee, ey, ev, hs', rv', p'⟩ | ⟨es, b, us, jts, ee, ey, ev, hs', rv', p'⟩ | ⟨ee, ev⟩ | ⟨b, ee, ev⟩ | ⟨i, t, ee, ev⟩ | ⟨z, t, ee, ev⟩
    · subst ee ev
      exact RcAt.bool_tuple c p' hu0
    · subst ee ev
      exact RcAt.bool_list c p' hu0
    · subst ee ev
      exact RcAt.bool_none c
    · subst ee ev
      exact RcAt.bool_bool c b
    · subst ee ev
      exact RcAt.bool_int c i t
    · subst ee ev
      exact RcAt.bool_str c z t
  · subst ed eu
    rcases isD_obj hok he ry with ⟨es, b, us, jts, ee, ey, ev, hs', rv', p'⟩ | ⟨es, b, us, jts, ee, ey, ev, hs', rv', p'⟩ | ⟨ee, ev⟩ | ⟨b, ee, ev⟩ | ⟨i, t, ee, ev⟩ | ⟨z, t, ee, ev⟩
    · subst ee ev
      exact RcAt.int_tuple c tt p' hu0
    · subst ee ev
      exact RcAt.int_list c tt p' hu0
    · subst ee ev
      exact RcAt.int_none c tt
    · subst ee ev
      exact RcAt.int_bool c tt b
    · subst ee ev
      exact RcAt.int_int c tt i t
    · subst ee ev
      exact RcAt.int_str c tt z t
  · subst ed eu
    rcases isD_obj hok he ry with ⟨es, b, us, jts, ee, ey, ev, hs', rv', p'⟩ | ⟨es, b, us, jts, ee, ey, ev, hs', rv', p'⟩ | ⟨ee, ev⟩ | ⟨b, ee, ev⟩ | ⟨i, t, ee, ev⟩ | ⟨z, t, ee, ev⟩
    · subst ee ev
      exact RcAt.str_tuple c tt p' hu0
    · subst ee ev
      exact RcAt.str_list c tt p' hu0
    · subst ee ev
      exact RcAt.str_none c tt
    · subst ee ev
      exact RcAt.str_bool c tt b
    · subst ee ev
      exact RcAt.str_int c tt i t
    · subst ee ev
      exact RcAt.str_str c tt z t
end

section
variable {X : Cx} {k : Nat}
noncomputable def rEqD : R2 := fun x y H Q => ∃ d e, Dt H d x ∧ Dt H e y ∧ d.dp ≤ 150 ∧ Q (.bl (D.eq d e)) H
theorem op_eqD (hr : Room k X.A) : OpR X (compareOp .Eq) rEqD := by
  intro pins s σ H x y v u Q I rx ry h
  obtain ⟨d, e, hd, he, hp, q⟩ := h
  exact rcAt_D I.hok hd he rx ry (by have := hr.un; omega) _ _ _ _ ⟨.bl _, H, I, rfl, q⟩

/-! ### isinstance by a built-in class -/
inductive TyN (H : Hp) : V → String → Prop where
  | non : TyN H .non "NoneType"
  | bl (b : Bool) : TyN H (.bl b) "bool"
  | int (i : Int) : TyN H (.int i) "int"
  | str (x : Str) : TyN H (.str x) "str"
  | lst {a : Addr} {xs : List V} (e : H a = some (.lst xs)) : TyN H (.ref a) "list"
  | tup {a : Addr} {xs : List V} (e : H a = some (.tup xs)) : TyN H (.ref a) "tuple"

/-! ### a op b op c op d -/
end
end L2

namespace L2
open PySem PySem.Spec PyProof.Rows
theorem bt_len : bootBuiltins "len" = some (.builtin "len") := by decide +kernel
theorem bt_all : bootBuiltins "all" = some (.builtin "all") := by decide +kernel
theorem bt_max : bootBuiltins "max" = some (.builtin "max") := by decide +kernel
theorem bt_isinstance : bootBuiltins "isinstance" = some (.builtin "isinstance") := by decide +kernel
theorem bt_int : bootBuiltins "int" = some (.type "int") := by decide +kernel
theorem same_new {H : Hp} {p : Addr} (h : H p = none) (o : HO) : Same H (upd H p o) := fun b u q => by rw [upd_ne (ne_of_none q h)]; exact q
section
variable {X : Cx}
/-- t + u of tuples: some tuple with the items of both -/
noncomputable def rCatD : R2 := fun x y H Q => ∃ a b xs ys, x = .ref a ∧ y = .ref b ∧ H a = some (.tup xs) ∧ H b = some (.tup ys) ∧ xs.length + ys.length ≤ sizeLine ∧
  ∀ p H', Same H H' → H' p = some (.tup (xs ++ ys)) → Q (.ref p) H'
theorem cat_tup0 {prog : Program} {w : World} {A : Around} {E : Value → Shared → Prop} {s : Shared} {t b : Addr} {ws : List Value} {Q : Value → Shared → Prop} (ht : IsTup s.heap t ([] : List Value).toArray) (hb : IsTup s.heap b ws.toArray) (h : Q (.ref b) s) :
    wpAny (model prog w) A (binaryOp .Add (.ref t) (.ref b)) Q E s := by
  obtain ⟨⟨cls, dd, data, sl⟩, ho, hc, n, hd⟩ := id ht
  obtain ⟨⟨cls2, dd2, data2, sl2⟩, ho2, hc2, n2, hd2⟩ := id hb
  simp only at hc hd hc2 hd2
  subst hc hd hc2 hd2
  exact concat_meets ⟨_, ho, rfl⟩ ⟨_, ho2, rfl⟩ noFill_tuple_add seq_tuple_add PySem.F.slot_tuple_add PySem.F.entry_tuple_add (PySem.F.args_tuple_add_2 _ _)
    (tuple_addW0 t b _ ws.toArray n n2 dd dd2 sl sl2 (by rfl)) ⟨ho, ho2, h⟩
theorem op_catD : OpR X (binaryOp .Add) rCatD := by
  intro pins s σ H x y v u Q I rx ry h
  obtain ⟨a, b, xs, ys, rfl, rfl, ha, hb, hz, q⟩ := h
  by_cases hx : xs = []
  · subst hx
    cases rx
    cases ry
    obtain ⟨_, its, r1, p1⟩ := I.hok a _ ha
    obtain ⟨_, its2, r2, p2⟩ := I.hok b _ hb
    cases r1
    exact cat_tup0 p1 p2 ⟨.ref b, H, I, rfl, q b H (Same.refl H) hb⟩
  · refine op_catT pins s σ H _ _ v u Q I rx ry ⟨a, b, xs, ys, rfl, rfl, SqT.of ha, SqT.of hb, hx, hz, fun e => ?_, fun _ p hp => q p _ (same_new hp _) upd_same⟩
    subst e
    exact q a H (Same.refl H) (by rw [List.append_nil]; exact ha)
end
/-- a new list with these plain data -/
noncomputable def RetL (H : Hp) (ds : List D) (Q : VK) : Prop := ∀ p vs H', Same H H' → H p = none → H' p = some (.lst vs) → Dts H' ds vs → Q (.ref p) H'
/-- some value with this plain datum -/
noncomputable def RetD (H : Hp) (d : D) (Q : VK) : Prop := ∀ v H', Same H H' → Dt H' d v → Q v H'
theorem RetL.d {H : Hp} {ds : List D} {Q : VK} (h : RetD H (.lst ds) Q) : RetL H ds Q := fun p vs H' S _ e d => h _ H' S (by simp only [Dt]; exact ⟨p, vs, rfl, e, d⟩)
end L2

namespace L2
open PySem PySem.Spec PyProof.Rows
/-! ### rules that read what stands at an address -/
noncomputable def itemsOf : Option HO → Option (List V)
  | some (.lst xs) => some xs
  | some (.tup xs) => some xs
  | _ => none
theorem itemsOf_sq {K : PySem.W.Frag} {H : Hp} {a : Addr} {xs : List V} (h : itemsOf (H a) = some xs) : SqL K H a xs ∨ SqT K H a xs := by
  cases e : H a with
  | none => rw [e] at h; cases h
  | some o =>
    rw [e] at h
    cases o with
    | lst ys => cases h; exact .inl (SqL.of e)
    | tup ys => cases h; exact .inr (SqT.of e)
    | _ => cases h
theorem atI_0 {α : Type} {a : α} {r : List α} : atI (a :: r) 0 = some a := atI_nat (j := 0) rfl
theorem atI_1 {α : Type} {a b : α} {r : List α} : atI (a :: b :: r) 1 = some b := atI_nat (j := 1) rfl
theorem atI_2 {α : Type} {a b c : α} {r : List α} : atI (a :: b :: c :: r) 2 = some c := atI_nat (j := 2) rfl
theorem atI_3 {α : Type} {a b c d : α} {r : List α} : atI (a :: b :: c :: d :: r) 3 = some d := atI_nat (j := 3) rfl
theorem atI_4 {α : Type} {a b c d e : α} {r : List α} : atI (a :: b :: c :: d :: e :: r) 4 = some e := atI_nat (j := 4) rfl
section
variable {X : Cx}
noncomputable def rIxF : R2 := fun x y H Q => ∃ p xs i v, x = .ref p ∧ y = .int i ∧ itemsOf (H p) = some xs ∧ atI xs i = some v ∧ Q v H
theorem ixF : IxR X rIxF := by
  intro value slice pins s σ H x y v u Q I rx ry h hs
  obtain ⟨p, xs, i, z, rfl, rfl, e, hz, q⟩ := h
  rcases itemsOf_sq (K := X.K) e with hq | hq
  · exact ix_list value slice pins s σ H _ _ v u Q I rx ry ⟨p, xs, i, z, rfl, rfl, hq, hz, q⟩ hs
  · exact ix_tup value slice pins s σ H _ _ v u Q I rx ry ⟨p, xs, i, z, rfl, rfl, hq, hz, q⟩ hs
theorem lenF : CallR X (.builtin "len") (fun xs H Q => ∃ p ys, xs = [.ref p] ∧ itemsOf (H p) = some ys ∧ Q (.int ys.length) H) := by
  intro pins s σ H xs us Q I r h
  obtain ⟨p, ys, rfl, e, q⟩ := h
  exact call_len_seq pins s σ H _ us Q I r ⟨p, ys, rfl, itemsOf_sq e, q⟩
/-- xs[lo:hi] of a list -/
theorem slLF : SlR X (fun x lo hi H Q => ∃ a xs, x = .ref a ∧ H a = some (.lst xs) ∧ ∀ p, H p = none → Q (.ref p) (upd H p (.lst (cutV xs lo hi)))) := by
  intro pins s σ H x v vl vu lo hi sl Q I rx hs pl pu h
  obtain ⟨a, xs, rfl, e, q⟩ := h
  exact sl_list pins s σ H _ v vl vu lo hi sl Q I rx hs pl pu ⟨a, xs, rfl, SqL.of e, q⟩
end
/-- what a loop wants of its iterator -/
noncomputable def ForW (J : It) (g : TG) (tb : TS) (D : Ends) (σ : St) (H : Hp) : Prop :=
  ∃ W : Nat → Nat → St → Hp → Prop, (∃ m, W 0 m σ H) ∧ ∀ i m σ H, W i m σ H →
    (J.stop i H ∧ D.nx σ H) ∨ (J.go i H ∧ ∃ N : St → Hp → Prop, (∀ σ' H', N σ' H' → ∃ m', m' < m ∧ W (i + 1) m' σ' H') ∧ ∀ x H', J.yld i H x H' → g x σ H' fun σ2 H2 => tb { D with nx := N, ct := N, bk := D.nx } σ2 H2)
theorem forR {lo : Int} {n : Nat} {g : TG} {tb : TS} {D : Ends} {σ : St} {H : Hp} (Pv : Nat → St → Hp → Prop) (h0 : Pv 0 σ H)
    (hs : ∀ i σ H, i < n → Pv i σ H → g (.int (lo + i)) σ H fun σ2 H2 => tb { D with nx := Pv (i + 1), ct := Pv (i + 1), bk := D.nx } σ2 H2) (hd : ∀ σ H, Pv n σ H → D.nx σ H) : ForW (Itr lo n) g tb D σ H := for_range Pv h0 hs hd
theorem a_tFor {wi : TI} {g : TG} {tb : TS} {D : Ends} {σ : St} {H : Hp} : tFor wi g tb D σ H = wi σ H fun J H1 => ForW J g tb D σ H1 := rfl
theorem Same.new {H0 H : Hp} (S : Same H0 H) {p : Addr} (n : H p = none) (o : HO) : Same H0 (upd H p o) := S.trans (same_new n o)
/-- a list that is new since H0 is written -/
theorem Same.put {H0 H : Hp} (S : Same H0 H) {p : Addr} (n : H0 p = none) (o : HO) : Same H0 (upd H p o) := fun b u h => by
  rw [upd_ne (ne_of_none h n)]; exact S b u h
theorem Same.old {H0 H : Hp} (S : Same H0 H) {p : Addr} (n : H p = none) : H0 p = none := by
  cases e : H0 p with
  | none => rfl
  | some o => rw [S p o e] at n; cases n
theorem Dt.new {H : Hp} {d : D} {v : V} (h : Dt H d v) {p : Addr} (n : H p = none) (o : HO) : Dt (upd H p o) d v := h.same (same_new n o)
theorem Dt.tup {H : Hp} {ds : List D} {vs : List V} {a : Addr} (e : H a = some (.tup vs)) (h : Dts H ds vs) : Dt H (.tup ds) (.ref a) := by
  simp only [Dt]; exact ⟨a, vs, rfl, e, h⟩
theorem Dt.lst {H : Hp} {ds : List D} {vs : List V} {a : Addr} (e : H a = some (.lst vs)) (h : Dts H ds vs) : Dt H (.lst ds) (.ref a) := by
  simp only [Dt]; exact ⟨a, vs, rfl, e, h⟩
theorem isD_tup {H : Hp} {ds : List D} {v : V} : Dt H (.tup ds) v ↔ ∃ a vs, v = .ref a ∧ H a = some (.tup vs) ∧ Dts H ds vs := by simp only [Dt]
theorem isDs_nil {H : Hp} {vs : List V} : Dts H [] vs ↔ vs = [] := by simp only [Dts]
theorem isDs_cons {H : Hp} {d : D} {ds : List D} {vs : List V} : Dts H (d :: ds) vs ↔ ∃ v r, vs = v :: r ∧ Dt H d v ∧ Dts H ds r := by simp only [Dts]
theorem isD_int {H : Hp} {i : Int} {v : V} : Dt H (.int i) v ↔ v = .int i := by simp only [Dt]
theorem isD_str {H : Hp} {x : Str} {v : V} : Dt H (.str x) v ↔ v = .str x := by simp only [Dt]
theorem isD_bl {H : Hp} {b : Bool} {v : V} : Dt H (.bl b) v ↔ v = .bl b := by simp only [Dt]
theorem Dts.of_str {H : Hp} : ∀ {ns : List Str} {vs : List V}, Dts H (ns.map D.str) vs → vs = ns.map V.str
  | [], vs, h => by simpa only [List.map_nil, Dts] using h
  | n :: r, vs, h => by
    simp only [List.map_cons, Dts] at h
    obtain ⟨v, t, rfl, h1, h2⟩ := h
    rw [isD_str.mp h1, Dts.of_str h2]; rfl
theorem cxOf_K {CX : CXT} {P : Program} {w : World} {K : PySem.W.Frag} {mg : Str → Option Value} {base : Heap} {N : List Str} {qual : Str} {scope : Scope} {f : Addr} {cd : Value} {A : Around} {outer : List Env} {s : Shared} {H : Hp} {E : XK} :
    (cxOf CX P w K mg base N qual scope f cd A outer s H E).K = K := rfl
theorem blk_K {X : Cx} {N : List Str} {scope : Scope} {C : Addr} {s : Shared} {H : Hp} {ex : List Addr} : (blk X N scope C s H ex).K = X.K := rfl
theorem cm_l {i j : Int} (h1 : -18446744073709551616 < i) (h2 : i < 18446744073709551616) : CMul i j := .inl ⟨h1, h2⟩
theorem cm_r {i j : Int} (h1 : -18446744073709551616 < j) (h2 : j < 18446744073709551616) : CMul i j := .inr ⟨h1, h2⟩
theorem ex_len {K : PySem.W.Frag} {H : Hp} {a : Addr} {xs : List V} {R : List V → Prop} (h : SqL K H a xs) (q : R xs) : ∃ x, (SqL K H a x ∨ SqT K H a x) ∧ R x := ⟨xs, .inl h, q⟩
theorem ex_at {K : PySem.W.Frag} {H : Hp} {a : Addr} {xs : List V} {i : Int} {v : V} {R : V → Prop} (h : SqL K H a xs) (e : atI xs i = some v) (q : R v) : ∃ x, SqL K H a x ∧ ∃ y, atI x i = some y ∧ R y := ⟨xs, h, v, e, q⟩
end L2

/-! ### the readings, each at its arguments -/
namespace L2
open PySem PySem.Spec PyProof.Rows
noncomputable def tSet (i : Nat) (te : TE) : TS := fun D σ H => te σ H fun x H1 => D.nx (σ.set i (some x)) H1
theorem ps_let {X : Cx} {i : Nat} {x : Str} {e : Expr} {te : TE} {pos pos' : Pos} (hN : X.N.Nodup) (hi : X.N[i]? = some x) (hx : Loc X.env.scope x) (he : PE X e te) (hs : swapsWith e (some (.Name x pos')) pos.line X.env = pure false := by rfl) (hf : X.fn x = true ∨ X.env.scope.names.lookup x = some .local := by first | exact .inl rfl | exact .inr rfl | assumption) : PS X (.Assign [.Name x pos'] e pos) (tSet i te) := ps_set hN hi hx he hs hf
noncomputable def tSetC (i : Nat) (wi : TI) (caps : List Nat) (tc : TT) (te : TE) : TS := fun D σ H => tComp wi caps tc te σ H fun v H1 => D.nx (σ.set i (some v)) H1
theorem ps_letC {X : Cx} {scope : Scope} {x : Str} {N : List Str} {caps : List Nat} {elt iter : Expr} {px py pos spos : Pos} {ifs : List Expr} {wi : TI} {tc : TT} {te : TE} {y : Str} {i : Nat} (hcalm : X.calm = true) (S : CSc X scope x N caps) (hi : PI X (.Name x px) iter wi)
    (hc : ∀ C s H ex, PIfs (blk X N scope C s H ex) ifs tc) (he : ∀ C s H ex, PE (blk X N scope C s H ex) elt te) (hN : X.N.Nodup) (hy : X.N[i]? = some y) (hx : X.env.scope.names.lookup y = some .local)
    (hsw : swapsWith (.ListComp elt [⟨.Name x px, iter, ifs, 0⟩] scope pos) (some (.Name y py)) spos.line X.env = pure true) (hs : ∀ x, foldedSetIterable iter X.env x = pure x := by intro _; rfl) :
    PS X (.Assign [.Name y py] (.ListComp elt [⟨.Name x px, iter, ifs, 0⟩] scope pos) spos) (tSetC i wi caps tc te) := ps_comp hcalm S hi hc he hN hy hx hsw hs
theorem a_tSet {i : Nat} {te : TE} {D : Ends} {σ : St} {H : Hp} : tSet i te D σ H = te σ H fun x H1 => D.nx (σ.set i (some x)) H1 := rfl
theorem a_tSetC {i : Nat} {wi : TI} {caps : List Nat} {tc : TT} {te : TE} {D : Ends} {σ : St} {H : Hp} : tSetC i wi caps tc te D σ H = tComp wi caps tc te σ H fun v H1 => D.nx (σ.set i (some v)) H1 := rfl
theorem a_tVar {i : Nat} {σ : St} {H : Hp} {Q : VK} : tVar i σ H Q = (∃ v, σ[i]? = some (some v) ∧ Q v H) := rfl
theorem a_tC {v : V} {σ : St} {H : Hp} {Q : VK} : tC v σ H Q = (Q v H) := rfl
theorem a_tB {t : TE} {σ : St} {H : Hp} {Q : Bool → Hp → Prop} : tB t σ H Q = (t σ H fun x H1 => ∃ c, x = .bl c ∧ Q c H1) := rfl
theorem a_tAnd {t u : TT} {σ : St} {H : Hp} {Q : Bool → Hp → Prop} : tAnd t u σ H Q = (t σ H fun c H1 => if c = true then u σ H1 Q else Q false H1) := rfl
theorem a_tOr {t u : TT} {σ : St} {H : Hp} {Q : Bool → Hp → Prop} : tOr t u σ H Q = (t σ H fun c H1 => if c = true then Q true H1 else u σ H1 Q) := rfl
theorem a_tNot {t : TT} {σ : St} {H : Hp} {Q : Bool → Hp → Prop} : tNot t σ H Q = (t σ H fun c H1 => Q (!c) H1) := rfl
theorem a_tAndV {ta tb : TE} {σ : St} {H : Hp} {Q : VK} : tAndV ta tb σ H Q = (ta σ H fun x H1 => ∃ c, x = .bl c ∧ if c = true then tb σ H1 Q else Q (.bl false) H1) := rfl
theorem a_tOrV {ta tb : TE} {σ : St} {H : Hp} {Q : VK} : tOrV ta tb σ H Q = (ta σ H fun x H1 => ∃ c, x = .bl c ∧ if c = true then Q (.bl true) H1 else tb σ H1 Q) := rfl
theorem a_tNext {D : Ends} {σ : St} {H : Hp} : tNext  D σ H = (D.nx σ H) := rfl
theorem a_tSeq {t u : TS} {D : Ends} {σ : St} {H : Hp} : tSeq t u D σ H = (t { D with nx := u D } σ H) := rfl
theorem a_tDrop {te : TE} {D : Ends} {σ : St} {H : Hp} : tDrop te D σ H = (te σ H fun _ H1 => D.nx σ H1) := rfl
theorem a_tRet {te : TE} {D : Ends} {σ : St} {H : Hp} : tRet te D σ H = (te σ H D.rt) := rfl
theorem a_tIfS {c : TT} {t u : TS} {D : Ends} {σ : St} {H : Hp} : tIfS c t u D σ H = (c σ H fun b H1 => if b = true then t D σ H1 else u D σ H1) := rfl
theorem a_gName {i : Nat} {v : V} {σ : St} {H : Hp} {Q : St → Hp → Prop} : gName i v σ H Q = (Q (σ.set i (some v)) H) := rfl
theorem a_gNil {vs : List V} {σ : St} {H : Hp} {Q : St → Hp → Prop} : gNil  vs σ H Q = (vs = [] ∧ Q σ H) := rfl
theorem a_gCons {t : TG} {u : TGs} {vs : List V} {σ : St} {H : Hp} {Q : St → Hp → Prop} : gCons t u vs σ H Q = (∃ v r, vs = v :: r ∧ t v σ H fun σ' H' => u r σ' H' Q) := rfl
theorem a_gTup {K : PySem.W.Frag} {n : Nat} {t : TGs} {v : V} {σ : St} {H : Hp} {Q : St → Hp → Prop} : gTup K n t v σ H Q = (∃ a xs, v = .ref a ∧ SqT K H a xs ∧ xs.length = n ∧ t xs σ H Q) := rfl
theorem a_gSub {to ti : TE} {t : TSet} {v : V} {σ : St} {H : Hp} {Q : St → Hp → Prop} : gSub to ti t v σ H Q = (to σ H fun o H1 => ti σ H1 fun i H2 => t o i v H2 fun H3 => Q σ H3) := rfl
theorem a_tAsg {te : TE} {g : TG} {D : Ends} {σ : St} {H : Hp} : tAsg te g D σ H = (te σ H fun x H1 => g x σ H1 D.nx) := rfl
theorem a_tAug {i : Nat} {te : TE} {ti : TIp} {D : Ends} {σ : St} {H : Hp} : tAug i te ti D σ H = (∃ x, σ[i]? = some (some x) ∧ te σ H fun y H1 => ti x y H1 fun z H2 => D.nx (σ.set i (some z)) H2) := rfl
theorem a_iRng1 {ta : TA} {σ : St} {H : Hp} {R : It → Hp → Prop} : iRng1 ta σ H R = (ta σ H fun vs H1 => ∃ j : Int, vs = [.int j] ∧ -(2 ^ 62) ≤ j ∧ j < 2 ^ 62 ∧ R (Itr 0 j.toNat) H1) := rfl
theorem a_tOp {r : R2} {ta tb : TE} {σ : St} {H : Hp} {Q : VK} : tOp r ta tb σ H Q = (ta σ H fun x H1 => tb σ H1 fun y H2 => r x y H2 Q) := rfl
theorem a_rI {C : Int → Int → Prop} {g : Int → Int → V} {x y : V} {H : Hp} {Q : VK} : rI C g x y H Q = (∃ i j, x = .int i ∧ y = .int j ∧ C i j ∧ Q (g i j) H) := rfl
theorem a_rI0 {g : Int → Int → V} {x y : V} {H : Hp} {Q : VK} : rI0 g x y H Q = (∃ i j, x = .int i ∧ y = .int j ∧ Q (g i j) H) := rfl
theorem a_rEq {x y : V} {H : Hp} {Q : VK} : rEq  x y H Q = (scal x y = true ∧ Q (.bl (decide (x = y))) H) := rfl
theorem a_rNe {x y : V} {H : Hp} {Q : VK} : rNe  x y H Q = (scal x y = true ∧ Q (.bl (!decide (x = y))) H) := rfl
theorem a_tTest {t : TE} {σ : St} {H : Hp} {Q : Bool → Hp → Prop} : tTest t σ H Q = (t σ H fun x H' => ∃ k, x = .bl k ∧ Q k H') := rfl
theorem a_tChain {r r' : R2} {ta tb tc : TE} {σ : St} {H : Hp} {Q : VK} : tChain r r' ta tb tc σ H Q = (ta σ H fun x H1 => tb σ H1 fun y H2 => r x y H2 fun z H3 => ∃ k, z = .bl k ∧   (if k = true then tc σ H3 fun w' H4 => r' y w' H4 Q else Q (.bl false) H3)) := rfl
theorem a_tNil {σ : St} {H : Hp} {Q : List V → Hp → Prop} : tNil  σ H Q = (Q [] H) := rfl
theorem a_tCons {ta : TE} {tr : TA} {σ : St} {H : Hp} {Q : List V → Hp → Prop} : tCons ta tr σ H Q = (ta σ H fun x H1 => tr σ H1 fun xs H2 => Q (x :: xs) H2) := rfl
theorem a_tCall {sp : Sp} {dvs : List V} {E : XK} {t : TA} {σ : St} {H : Hp} {Q : VK} : tCall sp dvs E t σ H Q = (t σ H fun vs H1 => sp (vs ++ dvs) H1 Q E) := rfl
theorem a_tCB {r : List V → Hp → VK → Prop} {t : TA} {σ : St} {H : Hp} {Q : VK} : tCB r t σ H Q = (t σ H fun vs H1 => r vs H1 Q) := rfl
theorem a_tNoPart {σ : St} {H : Hp} {Q : Option Int → Hp → Prop} : tNoPart  σ H Q = (Q none H) := rfl
theorem a_tPart {t : TE} {σ : St} {H : Hp} {Q : Option Int → Hp → Prop} : tPart t σ H Q = (t σ H fun x H1 => ∃ i, x = .int i ∧ Q (some i) H1) := rfl
theorem a_tSl {r : V → Option Int → Option Int → Hp → VK → Prop} {te : TE} {tl th : TO} {σ : St} {H : Hp} {Q : VK} : tSl r te tl th σ H Q = (te σ H fun x H1 => tl σ H1 fun l H2 => th σ H2 fun u H3 => r x l u H3 Q) := rfl
theorem a_rIxL {K : PySem.W.Frag} {x y : V} {H : Hp} {Q : VK} : rIxL K x y H Q = (∃ p xs i v, x = .ref p ∧ y = .int i ∧ SqL K H p xs ∧ atI xs i = some v ∧ Q v H) := rfl
theorem a_rIxS {x y : V} {H : Hp} {Q : VK} : rIxS  x y H Q = (∃ z i c, x = .str z ∧ y = .int i ∧ z.length ≤ sizeLine ∧ atI z.cps.toList i = some c ∧ Q (.str ⟨#[c]⟩) H) := rfl
theorem a_tBM {K : PySem.W.Frag} {T : String} {r : V → List V → Hp → VK → Prop} {to : TE} {t : TA} {σ : St} {H : Hp} {Q : VK} : tBM K T r to t σ H Q = (to σ H fun x H1 => tyV K T x H1 ∧ t σ H1 fun xs H2 => r x xs H2 Q) := rfl
theorem a_tDIn {ty td : TE} {σ : St} {H : Hp} {Q : VK} : tDIn ty td σ H Q = (ty σ H fun y H1 => td σ H1 fun x H2 => ∃ a o, x = .ref a ∧ DGet H2 a y o ∧ Q (.bl o.isSome) H2) := rfl
theorem a_sDPut {td ty tv : TE} {D : Ends} {σ : St} {H : Hp} : sDPut td ty tv D σ H = (tv σ H fun v H1 => td σ H1 fun x H2 => ty σ H2 fun y H3 => ∃ a H4, x = .ref a ∧ DPut H3 a y v H4 ∧ D.nx σ H4) := rfl
theorem a_tYes {σ : St} {H : Hp} {Q : Bool → Hp → Prop} : tYes  σ H Q = (Q true H) := rfl
theorem a_tComp {wi : TI} {caps : List Nat} {tc : TT} {te : TE} {σ : St} {H : Hp} {Q : VK} : tComp wi caps tc te σ H Q = (wi σ H fun J H1 => wComp J caps tc te σ H1 Q) := rfl
theorem a_iStr {tl : TE} {σ : St} {H : Hp} {R : It → Hp → Prop} : iStr tl σ H R = (tl σ H fun x H1 => ∃ z, x = .str z ∧ R (Its z) H1) := rfl
theorem a_rSlS {x : V} {lo hi : Option Int} {H : Hp} {Q : VK} : rSlS  x lo hi H Q = (∃ z, x = .str z ∧ z.length ≤ sizeLine ∧ Q (.str (Txt.slice z lo hi)) H) := rfl
theorem a_rJoin {K : PySem.W.Frag} {x : V} {xs : List V} {H : Hp} {Q : VK} : rJoin K x xs H Q = (∃ sep a ys, x = .str sep ∧ xs = [.ref a] ∧ (SqL K H a (ys.map V.str) ∨ SqT K H a (ys.map V.str)) ∧ (ys.map (·.length)).sum + ys.length * sep.length ≤ 16777216 ∧ Q (.str (Txt.join sep ys)) H) := rfl
theorem a_rMulS {x y : V} {H : Hp} {Q : VK} : rMulS  x y H Q = (∃ z k, x = .str z ∧ y = .int k ∧ MulOk z k ∧ Q (.str (Txt.mul z k)) H) := rfl
theorem a_rEqD {x y : V} {H : Hp} {Q : VK} : rEqD  x y H Q = (∃ d e, Dt H d x ∧ Dt H e y ∧ d.dp ≤ 150 ∧ Q (.bl (D.eq d e)) H) := rfl
theorem a_rCatD {x y : V} {H : Hp} {Q : VK} : rCatD  x y H Q = (∃ a b xs ys, x = .ref a ∧ y = .ref b ∧ H a = some (.tup xs) ∧ H b = some (.tup ys) ∧ xs.length + ys.length ≤ sizeLine ∧   ∀ p H', Same H H' → H' p = some (.tup (xs ++ ys)) → Q (.ref p) H') := rfl
theorem a_rIxF {x y : V} {H : Hp} {Q : VK} : rIxF  x y H Q = (∃ p xs i v, x = .ref p ∧ y = .int i ∧ itemsOf (H p) = some xs ∧ atI xs i = some v ∧ Q v H) := rfl
theorem scal_ii {i j : Int} : (scal (.int i) (.int j) = true) = True := eq_true rfl
theorem scal_ss {i j : Str} : (scal (.str i) (.str j) = true) = True := eq_true rfl
theorem scal_bb {i j : Bool} : (scal (.bl i) (.bl j) = true) = True := eq_true rfl
end L2

namespace L2
open PySem PySem.Spec PyProof.Rows
/-! ### new objects and writes, the heap behind them a letter -/
noncomputable def NewO (H : Hp) (o : HO) (Q : VK) : Prop := ∀ p, H p = none → Q (.ref p) (upd H p o)
theorem NewO.mk {H : Hp} {o : HO} {Q : VK} (h : ∀ p H', Same H H' → H p = none → H' p = some o → Q (.ref p) H') : NewO H o Q := fun p hp => h p _ (same_new hp o) hp upd_same
noncomputable def PutO (H : Hp) (l : Addr) (o : HO) (R : Hp → Prop) : Prop := R (upd H l o)
theorem PutO.mk {H : Hp} {l : Addr} {o : HO} {R : Hp → Prop} (h : ∀ H', (∀ b, b ≠ l → H' b = H b) → H' l = some o → R H') : PutO H l o R := h _ (fun b hb => upd_ne hb) upd_same
theorem b_tTup {t : TA} {σ : St} {H : Hp} {Q : VK} : tTup t σ H Q = (t σ H fun xs H1 => xs.length ≤ sizeLine ∧ NewO H1 (.tup xs) Q) := rfl
theorem b_tLst {t : TA} {σ : St} {H : Hp} {Q : VK} : tLst t σ H Q = (t σ H fun xs H1 => xs.length ≤ sizeLine ∧ NewO H1 (.lst xs) Q) := rfl
theorem b_rAppend {x : V} {vs : List V} {H : Hp} {Q : VK} : rAppend x vs H Q = (∃ l xs y, x = .ref l ∧ vs = [y] ∧ H l = some (.lst xs) ∧ xs.length < sizeLine ∧ PutO H l (.lst (xs ++ [y])) (Q .non)) := rfl
theorem b_rExtend {x : V} {vs : List V} {H : Hp} {Q : VK} : rExtend x vs H Q = (∃ l b xs zs, x = .ref l ∧ vs = [.ref b] ∧ H l = some (.lst xs) ∧ H b = some (.lst zs) ∧ xs.length + zs.length ≤ sizeLine ∧ PutO H l (.lst (xs ++ zs)) (Q .non)) := rfl
theorem b_rCat {x y : V} {H : Hp} {Q : VK} : rCat x y H Q = (∃ l b xs zs, x = .ref l ∧ y = .ref b ∧ H l = some (.lst xs) ∧ H b = some (.lst zs) ∧ xs.length + zs.length ≤ sizeLine ∧ NewO H (.lst (xs ++ zs)) Q) := rfl
theorem b_rRep {x y : V} {H : Hp} {Q : VK} : rRep x y H Q = (∃ l k xs, x = .ref l ∧ y = .int k ∧ H l = some (.lst xs) ∧ -(2 ^ 63) ≤ k ∧ k < 2 ^ 63 ∧ xs.length * k.toNat ≤ sizeLine ∧ NewO H (.lst (List.replicate k.toNat xs).flatten) Q) := rfl
theorem b_rSetL {o i v : V} {H : Hp} {Q : Hp → Prop} : rSetL o i v H Q = (∃ p xs k j, o = .ref p ∧ i = .int k ∧ H p = some (.lst xs) ∧ ixN xs.length k = some j ∧ PutO H p (.lst (xs.set j v)) Q) := rfl
theorem b_tDNewK {σ : St} {H : Hp} {Q : VK} : tDNewK σ H Q = NewO H (.dK []) Q := rfl
noncomputable def rSlLF : V → Option Int → Option Int → Hp → VK → Prop := fun x lo hi H Q => ∃ a xs, x = .ref a ∧ H a = some (.lst xs) ∧ NewO H (.lst (cutV xs lo hi)) Q
theorem slLG {X : Cx} : SlR X rSlLF := slLF
theorem a_rSlLF {x : V} {lo hi : Option Int} {H : Hp} {Q : VK} : rSlLF x lo hi H Q = (∃ a xs, x = .ref a ∧ H a = some (.lst xs) ∧ NewO H (.lst (cutV xs lo hi)) Q) := rfl
noncomputable def rLenF : List V → Hp → VK → Prop := fun xs H Q => ∃ p ys, xs = [.ref p] ∧ itemsOf (H p) = some ys ∧ Q (.int ys.length) H
theorem lenG {X : Cx} : CallR X (.builtin "len") rLenF := lenF
theorem a_rLenF {xs : List V} {H : Hp} {Q : VK} : rLenF xs H Q = (∃ p ys, xs = [.ref p] ∧ itemsOf (H p) = some ys ∧ Q (.int ys.length) H) := rfl
theorem items_l {H : Hp} {a : Addr} {xs : List V} (h : H a = some (.lst xs)) : itemsOf (H a) = some xs := by rw [h]; rfl
theorem items_t {H : Hp} {a : Addr} {xs : List V} (h : H a = some (.tup xs)) : itemsOf (H a) = some xs := by rw [h]; rfl
theorem Same.put_new {H0 H H' : Hp} {l : Addr} (S : Same H0 H) (n : H0 l = none) (k : ∀ b, b ≠ l → H' b = H b) : Same H0 H' := fun b o e => by
  rw [k b (ne_of_none e n)]; exact S b o e
theorem Dt.of_put {H H' : Hp} {l : Addr} {xs : List V} {d : D} {v : V} (hl : H l = some (.lst xs)) (k : ∀ b, b ≠ l → H' b = H b) (n : d.nl = true) (h : Dt H d v) : Dt H' d v :=
  h.tups (fun b ys e => by rw [k b (ne_of e hl (by intro z; cases z))]; exact e) n
theorem Dts.of_put {H H' : Hp} {l : Addr} {xs : List V} {d : List D} {v : List V} (hl : H l = some (.lst xs)) (k : ∀ b, b ≠ l → H' b = H b) (n : D.nls d = true) (h : Dts H d v) : Dts H' d v :=
  h.tups (fun b ys e => by rw [k b (ne_of e hl (by intro z; cases z))]; exact e) n
/-! ### trees, places -/
noncomputable abbrev Tree := M.Tr Str
noncomputable def dT : Tree → D
  | .leaf x => .tup [.str "leaf", .str x]
  | .knot f l r => .tup [.str "knot", .str f, dT l, dT r]
noncomputable def vP (p : List Nat) : List V := p.map fun (i : Nat) => .int (i : Int)
noncomputable def dP (p : List Nat) : D := .tup (p.map fun (i : Nat) => .int (i : Int))
noncomputable def dO : Option (List Nat) → D
  | none => .non
  | some p => dP p
theorem dT_dp (t : Tree) : (dT t).dp = t.dp := by
  induction t with
  | leaf x => simp [dT, D.dp, D.dps, M.Tr.dp]
  | knot f l r ihl ihr => simp [dT, D.dp, D.dps, M.Tr.dp, ihl, ihr]
theorem dT_nl (t : Tree) : (dT t).nl = true := by
  induction t with
  | leaf x => simp [dT, D.nl, D.nls]
  | knot f l r ihl ihr => simp [dT, D.nl, D.nls, ihl, ihr]
theorem ints_nls (p : List Nat) : D.nls (p.map fun (i : Nat) => D.int (i : Int)) = true := by
  induction p with
  | nil => rfl
  | cons i p ih => simp [D.nls, D.nl, ih]
theorem ints_dps (p : List Nat) : D.dps (p.map fun (i : Nat) => D.int (i : Int)) = 0 := by
  induction p with
  | nil => rfl
  | cons i p ih => simp [D.dps, D.dp, ih]
theorem dP_nl (p : List Nat) : (dP p).nl = true := by simp only [dP, D.nl]; exact ints_nls p
theorem dP_dp (p : List Nat) : (dP p).dp = 1 := by simp only [dP, D.dp, ints_dps]
theorem Dts.ints {H : Hp} : ∀ {p : List Nat} {vs : List V}, Dts H (p.map fun (i : Nat) => D.int (i : Int)) vs → vs = vP p
  | [], vs, h => by
    simp only [List.map_nil, Dts] at h
    exact h
  | i :: p, vs, h => by
    simp only [List.map_cons, Dts] at h
    obtain ⟨v, r, rfl, h1, h2⟩ := h
    rw [isD_int.mp h1, Dts.ints h2]; rfl
theorem Dts.ofInts {H : Hp} : ∀ {p : List Nat}, Dts H (p.map fun (i : Nat) => D.int (i : Int)) (vP p)
  | [] => by simp only [List.map_nil, Dts, vP]
  | i :: p => Dts.cons (isD_int.mpr rfl) Dts.ofInts
theorem dP_of {H : Hp} {p : List Nat} {v : V} (h : Dt H (dP p) v) : ∃ a, v = .ref a ∧ H a = some (.tup (vP p)) := by
  obtain ⟨a, vs, rfl, e, h⟩ := isD_tup.mp h
  rw [Dts.ints h] at e
  exact ⟨a, rfl, e⟩
theorem dP_mk {H : Hp} {p : List Nat} {a : Addr} (e : H a = some (.tup (vP p))) : Dt H (dP p) (.ref a) := Dt.tup e Dts.ofInts
theorem dT_leaf {H : Hp} {x : Str} {v : V} (h : Dt H (dT (.leaf x)) v) : ∃ a, v = .ref a ∧ H a = some (.tup [.str "leaf", .str x]) := by
  simp only [dT] at h
  obtain ⟨a, vs, rfl, e, h⟩ := isD_tup.mp h
  obtain ⟨v1, r, rfl, h1, h⟩ := isDs_cons.mp h
  obtain ⟨v2, r, rfl, h2, h⟩ := isDs_cons.mp h
  rw [isDs_nil.mp h, isD_str.mp h1, isD_str.mp h2] at e
  exact ⟨a, rfl, e⟩
theorem dT_knot {H : Hp} {f : Str} {l r : Tree} {v : V} (h : Dt H (dT (.knot f l r)) v) : ∃ a vl vr, v = .ref a ∧ H a = some (.tup [.str "knot", .str f, vl, vr]) ∧ Dt H (dT l) vl ∧ Dt H (dT r) vr := by
  simp only [dT] at h
  obtain ⟨a, vs, rfl, e, h⟩ := isD_tup.mp h
  obtain ⟨v1, r1, rfl, h1, h⟩ := isDs_cons.mp h
  obtain ⟨v2, r2, rfl, h2, h⟩ := isDs_cons.mp h
  obtain ⟨v3, r3, rfl, h3, h⟩ := isDs_cons.mp h
  obtain ⟨v4, r4, rfl, h4, h⟩ := isDs_cons.mp h
  rw [isDs_nil.mp h, isD_str.mp h1, isD_str.mp h2] at e
  exact ⟨a, v3, v4, rfl, e, h3, h4⟩
theorem leaf_mk {H : Hp} {x : Str} {a : Addr} (e : H a = some (.tup [.str "leaf", .str x])) : Dt H (dT (.leaf x)) (.ref a) := Dt.tup e (.cons (isD_str.mpr rfl) (.cons (isD_str.mpr rfl) .nil))
theorem knot_mk {H : Hp} {f : Str} {l r : Tree} {a : Addr} {vl vr : V} (e : H a = some (.tup [.str "knot", .str f, vl, vr])) (hl : Dt H (dT l) vl) (hr : Dt H (dT r) vr) : Dt H (dT (.knot f l r)) (.ref a) :=
  Dt.tup e (.cons (isD_str.mpr rfl) (.cons (isD_str.mpr rfl) (.cons hl (.cons hr .nil))))
/-- the tuple and its first two items -/
theorem dT_any {H : Hp} {t : Tree} {v : V} (h : Dt H (dT t) v) : ∃ a r, v = .ref a ∧ H a = some (.tup (.str (if t.isL then "leaf" else "knot") :: .str t.name :: r)) := by
  cases t with
  | leaf x => obtain ⟨a, rfl, e⟩ := dT_leaf h; exact ⟨a, _, rfl, e⟩
  | knot f l r => obtain ⟨a, vl, vr, rfl, e, _⟩ := dT_knot h; exact ⟨a, _, rfl, e⟩
theorem Dts.map_of {α : Type} {H : Hp} {f : α → D} : ∀ {l : List α} {vs : List V} {i : Nat} {x : α}, Dts H (l.map f) vs → l[i]? = some x → ∃ v, vs[i]? = some v ∧ Dt H (f x) v := fun h e => h.get (by rw [List.getElem?_map, e]; rfl)
/-! ### names -/
noncomputable def nmS (c : Int) (many k : Nat) : Str := ⟨(M.nm c many k).toArray⟩
theorem sign_cat (a : List Nat) (b : List Nat) : (Str.mk a.toArray) ++ (Str.mk b.toArray) = Str.mk (a ++ b).toArray := by
  show Str.append _ _ = _
  simp [Str.append]
theorem join_signs : ∀ l : List Nat, Str.join (⟨#[]⟩ : Str) (l.map fun c => (⟨#[c]⟩ : Str)) = ⟨l.toArray⟩
  | [] => rfl
  | [c] => rfl
  | c :: d :: l => by
    have ih := join_signs (d :: l)
    show (⟨#[c]⟩ : Str) ++ (⟨#[]⟩ : Str) ++ Str.join ⟨#[]⟩ ((d :: l).map fun c => (⟨#[c]⟩ : Str)) = _
    rw [ih]
    have e : (⟨#[c]⟩ : Str) ++ (⟨#[]⟩ : Str) = Str.mk [c].toArray := by show Str.append _ _ = _; simp [Str.append]
    rw [e, sign_cat]; rfl
theorem join_signs' (l : List Nat) : Txt.join (Str.ofString "") (l.map fun c => (⟨#[c]⟩ : Str)) = ⟨l.toArray⟩ := by
  show Builtin.Str.glued _ _ = _
  rw [StrLaws.glued_eq_join]
  have : Str.ofString "" = (⟨#[]⟩ : Str) := by decide +kernel
  rw [this]; exact join_signs l

noncomputable def isName (l : List Nat) : Bool := decide (1 ≤ l.length) && (decide (l.length ≤ 8) && l.all fun c => decide (97 ≤ c) && decide (c ≤ 122))
theorem isName_good {l : List Nat} (h : M.good l) : isName l = true := by
  obtain ⟨h1, h2, h3⟩ := h
  unfold isName
  simp only [Bool.and_eq_true, decide_eq_true_eq, List.all_eq_true]
  exact ⟨h1, h2, h3⟩
noncomputable def nameOk (x : Str) : Bool := isName x.cps.toList
/-- what the script's trees are -/
structure TreeOf (many : Nat) (t : Tree) (c c' : Int) : Prop where
  perm : t.lv.Perm ((List.range many).map (nmS c many))
  kn : ∀ f ∈ t.kn, f ∈ (List.range 3).map (nmS c' 3)
  dp : t.dp ≤ 24
theorem nmS_ok {c : Int} {many k : Nat} (h : k < many) : nameOk (nmS c many k) = true := isName_good (M.nm_good h)
namespace TreeOf
variable {many : Nat} {t : Tree} {c c' : Int}
theorem len (h : TreeOf many t c c') : t.lv.length = many := by rw [h.perm.length_eq]; simp
theorem lvOk (h : TreeOf many t c c') : ∀ x ∈ t.lv, nameOk x = true := fun x hx => by
  obtain ⟨k, hk, rfl⟩ := List.mem_map.mp (h.perm.mem_iff.mp hx)
  exact nmS_ok (List.mem_range.mp hk)
theorem knOk (h : TreeOf many t c c') : ∀ x ∈ t.kn, nameOk x = true := fun x hx => by
  obtain ⟨k, hk, rfl⟩ := List.mem_map.mp (h.kn x hx)
  exact nmS_ok (List.mem_range.mp hk)
end TreeOf

/-! ### places in lists -/
theorem atI_int {α : Type} {xs : List α} {i : Int} {v : α} (h0 : 0 ≤ i) (h : xs[i.toNat]? = some v) : atI xs i = some v := by
  have e : i = ((i.toNat : Nat) : Int) := by omega
  rw [e]; exact atI_nat h
theorem ixN_int {n : Nat} {i : Int} (h0 : 0 ≤ i) (h : i < n) : ixN n i = some i.toNat := by unfold ixN; rw [if_pos h0, if_pos h]
theorem cutV_to {xs : List V} {p : Nat} (h : p ≤ xs.length) : cutV xs none (some (p : Int)) = xs.take p := by
  have e1 : HT.sIx xs.length 0 none = 0 := rfl
  have e2 : HT.sIx xs.length xs.length (some (p : Int)) = p := by rw [HT.sIx_nat]; omega
  unfold cutV
  rw [e1, e2]; simp
theorem cutV_from {xs : List V} {p : Nat} (h : p ≤ xs.length) : cutV xs (some (p : Int)) none = xs.drop p := by
  have e1 : HT.sIx xs.length xs.length none = xs.length := rfl
  have e2 : HT.sIx xs.length 0 (some (p : Int)) = p := by rw [HT.sIx_nat]; omega
  unfold cutV
  rw [e1, e2, List.take_of_length_le (by simp)]

noncomputable def rIntB : List V → Hp → VK → Prop := fun xs H Q => ∃ k, xs = [.bl k] ∧ Q (.int (if k then 1 else 0)) H
theorem call_intB {X : Cx} : CallR X (.type "int") rIntB := fun pins s σ H xs us Q I r h => call_int1 pins s σ H xs us Q I r (.inr h)
theorem a_rIntB {xs : List V} {H : Hp} {Q : VK} : rIntB xs H Q = (∃ k, xs = [.bl k] ∧ Q (.int (if k then 1 else 0)) H) := rfl
noncomputable abbrev LETT : Str := Str.ofString "abcdefghijklmnopqrstuvwxyz"
theorem lett_list : LETT.cps.toList = (List.range 26).map (97 + ·) := by decide +kernel
theorem lett_at {i : Int} (h0 : 0 ≤ i) (h : i < 26) : atI LETT.cps.toList i = some (97 + i.toNat) := by
  refine atI_int h0 ?_
  rw [lett_list, List.getElem?_map, List.getElem?_range (by omega)]; rfl
theorem lett_big : LETT.length ≤ sizeLine := by
  have : LETT.length = 26 := by
    have e := congrArg List.length lett_list
    simpa [Str.length] using e
  rw [this]; decide
theorem lett_c (c : Int) : atI LETT.cps.toList (c % 26) = some (M.let26 c) := lett_at (by omega) (by omega)
theorem rep_one {α : Type} (n : Nat) (x : α) : (List.replicate n [x]).flatten = List.replicate n x := by
  induction n with
  | zero => rfl
  | succ n ih => simp [List.replicate_succ, ih]

theorem ty_str {K : PySem.W.Frag} {z : Str} {H : Hp} : (tyV K "str" (.str z) H) = True := eq_true rfl
theorem ty_lst {K : PySem.W.Frag} {H : Hp} {p : Addr} {xs : List V} (e : H p = some (.lst xs)) : tyV K "list" (.ref p) H := .inl ⟨rfl, _, SqL.of e⟩
theorem small_size {n : Nat} (h : n ≤ 100000) : n < sizeLine := Nat.lt_of_le_of_lt h (by decide)
theorem small_le {n : Nat} (h : n ≤ 100000) : n ≤ sizeLine := Nat.le_of_lt (small_size h)
theorem sum_ones : ∀ l : List Nat, ((l.map fun c => (⟨#[c]⟩ : Str)).map (fun x => x.length)).sum = l.length
  | [] => rfl
  | c :: l => by simp only [List.map_cons, List.sum_cons, sum_ones l, List.length_cons]; show 1 + l.length = _; omega
theorem app_join {K : PySem.W.Frag} {H : Hp} {p2 p5 : Addr} {xs : List V} {l : List Nat} {R : Hp → Prop} (e2 : H p2 = some (.lst xs)) (e5 : H p5 = some (.lst (l.map fun x => V.str ⟨#[x]⟩))) (hx : xs.length ≤ 1000) (hl : l.length ≤ 1000)
    (q : ∀ H', (∀ b, b ≠ p2 → H' b = H b) → H' p2 = some (.lst (xs ++ [.str ⟨l.toArray⟩])) → R H') :
    tyV K "list" (.ref p2) H ∧ ∃ x, (SqL K H p5 (x.map V.str) ∨ SqT K H p5 (x.map V.str)) ∧ (x.map (fun x => x.length)).sum + x.length * (Str.ofString "").length ≤ 16777216 ∧
      ∃ x_1, H p2 = some (.lst x_1) ∧ x_1.length < sizeLine ∧ PutO H p2 (.lst (x_1 ++ [.str (Txt.join (Str.ofString "") x)])) R := by
  refine ⟨ty_lst e2, l.map fun c => (⟨#[c]⟩ : Str), .inl (SqL.of (by rw [e5, List.map_map]; rfl)), ?_, xs, e2, small_size (by omega), PutO.mk fun H' k e => q H' k ?_⟩
  · rw [sum_ones, List.length_map]
    have : (Str.ofString "").length = 0 := by decide +kernel
    rw [this]; omega
  · rw [e, join_signs']

/-! ### loops over a list, a tuple whose kind is known -/
noncomputable def WalkL (K : PySem.W.Frag) (x : V) (H : Hp) (R : It → Hp → Prop) : Prop := ∃ a, x = .ref a ∧ (∃ xs, H a = some (.lst xs)) ∧ R (Itl K a) H
noncomputable def WalkT (K : PySem.W.Frag) (x : V) (H : Hp) (R : It → Hp → Prop) : Prop := ∃ a, x = .ref a ∧ (∃ xs, H a = some (.tup xs)) ∧ R (Itt K a) H
noncomputable def iL (K : PySem.W.Frag) (tl : TE) : TI := fun σ H R => tl σ H fun x H1 => WalkL K x H1 R
noncomputable def iT (K : PySem.W.Frag) (tl : TE) : TI := fun σ H R => tl σ H fun x H1 => WalkT K x H1 R
theorem a_iL {K : PySem.W.Frag} {tl : TE} {σ : St} {H : Hp} {R : It → Hp → Prop} : iL K tl σ H R = tl σ H fun x H1 => WalkL K x H1 R := rfl
theorem a_iT {K : PySem.W.Frag} {tl : TE} {σ : St} {H : Hp} {R : It → Hp → Prop} : iT K tl σ H R = tl σ H fun x H1 => WalkT K x H1 R := rfl
theorem piL {X : Cx} {tg l : Expr} {tl : TE} (hl : PE X l tl) : PI X tg l (iL X.K tl) := by
  intro pins s σ H R I h
  refine thn (hl pins s σ H _ I h) fun v s1 ⟨x, H1, I1, r1, q1⟩ => ?_
  obtain ⟨a, rfl, ⟨xs, ha⟩, q⟩ := q1
  cases r1
  have fp : ∀ b ∈ [s1.heap.objs.size], FpOk X pins H1 b := fun b hb => by
    have e : b = s1.heap.objs.size := by simpa using hb
    rw [e]
    exact I1.fpOk (Nat.le_refl _) (I1.hok.fresh (Nat.le_refl _))
  obtain ⟨its, rv, p, hz⟩ := I1.list (SqL.of ha)
  exact wpAny_pyIter_list p.isList ⟨_, _, _, _, H1, rfl, I1.kept (t' := s1.toks) fun b o e => Heap.get?_push_of_some _ e, turn_list a _, ⟨_, Heap.get?_push_size _ rfl, rfl, rfl⟩, fp, q⟩
theorem piT {X : Cx} {tg l : Expr} {tl : TE} (hl : PE X l tl) : PI X tg l (iT X.K tl) := by
  intro pins s σ H R I h
  refine thn (hl pins s σ H _ I h) fun v s1 ⟨x, H1, I1, r1, q1⟩ => ?_
  obtain ⟨a, rfl, ⟨xs, ha⟩, q⟩ := q1
  cases r1
  have fp : ∀ b ∈ [s1.heap.objs.size], FpOk X pins H1 b := fun b hb => by
    have e : b = s1.heap.objs.size := by simpa using hb
    rw [e]
    exact I1.fpOk (Nat.le_refl _) (I1.hok.fresh (Nat.le_refl _))
  obtain ⟨its, rv, p, hz⟩ := I1.tuple (SqT.of ha)
  exact wpAny_pyIter_tuple (show s1.heap.IsTuple a its.toArray from p) ⟨_, _, _, _, H1, rfl, I1.kept (t' := s1.toks) fun b o e => Heap.get?_push_of_some _ e, turn_tuple a _, ⟨_, Heap.get?_push_size _ rfl, rfl, rfl⟩, fp, q⟩
theorem WalkL.for {K : PySem.W.Frag} {a : Addr} {xs : List V} {g : TG} {tb : TS} {D : Ends} {σ : St} {H : Hp} (e : H a = some (.lst xs)) (Pv : Nat → St → Hp → Prop) (h0 : Pv 0 σ H) (hl : ∀ i σ H, i ≤ xs.length → Pv i σ H → H a = some (.lst xs))
    (hs : ∀ i x σ H, xs[i]? = some x → Pv i σ H → g x σ H fun σ2 H2 => tb { D with nx := Pv (i + 1), ct := Pv (i + 1), bk := D.nx } σ2 H2) (hd : ∀ σ H, Pv xs.length σ H → D.nx σ H) : WalkL K (.ref a) H fun J H1 => ForW J g tb D σ H1 :=
  ⟨a, rfl, ⟨xs, e⟩, for_list Pv h0 (fun i σ H h p => SqL.of (hl i σ H h p)) hs hd⟩
theorem WalkT.for {K : PySem.W.Frag} {a : Addr} {xs : List V} {g : TG} {tb : TS} {D : Ends} {σ : St} {H : Hp} (e : H a = some (.tup xs)) (Pv : Nat → St → Hp → Prop) (h0 : Pv 0 σ H) (hl : ∀ i σ H, i ≤ xs.length → Pv i σ H → H a = some (.tup xs))
    (hs : ∀ i x σ H, xs[i]? = some x → Pv i σ H → g x σ H fun σ2 H2 => tb { D with nx := Pv (i + 1), ct := Pv (i + 1), bk := D.nx } σ2 H2) (hd : ∀ σ H, Pv xs.length σ H → D.nx σ H) : WalkT K (.ref a) H fun J H1 => ForW J g tb D σ H1 :=
  ⟨a, rfl, ⟨xs, e⟩, for_tup Pv h0 (fun i σ H h p => SqT.of (hl i σ H h p)) hs hd⟩
/-- over a list, nothing old being changed: by what the new list's items are -/
theorem WalkL.comp {K : PySem.W.Frag} {a : Addr} {xs : List V} {caps : List Nat} {tc : TT} {te : TE} {σ : St} {H : Hp} {Q : VK} (e : H a = some (.lst xs)) (Pv : Nat → List V → Hp → Prop) (h0 : Pv 0 [] H) (hx : xs.length ≤ 100000)
    (hy : ∀ i ys H', Pv i ys H' → ys.length ≤ i)
    (hs : ∀ i x ys H', xs[i]? = some x → Same H H' → Pv i ys H' → tc (blkSt caps σ (some x)) H' fun b H2 => if b = true then te (blkSt caps σ (some x)) H2 fun y H3 => Same H H3 ∧ Pv (i + 1) (ys ++ [y]) H3 else Same H H2 ∧ Pv (i + 1) ys H2)
    (hd : ∀ p ys H1 H2, Same H H1 → Same H1 H2 → Pv xs.length ys H1 → H1 p = none → H2 p = some (.lst ys) → Q (.ref p) H2) : WalkL K (.ref a) H fun J H1 => wComp J caps tc te σ H1 Q :=
  ⟨a, rfl, ⟨xs, e⟩, comp_list (fun i ys H' => Same H H' ∧ Pv i ys H') ⟨Same.refl H, h0⟩ (small_size hx) (fun i ys H' p => hy i ys H' p.2) (fun i ys H' _ p => SqL.of (p.1 _ _ e)) (fun i x ys H' ex p => hs i x ys H' ex p.1 p.2) fun ys H' p q n => hd q ys H' _ p.1 (same_new n _) p.2 n upd_same⟩

end L2

namespace L2
open PySem PySem.Spec PyProof.Rows
/-! ### texts as lists of codes -/
theorem str_ext {x y : Str} (h : x.cps.toList = y.cps.toList) : x = y := by
  obtain ⟨⟨a⟩⟩ := x
  obtain ⟨⟨b⟩⟩ := y
  simp only at h
  rw [h]
theorem cps_append (x y : Str) : (x ++ y).cps.toList = x.cps.toList ++ y.cps.toList := by
  show (Str.append x y).cps.toList = _
  simp [Str.append]
theorem cps_mk (l : List Nat) : (Str.mk l.toArray).cps.toList = l := by simp
theorem len_cps (x : Str) : x.length = x.cps.toList.length := by simp [Str.length]
theorem slice_nat (x : Str) {a b : Nat} (hab : a ≤ b) (hb : b ≤ x.length) : (Txt.slice x (some (a : Int)) (some (b : Int))).cps.toList = (x.cps.toList.drop a).take (b - a) := by
  have : Txt.slice x (some (a : Int)) (some (b : Int)) = StrLaws.sliceText x (some (a : Int)) (some (b : Int)) := rfl
  rw [this, StrLaws.sliceText_nat x hab hb]
theorem slice_clamp (x : Str) (a : Option Int) {b : Nat} (hb : x.length ≤ b) : Txt.slice x a (some (b : Int)) = Txt.slice x a (some (x.length : Int)) := by
  have h1 : ¬ ((b : Int) < 0) := by omega
  have h2 : ¬ ((x.length : Int) < 0) := by omega
  have e : Builtin.Str.strSliceIndices a (some (b : Int)) 1 x.length = Builtin.Str.strSliceIndices a (some (x.length : Int)) 1 x.length := by
    simp only [Builtin.Str.strSliceIndices, h1, h2, if_false, show (1 : Int) > 0 by decide, if_true]
    have e1 : min (b : Int) (x.length : Int) = (x.length : Int) := by omega
    have e2 : min (x.length : Int) (x.length : Int) = (x.length : Int) := by omega
    rw [e1, e2]
  unfold Txt.slice
  rw [e]
theorem slice_one (x : Str) {e : Nat} (he : e ≤ x.length) : (Txt.slice x (some (e : Int)) (some ((e : Int) + 1))).cps.toList = (x.cps.toList.drop e).take 1 := by
  have e1 : (e : Int) + 1 = ((e + 1 : Nat) : Int) := by omega
  rw [e1]
  by_cases h : e + 1 ≤ x.length
  · rw [slice_nat x (by omega) h]; congr 1; omega
  · have e2 : e = x.length := by omega
    rw [slice_clamp x _ (by omega), slice_nat x he (Nat.le_refl _), e2]
    have : x.cps.toList.drop x.length = [] := by rw [len_cps]; simp
    rw [this]; simp
theorem slice_is (x : Str) {e c : Nat} (he : e ≤ x.length) : decide (V.str (Txt.slice x (some (e : Int)) (some ((e : Int) + 1))) = V.str ⟨#[c]⟩) = decide (x.cps.toList[e]? = some c) := by
  rw [Bool.eq_iff_iff]
  simp only [decide_eq_true_eq, V.str.injEq]
  have s := slice_one x he
  have hd : (x.cps.toList.drop e).take 1 = [c] ↔ x.cps.toList[e]? = some c := by
    cases h : x.cps.toList[e]? with
    | none =>
      have : x.cps.toList.drop e = [] := List.drop_eq_nil_of_le (List.getElem?_eq_none_iff.mp h)
      rw [this]; simp
    | some d =>
      obtain ⟨hi, e2⟩ := List.getElem?_eq_some_iff.mp h
      rw [List.drop_eq_getElem_cons hi, e2]; simp
  rw [← hd, ← s]
  constructor
  · intro h; rw [h]
  · intro h; exact str_ext h
/-! ### the reading of a text -/
noncomputable def isSign (c : Nat) : Bool := c == 40 || c == 32 || c == 41
noncomputable def nameEnd (l : List Nat) (s : Nat) : Nat := s + ((l.drop s).takeWhile fun c => !isSign c).length
theorem nameEnd_le {l : List Nat} {s : Nat} (h : s ≤ l.length) : nameEnd l s ≤ l.length := by
  unfold nameEnd
  have := (List.takeWhile_prefix (fun c => !isSign c) (l := l.drop s)).length_le
  simp at this; omega
theorem nameEnd_ge (l : List Nat) (s : Nat) : s ≤ nameEnd l s := by unfold nameEnd; omega
/-- the tree whose text begins at s, and where it ends; n: how many levels are left -/
noncomputable def tf (l : List Nat) : Nat → Nat → Option (Tree × Nat)
  | 0, _ => none
  | n + 1, s =>
    if l[nameEnd l s]? = some 40 then
      match tf l n (nameEnd l s + 1) with
      | none => none
      | some (a, m) => if l[m]? = some 32 then (match tf l n (m + 1) with
        | none => none
        | some (b, z) => if l[z]? = some 41 then some (.knot ⟨((l.drop s).take (nameEnd l s - s)).toArray⟩ a b, z + 1) else none) else none
    else some (.leaf ⟨((l.drop s).take (nameEnd l s - s)).toArray⟩, nameEnd l s)
theorem tf_le {l : List Nat} : ∀ {n s : Nat} {t : Tree} {e : Nat}, s ≤ l.length → tf l n s = some (t, e) → e ≤ l.length
  | 0, _, _, _, _, h => by simp [tf] at h
  | n + 1, s, t, e, hs, h => by
    simp only [tf] at h
    split at h
    · split at h
      · cases h
      · rename_i a m ha
        split at h
        · split at h
          · cases h
          · rename_i b z hb
            split at h
            · rename_i hz
              cases h
              have := (List.getElem?_eq_some_iff.mp hz).1
              omega
            · cases h
        · cases h
    · cases h
      exact nameEnd_le hs
/-- a tree's text -/
noncomputable def txL : Tree → List Nat
  | .leaf x => x.cps.toList
  | .knot f l r => f.cps.toList ++ (40 :: (txL l ++ (32 :: (txL r ++ [41]))))
theorem txL_len : ∀ t : Tree, (∀ x ∈ t.lv, x.cps.toList.length ≤ 8) → (∀ x ∈ t.kn, x.cps.toList.length ≤ 8) → (txL t).length + 11 ≤ 19 * t.lv.length := by
  intro t
  induction t with
  | leaf x => intro hl _; have := hl x (by simp [M.Tr.lv]); simp only [txL, M.Tr.lv, List.length_singleton]; omega
  | knot f l r ihl ihr =>
    intro hl hk
    simp only [M.Tr.lv, List.mem_append] at hl
    simp only [M.Tr.kn, List.mem_cons, List.mem_append] at hk
    have h1 := ihl (fun x h => hl x (.inl h)) (fun x h => hk x (.inr (.inl h)))
    have h2 := ihr (fun x h => hl x (.inr h)) (fun x h => hk x (.inr (.inr h)))
    have h3 := hk f (.inl rfl)
    simp only [txL, M.Tr.lv, List.length_append, List.length_cons, List.length_nil]
    omega
section
variable {X : Cx}
/-! ### f-strings of texts; a try whose body refuses nothing -/
end
theorem a_ipI {f : Int → Int → Int} {x y : V} {H : Hp} {Q : VK} : ipI f x y H Q = (∃ i j, x = .int i ∧ y = .int j ∧ Q (.int (f i j)) H) := rfl
theorem sign_in (c : Nat) : (!(Builtin.Str.occurrences (Str.ofString "( )") ⟨#[c]⟩ 0 (Str.ofString "( )").length 1).isEmpty) = isSign c := by
  rw [PySem.StrLaws.found_one, show (Str.ofString "( )").cps.toList = [40, 32, 41] by decide +kernel, Bool.eq_iff_iff]
  unfold isSign
  simp
  omega
theorem slice_is' (x : Str) {e c : Nat} (he : e ≤ x.length) : decide (Txt.slice x (some (e : Int)) (some ((e : Int) + 1)) = (⟨#[c]⟩ : Str)) = decide (x.cps.toList[e]? = some c) := by
  rw [← slice_is x he]; simp only [V.str.injEq]
theorem s_op : Str.ofString "(" = (⟨#[40]⟩ : Str) := by decide +kernel
theorem s_bl : Str.ofString " " = (⟨#[32]⟩ : Str) := by decide +kernel
theorem s_cl : Str.ofString ")" = (⟨#[41]⟩ : Str) := by decide +kernel
theorem slice_mk (x : Str) {a b : Nat} (hab : a ≤ b) (hb : b ≤ x.length) : Txt.slice x (some (a : Int)) (some (b : Int)) = ⟨((x.cps.toList.drop a).take (b - a)).toArray⟩ := str_ext (by rw [slice_nat x hab hb])
end L2

namespace L2
open PySem PySem.Spec PyProof.Rows
/-! ### an exception that came of no other -/
/-- it has no context -/
noncomputable def Ctx0 (h : Heap) (e : Addr) : Prop := ∃ o vs, h.get? e = some o ∧ o.data = .fields vs ∧ vs[2]? = some .none
section
variable {M : Model} {A : Around} {E : Value → Shared → Prop} {s : Shared} {base : Heap} {l outer : List Env} {env : Env} {e L : Addr} {cls a0 : Value}
theorem setF {a : Addr} {o : Obj} {vs : Array Value} {i : Nat} {v : Value} {Q : Unit → Shared → Prop} (g : s.heap.get? a = some o) (d : o.data = .fields vs) (hi : i < vs.size)
    (q : ∀ h' o', h'.get? a = some o' → o'.cls = o.cls → o'.data = .fields (vs.setIfInBounds i v) → Heap.SameBut a s.heap h' → Q () { s with heap := h' }) : wpAny M A (setField (.ref a) i v) Q E s := by
  have d2 := Obj.data_mapFields d (·.setIfInBounds i v)
  exact wpAny_setField g d hi (q _ _ (Heap.get?_update_self _ g (Obj.isFreed_of_fields d2)) (Obj.cls_mapFields _ _) d2 (Heap.SameBut.update ..))
/-- what is seen of an exception and its trace -/
structure Seen (h : Heap) (base : Heap) (l : List Env) (e T : Addr) (cls a0 fl c : Value) : Prop where
  stays : base.StaysIn h
  nb : base.get? e = none
  nT : base.get? T = none
  fr : h.FunFrames base l
  ne : T ≠ e
  ex : ∃ o vs, h.get? e = some o ∧ o.cls = cls ∧ o.data = .fields vs ∧ vs[0]? = some a0 ∧ vs[1]? = some (.ref T) ∧ vs[2]? = some c
  tr : ∃ o ts, h.get? T = some o ∧ o.data = .fields ts ∧ ts[3]? = some fl
theorem seen_fly (f : Heap.FlyingW base l e cls a0 s.heap) (c : Ctx0 s.heap e) : ∃ T, Seen s.heap base l e T cls a0 .none .none := by
  obtain ⟨f1, f2, f3, oe, vs, T, oT, ts, a1, ⟨a2, a3⟩, a4, a5, a6, a7, a8, a9, a10⟩ := f
  obtain ⟨o, vs', b1, b2, b3⟩ := c
  rw [a1] at b1
  cases b1
  rw [a4] at b2
  cases b2
  exact ⟨T, f1, f2, a6, f3, a7, ⟨oe, vs, a1, a2, a4, a3, a5, b3⟩, oT, ts, a8, a9, a10⟩
theorem seen_held (f : Heap.HeldW base l e cls a0 L s.heap) (c : Ctx0 s.heap e) : ∃ T, Seen s.heap base l e T cls a0 (rawInt L) .none := by
  obtain ⟨f1, f2, f3, oe, vs, T, oT, ts, a1, ⟨a2, a3⟩, a4, a5, a6, a7, a8, a9, a10⟩ := f
  obtain ⟨o, vs', b1, b2, b3⟩ := c
  rw [a1] at b1
  cases b1
  rw [a4] at b2
  cases b2
  exact ⟨T, f1, f2, a6, f3, a7, ⟨oe, vs, a1, a2, a4, a3, a5, b3⟩, oT, ts, a8, a9, a10⟩
theorem Seen.fly {h : Heap} {T : Addr} (z : Seen h base l e T cls a0 .none .none) : Heap.FlyingW base l e cls a0 h ∧ Ctx0 h e := by
  obtain ⟨z1, z2, z3, z4, z5, ⟨o, vs, a1, a2, a3, a4, a5, a6⟩, oT, ts, b1, b2, b3⟩ := z
  exact ⟨⟨z1, z2, z4, o, vs, T, oT, ts, a1, ⟨a2, a4⟩, a3, a5, z3, z5, b1, b2, b3⟩, o, vs, a1, a3, a6⟩
theorem Seen.held {h : Heap} {T : Addr} (z : Seen h base l e T cls a0 (rawInt L) .none) : Heap.HeldW base l e cls a0 L h ∧ Ctx0 h e := by
  obtain ⟨z1, z2, z3, z4, z5, ⟨o, vs, a1, a2, a3, a4, a5, a6⟩, oT, ts, b1, b2, b3⟩ := z
  exact ⟨⟨z1, z2, z4, o, vs, T, oT, ts, a1, ⟨a2, a4⟩, a3, a5, z3, z5, b1, b2, b3⟩, o, vs, a1, a3, a6⟩
/-- what is no record stays, its slots aside, where one record is written -/
theorem same_rec {a : Addr} {o : Obj} {vs : Array Value} {h h' : Heap} (g : h.get? a = some o) (d : o.data = .fields vs) (sb : Heap.SameBut a h h') : (∀ b ob, h.get? b = some ob → (∀ ws, ob.data ≠ .fields ws) → h'.get? b = some ob) := fun b ob hb hn => by
  have : b ≠ a := fun y => by rw [y, g] at hb; cases hb; exact hn _ d
  exact (sb.2 b this).trans hb
theorem land2 {T : Addr} {fl : Value} {Q : Unit → Shared → Prop} (z : Seen s.heap base l e T cls a0 fl .none) (q : ∀ h', Seen h' base l e T cls a0 .none .none → s.heap.UpToSlots h' → Q () { s with heap := h' }) : wpAny M A (setFlight (.ref e) none) Q E s := by
  obtain ⟨z1, z2, z3, z4, z5, ⟨o, vs, a1, a2, a3, a4, a5, a6⟩, oT, ts, b1, b2, b3⟩ := z
  have h3 := (Array.getElem?_eq_some_iff.mp b3).1
  unfold setFlight
  refine wpAny_bind (wpAny_field a1 a3 a5 (wpAny_ite_split (fun _ => ?_) fun c => absurd (by simp) c))
  refine setF b1 b2 h3 fun h' o' g1 _ g3 sb => q h' ⟨fun b ob hb => ?_, z2, z3, z4.of_keeps fun b ob hb hn => ⟨ob, same_rec b1 b2 sb b ob hb hn, rfl⟩, z5, ⟨o, vs, (sb.2 e z5.symm).trans a1, a2, a3, a4, a5, a6⟩, o', _, g1, g3, ?_⟩ fun b ob hb hn => ⟨ob.slots, same_rec b1 b2 sb b ob hb hn⟩
  · exact (sb.2 b fun y => by rw [y, z3] at hb; cases hb).trans (z1 b ob hb)
  · rw [Array.getElem?_setIfInBounds_self]; simp [h3]
theorem entry2 {head c : Value} {b : Bool} {Q : Unit → Shared → Prop} (hfr : A.frames = some (env :: outer)) (hf : env.frame = some L) (z1 : base.StaysIn s.heap) (nb : base.get? e = none) (fr : s.heap.FunFrames base (env :: outer))
    (ex : ∃ o vs, s.heap.get? e = some o ∧ o.cls = cls ∧ o.data = .fields vs ∧ vs[0]? = some a0 ∧ 1 < vs.size ∧ vs[2]? = some c)
    (q : ∀ h' T, Seen h' base (env :: outer) e T cls a0 (rawInt L) c → s.heap.UpToSlots h' → Q () { s with heap := h' }) :
    wpAny M A (frameOf env >>= fun fo => entryPlaceOf L b >>= fun pl => EntryCells.newEntry head fo .none (rawInt L) .none pl >>= fun en => setField (.ref e) 1 en) Q E s := by
  obtain ⟨o, vs, a1, a2, a3, a4, a5, a6⟩ := ex
  have far : e ∉ (env :: outer).filterMap (·.frame) := fun y => by
    obtain ⟨_, o', g, hn⟩ := fr.mem y
    rw [a1] at g
    cases g
    exact hn _ a3
  refine wpAny_bind (wpAny_frameOf_fun hfr fr hf fun h1 so => wpAny_bind (wpAny_entryPlaceOf fun pl hpl => ?_))
  have g1 : h1.get? e = some o := (so.2.1 e far).trans a1
  have st1 : base.StaysIn h1 := fun b ob hb => (so.2.1 b fun y => by rw [(fr.mem y).1] at hb; cases hb).trans (z1 b ob hb)
  have sl1 : ∀ b ob, s.heap.get? b = some ob → ∃ sl, h1.get? b = some { ob with slots := sl } := so.2.2
  simp only [EntryCells.newEntry, newFields]
  refine (wpAny_bind (wpAny_newObj_type ?_ (hpl.sizeOk5 _ _ _ _ _)))
  have fresh : ∀ b ob, h1.get? b = some ob → b ≠ h1.objs.size := fun b ob hb => Nat.ne_of_lt (Heap.lt_size hb)
  refine setF (Heap.get?_push_of_some _ g1) a3 a5 fun h2 o2 k1 k2 k3 sb => q h2 h1.objs.size ⟨fun b ob hb => ?_, nb, ?_, fr.of_keeps fun b ob hb hn => ?_, (fresh e o g1).symm, ⟨o2, _, k1, k2.trans a2, k3, ?_, ?_, ?_⟩, ?_⟩ fun b ob hb hn => ?_
  · exact (sb.2 b fun y => by rw [y, nb] at hb; cases hb).trans (Heap.get?_push_of_some _ (st1 b ob hb))
  · cases hh : base.get? h1.objs.size with
    | none => rfl
    | some ob => exact absurd rfl (fresh _ _ (st1 _ ob hh))
  · obtain ⟨sl, g⟩ := sl1 b ob hb
    exact ⟨_, (sb.2 b fun y => by rw [y, a1] at hb; cases hb; exact hn _ a3).trans (Heap.get?_push_of_some _ g), rfl⟩
  · rw [Array.getElem?_setIfInBounds_ne (by decide)]; exact a4
  · rw [Array.getElem?_setIfInBounds_self]; simp [a5]
  · rw [Array.getElem?_setIfInBounds_ne (by decide)]; exact a6
  · refine ⟨_, _, (sb.2 _ (fresh e o g1).symm).trans (Heap.get?_push_size _ rfl), rfl, ?_⟩
    first | (simp; done) | (rcases hpl with rfl | ⟨_, _, _, _, _, _, _, rfl⟩ <;> simp)
  · obtain ⟨sl, g⟩ := sl1 b ob hb
    exact ⟨sl, (sb.2 b fun y => by rw [y, a1] at hb; cases hb; exact hn _ a3).trans (Heap.get?_push_of_some _ g)⟩
/-- it is seen in this frame too -/
theorem note2 {T : Addr} {c : Value} {Q : Unit → Shared → Prop} (hfr : A.frames = some (env :: outer)) (hf : env.frame = some L) (z : Seen s.heap base (env :: outer) e T cls a0 .none c)
    (q : ∀ h' T, Seen h' base (env :: outer) e T cls a0 (rawInt L) c → s.heap.UpToSlots h' → Q () { s with heap := h' }) : wpAny M A (noteFrame (.ref e) env) Q E s := by
  obtain ⟨z1, z2, z3, z4, z5, ⟨o, vs, a1, a2, a3, a4, a5, a6⟩, oT, ts, b1, b2, b3⟩ := z
  have h3 := (Array.getElem?_eq_some_iff.mp b3).1
  unfold noteFrame
  simp only [hf]
  refine wpAny_bind (wpAny_field a1 a3 a5 (wpAny_ite_split (fun _ => ?_) fun c => absurd (by simp) c))
  refine wpAny_bind (wpAny_field b1 b2 b3 (wpAny_ite_split (fun c => absurd c (by simp [rawInt])) fun _ => ?_))
  refine wpAny_bind (setF b1 b2 h3 fun h1 o1 g1 _ g3 sb => ?_)
  have e1 : h1.get? e = some o := (sb.2 e z5.symm).trans a1
  refine entry2 (s := { s with heap := h1 }) hfr hf (fun b ob hb => (sb.2 b fun y => by rw [y, z3] at hb; cases hb).trans (z1 b ob hb)) z2 (z4.of_keeps fun b ob hb hn => ⟨ob, same_rec b1 b2 sb b ob hb hn, rfl⟩) ⟨o, vs, e1, a2, a3, a4, (Array.getElem?_eq_some_iff.mp a5).1, a6⟩ fun h2 T2 z6 up => q h2 T2 z6 fun b ob hb hn => up b ob (same_rec b1 b2 sb b ob hb hn) hn
/-- it is seen first in this frame -/
theorem note1 {c : Value} {Q : Unit → Shared → Prop} (hfr : A.frames = some (env :: outer)) (hf : env.frame = some L) (z1 : base.StaysIn s.heap) (nb : base.get? e = none) (fr : s.heap.FunFrames base (env :: outer))
    (ex : ∃ o vs, s.heap.get? e = some o ∧ o.cls = cls ∧ o.data = .fields vs ∧ vs[0]? = some a0 ∧ vs[1]? = some .none ∧ vs[2]? = some c)
    (q : ∀ h' T, Seen h' base (env :: outer) e T cls a0 (rawInt L) c → s.heap.UpToSlots h' → Q () { s with heap := h' }) : wpAny M A (noteFrame (.ref e) env) Q E s := by
  obtain ⟨o, vs, a1, a2, a3, a4, a5, a6⟩ := ex
  unfold noteFrame
  simp only [hf]
  refine wpAny_bind (wpAny_field a1 a3 a5 (wpAny_ite_split (fun c => absurd c (by simp)) fun _ => ?_))
  exact entry2 hfr hf z1 nb fr ⟨o, vs, a1, a2, a3, a4, (Array.getElem?_eq_some_iff.mp a5).1, a6⟩ q
theorem Seen.pop {h : Heap} {T : Addr} {fl c : Value} (z : Seen h base (env :: outer) e T cls a0 fl c) : Seen h base outer e T cls a0 fl c := ⟨z.stays, z.nb, z.nT, z.fr.2.2, z.ne, z.ex, z.tr⟩
theorem leave2 {Q : Unit → Shared → Prop} (hfr : A.frames = some (env :: outer)) (hf : env.frame = some L) (f : Heap.FlyingW base (env :: outer) e cls a0 s.heap) (c : Ctx0 s.heap e)
    (q : ∀ h', Heap.FlyingW base outer e cls a0 h' → Ctx0 h' e → s.heap.UpToSlots h' → Q () { s with heap := h' }) : wpAny M A (leaving env (.ref e)) Q E s := by
  obtain ⟨T, z⟩ := seen_fly f c
  unfold leaving
  refine wpAny_bind (note2 hfr hf z fun h1 T1 z1 u1 => land2 (s := { s with heap := h1 }) z1 fun h2 z2 u2 => ?_)
  obtain ⟨k1, k2⟩ := z2.pop.fly
  exact q h2 k1 k2 (u1.trans u2)
theorem look2 {Q : Unit → Shared → Prop} (hfr : A.frames = some (env :: outer)) (hf : env.frame = some L) (f : Heap.FlyingW base (env :: outer) e cls a0 s.heap) (c : Ctx0 s.heap e)
    (q : ∀ h', Heap.HeldW base (env :: outer) e cls a0 L h' → Ctx0 h' e → s.heap.UpToSlots h' → Q () { s with heap := h' }) : wpAny M A (noteFrame (.ref e) env) Q E s := by
  obtain ⟨T, z⟩ := seen_fly f c
  exact note2 hfr hf z fun h1 T1 z1 u1 => q h1 z1.held.1 z1.held.2 u1
theorem lands2 {Q : Unit → Shared → Prop} (f : Heap.HeldW base l e cls a0 L s.heap) (c : Ctx0 s.heap e) (q : ∀ h', Heap.FlyingW base l e cls a0 h' → Ctx0 h' e → s.heap.UpToSlots h' → Q () { s with heap := h' }) : wpAny M A (setFlight (.ref e) none) Q E s := by
  obtain ⟨T, z⟩ := seen_held f c
  exact land2 z fun h1 z1 u1 => q h1 z1.fly.1 z1.fly.2 u1
theorem landsA2 {Q : Unit → Shared → Prop} (f : Heap.FlyingW base l e cls a0 s.heap) (c : Ctx0 s.heap e) (q : ∀ h', Heap.FlyingW base l e cls a0 h' → Ctx0 h' e → s.heap.UpToSlots h' → Q () { s with heap := h' }) : wpAny M A (setFlight (.ref e) none) Q E s := by
  obtain ⟨T, z⟩ := seen_fly f c
  exact land2 z fun h1 z1 u1 => q h1 z1.fly.1 z1.fly.2 u1
theorem made2 {h : Heap} {args : List Value} {Q : Unit → Shared → Prop} (hfr : A.frames = some (env :: outer)) (hf : env.frame = some L) (hb : base.StaysIn h) (fr : h.FunFrames base (env :: outer)) (hx : Heap.MadeExcOf h s.heap e cls args)
    (q : ∀ h' a0, Heap.FlyingW base outer e cls a0 h' → Ctx0 h' e → s.heap.UpToSlots h' → Q () { s with heap := h' }) : wpAny M A (leaving env (.ref e)) Q E s := by
  obtain ⟨t, a1, _, _⟩ := hx.there
  have nb : base.get? e = none := by
    cases y : base.get? e with
    | none => rfl
    | some o => have := hb e o y; rw [hx.new] at this; cases this
  unfold leaving
  refine wpAny_bind (note1 (cls := cls) (a0 := .ref t) (c := .none) hfr hf (fun b o k => hx.keeps b o (hb b o k)) nb (fr.of_keeps fun b o k _ => ⟨o, hx.keeps b o k, rfl⟩) ⟨_, _, a1, rfl, rfl, rfl, rfl, rfl⟩ fun h1 T1 z1 u1 => land2 (s := { s with heap := h1 }) z1 fun h2 z2 u2 => ?_)
  exact q h2 (.ref t) z2.pop.fly.1 z2.pop.fly.2 (u1.trans u2)
/-- it is marked as flying in this frame -/
theorem flag2 {T : Addr} {fl c : Value} {Q : Unit → Shared → Prop} (z : Seen s.heap base l e T cls a0 fl c) (q : ∀ h', Seen h' base l e T cls a0 (rawInt L) c → (∀ b o, b ≠ T → s.heap.get? b = some o → h'.get? b = some o) → Q () { s with heap := h' }) : wpAny M A (setFlight (.ref e) (some L)) Q E s := by
  obtain ⟨z1, z2, z3, z4, z5, ⟨o, vs, a1, a2, a3, a4, a5, a6⟩, oT, ts, b1, b2, b3⟩ := z
  have h3 := (Array.getElem?_eq_some_iff.mp b3).1
  unfold setFlight
  refine wpAny_bind (wpAny_field a1 a3 a5 (wpAny_ite_split (fun _ => ?_) fun c => absurd (by simp) c))
  refine setF b1 b2 h3 fun h' o' g1 _ g3 sb => q h' ⟨fun b ob hb => ?_, z2, z3, z4.of_keeps fun b ob hb hn => ⟨ob, same_rec b1 b2 sb b ob hb hn, rfl⟩, z5, ⟨o, vs, (sb.2 e z5.symm).trans a1, a2, a3, a4, a5, a6⟩, o', _, g1, g3, ?_⟩ fun b ob hb hn => (sb.2 b hb).trans hn
  · exact (sb.2 b fun y => by rw [y, z3] at hb; cases hb).trans (z1 b ob hb)
  · rw [Array.getElem?_setIfInBounds_self]; simp [h3]
theorem again2 {T : Addr} {c : Value} {Q : Unit → Shared → Prop} (hf : env.frame = some L) (z : Seen s.heap base l e T cls a0 (rawInt L) c) (q : Q () s) : wpAny M A (noteFrame (.ref e) env) Q E s := by
  obtain ⟨z1, z2, z3, z4, z5, ⟨o, vs, a1, a2, a3, a4, a5, a6⟩, oT, ts, b1, b2, b3⟩ := z
  unfold noteFrame
  simp only [hf]
  refine wpAny_bind (wpAny_field a1 a3 a5 (wpAny_ite_split (fun _ => ?_) fun c => absurd (by simp) c))
  exact wpAny_bind (wpAny_field b1 b2 b3 (wpAny_ite_split (fun _ => wpAny_pure q) fun c => absurd (by simp) c))
theorem Seen.c0 {h : Heap} {T : Addr} {fl c : Value} (z : Seen h base l e T cls a0 fl c) : ∃ o vs, h.get? e = some o ∧ o.data = .fields vs ∧ vs[1]? = some (.ref T) := by
  obtain ⟨o, vs, a1, a2, a3, a4, a5, a6⟩ := z.ex
  exact ⟨o, vs, a1, a3, a5⟩
theorem frames_keep {h h' : Heap} (k : ∀ b o, h.get? b = some o → (∀ vs, o.data ≠ .fields vs) → ∃ o', h'.get? b = some o' ∧ ∀ vs, o'.data ≠ .fields vs) : ∀ {l : List Env}, h.FunFrames base l → h'.FunFrames base l
  | [], _ => trivial
  | _ :: _, ⟨f1, ⟨L, o, f2, f3, f4, f5⟩, f6⟩ => by
    obtain ⟨o', g1, g2⟩ := k L o f4 f5
    exact ⟨f1, ⟨L, o', f2, f3, g1, g2⟩, frames_keep k f6⟩
/-- a name of the frame goes meanwhile -/
theorem Seen.gone {h h' : Heap} {T loc : Addr} {fl c : Value} (z : Seen h base l e T cls a0 fl c) (nb : base.get? loc = none) (sb : Heap.SameBut loc h h') (g : ∃ o, h.get? loc = some o ∧ ∀ vs, o.data ≠ .fields vs) (g' : ∃ o, h'.get? loc = some o ∧ ∀ vs, o.data ≠ .fields vs) : Seen h' base l e T cls a0 fl c := by
  obtain ⟨z1, z2, z3, z4, z5, ⟨o, vs, a1, a2, a3, a4, a5, a6⟩, oT, ts, b1, b2, b3⟩ := z
  obtain ⟨o0, h0, n0⟩ := g
  have ne : e ≠ loc := fun y => by rw [y, h0] at a1; cases a1; exact n0 _ a3
  have nT : T ≠ loc := fun y => by rw [y, h0] at b1; cases b1; exact n0 _ b2
  refine ⟨fun b ob hb => (sb.2 b fun y => by rw [y, nb] at hb; cases hb).trans (z1 b ob hb), z2, z3, frames_keep (fun b ob hb hn => ?_) z4, z5, ⟨o, vs, (sb.2 e ne).trans a1, a2, a3, a4, a5, a6⟩, oT, ts, (sb.2 T nT).trans b1, b2, b3⟩
  by_cases y : b = loc
  · subst y; exact g'
  · exact ⟨ob, (sb.2 b y).trans hb, hn⟩
/-- it leaves the frame in which it is marked -/
theorem leaveH {T : Addr} {c : Value} {Q : Unit → Shared → Prop} (hf : env.frame = some L) (z : Seen s.heap base (env :: outer) e T cls a0 (rawInt L) c)
    (q : ∀ h', Heap.FlyingW base outer e cls a0 h' → (∀ b o, b ≠ T → s.heap.get? b = some o → h'.get? b = some o) → Q () { s with heap := h' }) : wpAny M A (leaving env (.ref e)) Q E s := by
  unfold leaving
  refine wpAny_bind (again2 hf z ?_)
  have z' := z
  obtain ⟨z1, z2, z3, z4, z5, ⟨o, vs, a1, a2, a3, a4, a5, a6⟩, oT, ts, b1, b2, b3⟩ := z'
  have h3 := (Array.getElem?_eq_some_iff.mp b3).1
  unfold setFlight
  refine wpAny_bind (wpAny_field a1 a3 a5 (wpAny_ite_split (fun _ => ?_) fun c => absurd (by simp) c))
  refine setF b1 b2 h3 fun h' o' g1 _ g3 sb => q h' ⟨fun b ob hb => ?_, z2, (z4.of_keeps fun b ob hb hn => ⟨ob, same_rec b1 b2 sb b ob hb hn, rfl⟩).2.2, o, vs, T, o', _, (sb.2 e z5.symm).trans a1, ⟨a2, a4⟩, a3, a5, z3, z5, g1, g3, ?_⟩ fun b ob hb hn => (sb.2 b hb).trans hn
  · exact (sb.2 b fun y => by rw [y, z3] at hb; cases hb).trans (z1 b ob hb)
  · rw [Array.getElem?_setIfInBounds_self]; simp [h3]
end
end L2

/-! ### exceptions of own classes -/
namespace L2
open PySem PySem.Spec PyProof.Rows
open PySem.W (hideAll hideAll_get hideAll_none of_hideAll funFrames_hide fresh_of_stays)
theorem objOk_get {P : Program} {w : World} {H : Hp} {h : Heap} {a : Addr} : ∀ {o : HO}, ObjOk P w H h a o → ∃ ob, h.get? a = some ob
  | .lst _, x => by obtain ⟨_, _, _, _, e⟩ := x; exact ⟨_, e⟩
  | .tup _, x => by obtain ⟨_, _, _, o, e, _⟩ := x; exact ⟨_, e⟩
  | .dK _, x => by obtain ⟨_, _, _, _, o, _, _, e, _⟩ := x; exact ⟨_, e⟩
  | .dT _, x => by obtain ⟨_, _, _, _, o, _, _, e, _⟩ := x; exact ⟨_, e⟩
  | .set _ _, x => by obtain ⟨o, _, _, _, e, _⟩ := x; exact ⟨_, e⟩
  | .ins _ _ _, x => by obtain ⟨_, _, _, e, _⟩ := x; exact ⟨_, e⟩
  | .own _, x => x
  | .xd _, x => by obtain ⟨_, ⟨o, _, _, e, _⟩, _⟩ := x; exact ⟨_, e⟩
  | .met _ _, x => ⟨_, x⟩
  | .rng _ _, x => by obtain ⟨_, _, _, e⟩ := x; exact ⟨_, e⟩
  | .frz _ _, x => ⟨_, x.1⟩
  | .tbl _, x => ⟨_, x⟩
  | .ext _, x => x.2.1
/-- in flight ahead of the frames l: the exception at e, its trace at T -/
noncomputable def Flies (l : List Env) (e C T : Addr) (h : Heap) : Prop := ∃ a0, Heap.FlyingW (hideAll h (e :: T :: frs l)) l e (.ref C) a0 h
noncomputable def CXE (P : Program) (w : World) : CXT := fun outer H s E x s' => ∃ (e C T : Addr) (H' : Hp) (fl : Option Addr), x = .ref e ∧ Flies outer e C T s'.heap ∧ (H' e = none ∧ H' T = none ∧ s.heap.get? e = none ∧ s.heap.get? T = none) ∧
  s'.os = s.os ∧ AllBare s'.gens ∧ Un (frs outer) [] H H' s.heap s'.heap ∧ HOk P w H' s'.heap ∧ (fl = none → Ctx0 s'.heap e) ∧ E (.ref C) fl H'
theorem mem_frs {l : List Env} {env : Env} {a : Addr} (h : env ∈ l) (e : env.frame = some a) : a ∈ frs l := List.mem_filterMap.mpr ⟨env, h, e⟩
theorem Flies.mk {B h : Heap} {l : List Env} {e C : Addr} {a0 : Value} (f : Heap.FlyingW B l e (.ref C) a0 h) : ∃ T, B.get? T = none ∧ Flies l e C T h ∧ ∃ oT ts, h.get? T = some oT ∧ oT.data = .fields ts := by
  obtain ⟨f1, f2, f3, oe, vs, T, oT, ts, a1, a2, a3, a4, a5, a6, a7, a8, a9⟩ := f
  exact ⟨T, a5, ⟨a0, fun b o q => of_hideAll _ q, hideAll_none _ (by simp), funFrames_hide f3 (fun env he a ha => by simp [mem_frs he ha]), oe, vs, T, oT, ts, a1, a2, a3, a4, hideAll_none _ (by simp), a6, a7, a8, a9⟩, oT, ts, a7, a8⟩
/-- what an exception that leaves a frame makes of the heap -/
structure Left (l : List Env) (hid : List Addr) (h h' : Heap) : Prop where
  keep : ∀ b o, h.get? b = some o → b ∉ hid → b ∉ frs l → h'.get? b = some o
  slot : ∀ b o, h.get? b = some o → b ∈ frs l → ∃ sl, h'.get? b = some { o with slots := sl }
section
variable {X : Cx} {pins : List (Addr × Obj)} {σ : St} {H : Hp} {s : Shared}
theorem Inv.fr_there (I : Inv X pins σ H s) {b : Addr} (hb : b ∈ frs X.stack) : ∃ o, s.heap.get? b = some o ∧ ∀ vs, o.data ≠ .fields vs := by
  obtain ⟨_, o, ho, hn⟩ := I.stack.mem hb
  exact ⟨o, ho, hn⟩
/-- the wish of a body whose exceptions leave -/
structure Lv (X : Cx) (E : XK) : Prop where
  stk : X.stack = X.env :: X.outer
  fr : X.env.frame = some X.env.locals
  ex : X.ex = []
  xe : ∀ x s', wpAny (model X.prog X.w) X.A (leaving X.env x) (fun _ s'' => CXE X.prog X.w X.outer X.H₀ X.s₀ E x s'') (fun _ _ => False) s' → X.xe x s'
theorem left_okL (L : Lv X E) {H' : Hp} {h1 h' : Heap} {s1 : Shared} {e C T0 : Addr} {a0 : Value} (I : Inv X pins σ H s) (un : Un (frs X.stack) [] H H' s.heap h1) (hok : HOk X.prog X.w H' h1)
    (ne : H' e = none) (nT : H' T0 = none) (ge : s.heap.get? e = none) (gT : s.heap.get? T0 = none) (fl : Heap.FlyingW (hideAll h1 (e :: T0 :: frs X.stack)) X.outer e (.ref C) a0 h')
    (sm : ∀ b o, b ≠ X.env.locals → h1.get? b = some o → (∀ vs, o.data ≠ .fields vs) → ∃ sl, h'.get? b = some { o with slots := sl }) (sml : ∃ o, h'.get? X.env.locals = some o ∧ ∀ vs, o.data ≠ .fields vs) (os : s1.os = s.os) (bare : AllBare s1.gens) {flg : Option Addr} (cx : flg = none → Ctx0 h' e) (q : E (.ref C) flg H') : CXE X.prog X.w X.outer X.H₀ X.s₀ E (.ref e) { s1 with heap := h' } := by
  have ex := L.ex
  have hstk := L.stk
  have fs : frs X.stack = X.env.locals :: X.fs := by rw [hstk]; show List.filterMap _ _ = _; rw [List.filterMap_cons_some L.fr]; rfl
  have stay : ∀ b o, h1.get? b = some o → b ≠ e → b ≠ T0 → b ∉ frs X.stack → h'.get? b = some o := fun b o q n1 n2 n3 => fl.1 b o (hideAll_get _ q (by simp [n1, n2, n3]))
  have frd : ∀ b ∈ frs X.stack, ∃ o, h1.get? b = some o ∧ ∀ vs, o.data ≠ .fields vs := fun b hb => by
    obtain ⟨o, ho, hn⟩ := I.fr_there hb
    obtain ⟨sl, e1⟩ := un.any ho (I.stkFree b hb) (by simp)
    exact ⟨_, e1, hn⟩
  have frn : ∀ b ∈ frs X.stack, H' b = none := fun b hb => by
    obtain ⟨o, ho, hn⟩ := I.fr_there hb
    exact un.free b o ho (I.stkFree b hb) (by simp)
  obtain ⟨T, hB, F, oT, ts, hT, dT⟩ := Flies.mk fl
  have old : ∀ b o, X.s₀.heap.get? b = some o → ∃ o', s.heap.get? b = some o' := fun b o q => I.base.there b o q (by rw [ex]; simp)
  have T_hid : ∀ o, h1.get? T = some o → T = e ∨ T = T0 ∨ T ∈ frs X.stack := fun o ho => by
    by_cases h1e : T = e
    · exact .inl h1e
    by_cases h2e : T = T0
    · exact .inr (.inl h2e)
    by_cases h3e : T ∈ frs X.stack
    · exact .inr (.inr h3e)
    · rw [hideAll_get _ ho (by simp [h1e, h2e, h3e])] at hB; cases hB
  have T_fr : ¬ T ∈ frs X.stack := fun hb => by
    by_cases tl : T = X.env.locals
    · obtain ⟨o, ho, hn⟩ := sml
      rw [← tl, hT] at ho
      cases ho
      exact hn _ dT
    · obtain ⟨o, ho, hn⟩ := frd T hb
      obtain ⟨sl, e1⟩ := sm T o tl ho hn
      rw [hT] at e1
      cases e1
      exact hn _ dT
  refine ⟨e, C, T, H', flg, rfl, F, ⟨ne, ?_, ?_, ?_⟩, ?_, bare, ?_, ?_, cx, q⟩
  · cases hh : H' T with
    | none => rfl
    | some o =>
      obtain ⟨ob, hob⟩ := objOk_get (hok T o hh)
      rcases T_hid ob hob with z | z | z
      · rw [z, ne] at hh; cases hh
      · rw [z, nT] at hh; cases hh
      · exact absurd z T_fr
  · cases hh : X.s₀.heap.get? e with
    | none => rfl
    | some o => obtain ⟨o', h2⟩ := old e o hh; rw [ge] at h2; cases h2
  · cases hh : X.s₀.heap.get? T with
    | none => rfl
    | some o =>
      obtain ⟨o', h2⟩ := old T o hh
      obtain ⟨o2, h3⟩ := un.there T o' h2 (by simp)
      rcases T_hid o2 h3 with z | z | z
      · rw [z, ge] at h2; cases h2
      · rw [z, gT] at h2; cases h2
      · exact absurd z T_fr
  · exact os.trans I.os
  · have nl : ∀ b o, X.s₀.heap.get? b = some o → b ≠ X.env.locals := fun b o q z => by
      have h1 := Heap.lt_size q
      have h2 := I.ok.above
      exact absurd (Nat.lt_of_lt_of_le h1 h2) (by rw [z]; exact Nat.lt_irrefl _)
    refine ⟨fun b o q n hb _ => ?_, fun b o q n hb _ => ?_, fun b o q n _ => ?_, fun b o q _ => ?_, fun b xs q => un.tups b xs (I.base.tups b xs q), fun b o u q => un.frzs b o u (I.base.frzs b o u q), fun b ps q => ?_⟩
    · have k1 := I.base.keep b o q n hb (by rw [ex]; simp)
      have n1 := I.base.free b o q n (by rw [ex]; simp)
      have hb' : b ∉ frs X.stack := by rw [fs]; simp [nl b o q]; exact hb
      have k2 := un.keep b o k1 n1 hb' (by simp)
      exact stay b o k2 (fun z => by rw [z, ge] at k1; cases k1) (fun z => by rw [z, gT] at k1; cases k1) hb'
    · obtain ⟨sl, k1⟩ := I.base.slot b o q n hb (by rw [ex]; simp)
      have n1 := I.base.free b o q n (by rw [ex]; simp)
      have hb' : b ∈ frs X.stack := by rw [fs]; exact List.mem_cons_of_mem _ hb
      obtain ⟨sl2, k2⟩ := un.slot b _ k1 n1 hb' (by simp)
      obtain ⟨o', ho', hn'⟩ := frd b hb'
      rw [k2] at ho'
      cases ho'
      obtain ⟨sl3, k3⟩ := sm b _ (nl b o q) k2 hn'
      exact ⟨sl3, k3⟩
    · obtain ⟨o', h2⟩ := old b o q
      exact un.free b o' h2 (I.base.free b o q n (by rw [ex]; simp)) (by simp)
    · obtain ⟨o', h2⟩ := old b o q
      obtain ⟨o2, h3⟩ := un.there b o' h2 (by simp)
      by_cases hb : b ∈ frs X.stack
      · obtain ⟨o3, ho3, hn3⟩ := frd b hb
        obtain ⟨sl, k⟩ := sm b o3 (nl b o q) ho3 hn3
        exact ⟨_, k⟩
      · exact ⟨o2, stay b o2 h3 (fun z => by rw [z, ge] at h2; cases h2) (fun z => by rw [z, gT] at h2; cases h2) hb⟩
    · obtain ⟨m1, e1⟩ := I.base.tbls b ps q
      obtain ⟨m2, e2⟩ := un.tbls b _ e1
      exact ⟨m1 ++ m2, by rw [e2, Array.append_assoc]⟩
  · intro a o ho
    refine (hok a o ho).stay (fun b u hb q => ?_) (fun _ z => z) fun _ _ z => z
    have hb' : H' b ≠ none := by
      rcases hb with z | z
      · rw [z, ho]; simp
      · rw [z]; simp
    exact stay b u q (fun z => hb' (by rw [z]; exact ne)) (fun z => hb' (by rw [z]; exact nT)) fun z => hb' (frn b z)
theorem left_ok (L : Lv X E) {H' : Hp} {h1 h' : Heap} {s1 : Shared} {e C T0 : Addr} {a0 : Value} (I : Inv X pins σ H s) (un : Un (frs X.stack) [] H H' s.heap h1) (hok : HOk X.prog X.w H' h1)
    (ne : H' e = none) (nT : H' T0 = none) (ge : s.heap.get? e = none) (gT : s.heap.get? T0 = none) (fl : Heap.FlyingW (hideAll h1 (e :: T0 :: frs X.stack)) X.outer e (.ref C) a0 h')
    (sm : h1.UpToSlots h') (os : s1.os = s.os) (bare : AllBare s1.gens) {flg : Option Addr} (cx : flg = none → Ctx0 h' e) (q : E (.ref C) flg H') : CXE X.prog X.w X.outer X.H₀ X.s₀ E (.ref e) { s1 with heap := h' } := by
  have hin : X.env.locals ∈ frs X.stack := by rw [L.stk]; exact mem_frs (List.mem_cons_self ..) L.fr
  obtain ⟨o, ho, hn⟩ := I.fr_there hin
  obtain ⟨sl, e1⟩ := un.any ho (I.stkFree _ hin) (by simp)
  obtain ⟨sl2, e2⟩ := sm _ _ e1 hn
  exact left_okL L I un hok ne nT ge gT fl (fun b o _ hb hn => sm b o hb hn) ⟨_, e2, hn⟩ os bare cx q
/-- an exception of a callee leaves this frame too -/
theorem passE (L : Lv X E) : Passes (CXE X.prog X.w) X E := by
  intro pins σ H s x s' I h
  obtain ⟨e, C, T, H', flg, rfl, ⟨a0, fl⟩, ⟨n1, n2, g1, g2⟩, os, bare, un, hok, cx, q⟩ := h
  refine L.xe _ _ ?_
  have fl' := fl
  rw [L.stk] at fl'
  cases flg with
  | some b =>
    refine wpAny_leaves_onW (by rw [I.ok.frames, L.stk]) L.fr fl' fun h' fl2 sm => ?_
    rw [← L.stk] at fl2
    exact left_ok L I un hok n1 n2 g1 g2 fl2 sm os bare (fun z => by cases z) q
  | none =>
    refine leave2 (by rw [I.ok.frames, L.stk]) L.fr fl' (cx rfl) fun h' fl2 c2 sm => ?_
    rw [← L.stk] at fl2
    exact left_ok L I un hok n1 n2 g1 g2 fl2 sm os bare (fun _ => c2) q
end
end L2

namespace L2
open PySem PySem.Spec PyProof.Rows
open PySem.W (hideAll hideAll_get hideAll_none of_hideAll funFrames_hide fresh_of_stays flyingW_base)
/-! ### own error classes under ValueError -/
abbrev bmV : List Value := [.type "ValueError", .type "Exception", .type "BaseException", .type "object"]
noncomputable def ErrAt (K : PySem.W.Frag) (C : Addr) : Prop := PySem.W.excIn K C bmV "ValueError.__new__" = true
/-- C is F or stands under it -/
noncomputable def subOf (K : PySem.W.Frag) (C F : Addr) : Bool := match K.lookup C with
  | some ⟨_, _, .cls cd, _⟩ => cd.mro.contains (.ref F)
  | _ => false
theorem ErrAt.obj {K : PySem.W.Frag} {h : Heap} {C : Addr} (q : ErrAt K C) (X : K.In h) : ∃ bm N nm q bs hdct sn sub ab col dd k0 k1 k2 k3 k5 mN, h.get? C = some (excClassObj nm q C N bs bm hdct sn sub ab col dd k0 k1 k2 k3 k5 "ValueError.__new__") ∧ h.Ns N mN ∧ mN "__init__" = none ∧ OwnTail h bmV bm ∧
    ∀ F, subOf K C F = (Value.ref C :: bm).contains (.ref F) := by
  have q : PySem.W.excIn K C bmV "ValueError.__new__" = true := q
  unfold PySem.W.excIn at q
  split at q
  · rename_i dd cd sl lk
    split at q
    · rename_i C' bm k0 k1 k2 k3 nid k5 em es
      simp only [beq_iff_eq, Bool.and_eq_true, Bool.not_eq_true'] at q
      obtain ⟨⟨⟨⟨⟨q1, q2⟩, q3⟩, q4⟩, q5⟩, q6⟩ := q
      cases q1
      cases q2
      cases cd with
      | mk nm bs mro ns qn hd sn sub ab col del =>
        simp only at em q3 q5 q6
        cases em
        cases q3
        have hs : sl = #[k0, k1, k2, k3, some (.builtin "ValueError.__new__"), k5] := by
          cases sl with
          | mk l => simp only at es; rw [es]
        cases hs
        exact ⟨bm, ns, nm, qn, bs, hd, sn, sub, ab, col, dd, k0, k1, k2, k3, k5, _, X _ _ lk, Heap.Ns.of_isNs (PySem.W.isNs_of_in X q5), PySem.W.nsMap_none_of_in X q5 q6, PySem.W.tail_of_in X q4, fun F => by unfold subOf; rw [lk]⟩
    · cases q
  · cases q
theorem ErrAt.own {K : PySem.W.Frag} {h : Heap} {mg : Str → Option Value} {x : Str} {C : Addr} (q : ErrAt K C) (X : K.In h) (e : mg x = some (.ref C)) : OwnCls x C bmV "ValueError.__new__" mg h := by
  obtain ⟨bm, N, nm, qn, bs, hdct, sn, sub, ab, col, dd, k0, k1, k2, k3, k5, mN, hC, hN, hni, TL, _⟩ := q.obj X
  exact ⟨e, bm, N, nm, qn, bs, hdct, sn, sub, ab, col, dd, k0, k1, k2, k3, k5, mN, hC, hN, hni, TL⟩
section
variable {X : Cx} {E : XK}
theorem gone {P : Program} {w : World} {H : Hp} {h : Heap} {a : Addr} (hok : HOk P w H h) (e : h.get? a = none) : H a = none := by
  cases q : H a with
  | none => rfl
  | some o => obtain ⟨ob, hb⟩ := objOk_get (hok a o q); rw [e] at hb; cases hb
theorem hide_less {h : Heap} {xs ys : List Addr} (s : ∀ a ∈ ys, a ∈ xs) : (hideAll h xs).StaysIn (hideAll h ys) := fun b o q => by
  have hb : b ∉ xs := fun z => by rw [hideAll_none _ z] at q; cases q
  exact hideAll_get _ (of_hideAll _ q) fun z => hb (s b z)
/-! ### raise C(..) -/
noncomputable def tRaise (C : Addr) (E : XK) (ta : TA) : TS := fun _ σ H => ta σ H fun vs H1 => vs.length ≤ sizeLine ∧ E (.ref C) none H1
theorem a_tRaise {C : Addr} {E : XK} {ta : TA} {D : Ends} {σ : St} {H : Hp} : tRaise C E ta D σ H = (ta σ H fun vs H1 => vs.length ≤ sizeLine ∧ E (.ref C) none H1) := rfl
theorem ps_raise {x : Str} {C : Addr} {e0 : Expr} {es : List Expr} {ta : TA} {np cpos pos : Pos} (L : Lv X E) (hg : Gl X x) (hm : X.mg x = some (.ref C)) (q : ErrAt X.K C) (hc : X.calm = true) (ha : PA X (e0 :: es) ta)
    (hdb : (x == ("__debug__" : Str)) = false := by decide) (he : starEach (e0 :: es) X.env = (false, eval e0 X.env) :: starEach es X.env := by rfl) (hpl : (backTo cpos (starEach es X.env)).any (·.1) = false := by rfl) :
    PS X (.Raise (some (.Call (.Name x np) (e0 :: es) [] cpos)) none pos) (tRaise C E ta) := by
  intro pins s σ H D I h
  have O := q.own I.ok.mod.kin hm
  obtain ⟨bm, N, nm, qn, bs, hdct, sn, sub, ab, col, dd, k0, k1, k2, k3, k5, mN, hC, hN, hni, TL⟩ := O.obj
  refine wpAny_Raise_call_subT (C := C) (nm := nm) (q := qn) (N := N) (bs := bs) (bm := bm) (hdct := hdct) (sn := sn) (sub := sub) (ab := ab) (col := col) (dd := dd) (k0 := k0) (k1 := k1) (k2 := k2) (k3 := k3) (k5 := k5)
    PySem.F.excBase_ValueError (mN := mN) (TL.hasType PySem.F.excBase_ValueError.hasBase) (I.ok.hd hc) (by rw [he]; show (false || (backTo cpos (starEach es X.env)).any (·.1)) = false; rw [hpl]; rfl) hni (ld_glob I hg hm ⟨rfl, ?_⟩ hdb)
  have z := ha cpos pins s σ H _ I h
  rw [he] at z ⊢
  refine Calls.evalArgs_plain (wpAny_mono z (fun us s2 ⟨vs, H2, I2, r, hl, qE⟩ => ⟨rfl, by rw [← r.length]; exact hl, I2.bk _ _ hC, hN.keeps I2.bk, TL.keeps I2.bk, fun h' e hx => ?_⟩) fun _ _ y => y)
  refine L.xe _ _ ?_
  have hin : ∀ env ∈ X.env :: X.outer, ∀ a, env.frame = some a → a ∈ frs X.stack := fun env he a ha => by rw [L.stk]; exact mem_frs he ha
  have fun2 : s2.heap.FunFrames (hideAll s2.heap (frs X.stack)) (X.env :: X.outer) := funFrames_hide (L.stk ▸ I2.stack) hin
  refine made2 (base := hideAll s2.heap (frs X.stack)) (h := s2.heap) (by rw [I2.ok.frames, L.stk]) L.fr (fun b o q => of_hideAll _ q) fun2 hx fun h2 a0 fl c0 sm => ?_
  have ne := gone I2.hok hx.new
  exact left_ok (s1 := s2) L I2 Un.refl I2.hok ne ne hx.new hx.new (flyingW_base (hide_less (by intro a ha; simp [ha])) fl) ((Heap.UpToSlots.of_keeps hx.keeps).trans sm) rfl I2.bare (fun _ => c0) qE
end
/-! ### a def that may refuse -/
section
variable {P : Program} {w : World} {K : PySem.W.Frag} {mg : Str → Option Value} {base : Heap}
theorem Fun.okE {x qual : Str} {st : Stmt} {f : Addr} {fd : FuncData} {N ps : List Str} {k : Nat} {sp : Sp} (F : Fun K x qual st f fd) (S : FnScope N ps (defScope st)) (len : ∀ vs H Q E, sp vs H Q E → vs.length = ps.length)
    (hbody : ∀ (cdv : Value) (A : Around) (outer : List Env) (s : Shared) (H : Hp) (vs : List V) (Q : VK) (E : XK), Room k (A.deeper (envOfC qual (defScope st) s.heap.objs.size f cdv)) → sp vs H Q E →
      Lv (cxOf (CXE P w) P w K mg base N qual (defScope st) f cdv A outer s H E) E →
      ∃ t, PSs (cxOf (CXE P w) P w K mg base N qual (defScope st) f cdv A outer s H E) (defBody st) t ∧ t { nx := fun _ H' => Q .non H', rt := Q } (start N vs) H) : FnOk P w K mg base (CXE P w) (k + 1) f fd ps sp := by
  obtain ⟨oc, od, kV, doc, pm, an, cdv, ct, osl, rfl, lk, hcd⟩ := F.ex
  refine fn_of lk hcd S len fun A outer s H vs Q E hr hsp => hbody cdv A outer s H vs Q E hr hsp ⟨rfl, rfl, rfl, fun x s' h => wpAny_mono h (fun _ _ z => z) fun _ _ z => z.elim⟩
end
end L2

namespace L2
open PySem PySem.Spec PyProof.Rows
open PySem.W (hideAll hideAll_get hideAll_none of_hideAll funFrames_hide fresh_of_stays flyingW_base)
/-! ### a call within a try -/
noncomputable def tCallJ (J : St → Prop) (sp : Sp) (dvs : List V) (E : XK) (t : TA) : TE := fun σ H Q => t σ H fun vs H1 => J σ ∧ sp (vs ++ dvs) H1 Q E
theorem a_tCallJ {J : St → Prop} {sp : Sp} {dvs : List V} {E : XK} {t : TA} {σ : St} {H : Hp} {Q : VK} : tCallJ J sp dvs E t σ H Q = (t σ H fun vs H1 => J σ ∧ sp (vs ++ dvs) H1 Q E) := rfl
section
variable {X : Cx} {CX : CXT} {k : Nat} {f : Addr} {fd : FuncData} {ps : List Str} {sp : Sp} {dvs : List V} {ds : List Value} {E : XK} {x : Str} {p pos : Pos} {e : Expr} {es : List Expr} {t : TA} {J : St → Prop}
noncomputable def PassJ (CX : CXT) (X : Cx) (J : St → Prop) (E : XK) : Prop := ∀ (pins : List (Addr × Obj)) (σ : St) (H : Hp) (s : Shared) (e : Value) (s' : Shared), Inv X pins σ H s → J σ → CX X.stack H s E e s' → X.xe e s'
theorem pe_callJ (F : FnOk X.prog X.w X.K X.mg X.base CX k f fd ps sp) (hr : Room k X.A) (hg : Gl X x) (hm : X.mg x = some (.ref f)) (hk : PySem.W.keepIn X.K (.ref f) = true) (hb : Binds X.K fd ps ds) (hd : Vals dvs ds) (hx : PassJ CX X J E)
    (ha : PA X (e :: es) t) (hdb : (x == ("__debug__" : Str)) = false := by decide) (he : starEach (e :: es) X.env = (false, eval e X.env) :: starEach es X.env := by rfl) (hpl : (backTo pos (starEach es X.env)).any (·.1) = false := by rfl) :
    PE X (.Call (.Name x p) (e :: es) [] pos) (tCallJ J sp dvs E t) := by
  intro pins s σ H Q I h
  refine wpAny_Call_Name_kw (ld_glob I hg hm ?_ hdb)
  refine PySem.W.callWith_K (h₀ := X.base) I.ok.mod.kin hk (thn (ha pos pins s σ H _ I h) fun us s1 ⟨vs, H1, I1, r, hj, q⟩ => ⟨I1.kIn, ?_⟩) he hpl
  have r2 : Vals (vs ++ dvs) (us ++ ds) := r.append hd
  have hl : (us ++ ds).length = ps.length := by rw [← r2.length]; exact F.len _ _ _ _ q
  refine wpAny_call (codeAny_mono (F.run X.A X.stack s1 H1 ⟨us, []⟩ (us ++ ds) (vs ++ dvs) Q E hr I1.env0 (hb s1 us I1.kIn hl) r2 q) fun r s' hq => ?_)
  cases r with
  | error e => exact hx pins σ H1 s1 e s' I1 hj hq
  | ok fl =>
    cases fl with
    | ret u => exact I1.after hq
    | next => exact False.elim hq
    | brk => exact False.elim hq
    | cont => exact False.elim hq
end
/-! ### contexts -/
section
variable {X : Cx} {pins pn : List (Addr × Obj)} {σ : St} {H : Hp} {s : Shared} {E : XK}
noncomputable abbrev Cx.pinned (X : Cx) (pn : List (Addr × Obj)) : Cx := { X with pn := X.pn ++ pn }
theorem Cx.Ok.pinned (ok : X.Ok) (pn : List (Addr × Obj)) : (X.pinned pn).Ok :=
  ⟨ok.mod, ok.kind, ok.glob, ok.blt, ok.above, ok.inj, ok.has, ok.cab, ok.hd, ok.frames, ok.stk, ok.exf, ok.bs, ok.bsz, ok.noex, ok.exfs, ok.funs, ok.frf⟩
theorem Cx.Ok.unpinned (ok : (X.pinned pn).Ok) : X.Ok :=
  ⟨ok.mod, ok.kind, ok.glob, ok.blt, ok.above, ok.inj, ok.has, ok.cab, ok.hd, ok.frames, ok.stk, ok.exf, ok.bs, ok.bsz, ok.noex, ok.exfs, ok.funs, ok.frf⟩
theorem Inv.topn (I : Inv X pins σ H s) : Inv (X.pinned pins) [] σ H s := ⟨I.ok.pinned _, I.os, I.bare, I.base, I.loc, I.cell, I.free, I.freeC, fun p hp => I.pin p (by simpa using hp), I.hok, I.len⟩
theorem Inv.unpn (I : Inv (X.pinned pn) pins σ H s) : Inv X pn σ H s := ⟨I.ok.unpinned, I.os, I.bare, I.base, I.loc, I.cell, I.free, I.freeC, fun p hp => I.pin p (List.mem_append_left _ hp), I.hok, I.len⟩
noncomputable abbrev Cx.tryB (X : Cx) (pn : List (Addr × Obj)) (J : St → Prop) (E : XK) : Cx :=
  (X.pinned pn).wish fun x s' => ∃ pins σ H s, Inv (X.pinned pn) pins σ H s ∧ J σ ∧ CXE X.prog X.w X.stack H s E x s'
theorem passJ {J : St → Prop} : PassJ (CXE X.prog X.w) (X.tryB pn J E) J E := fun pins σ H s _ _ I j h => ⟨pins, σ, H, s, I.unwish, j, h⟩
theorem SP.untry {J : St → Prop} {D : Ends} {f : Flow} {s' : Shared} (h : SP (X.tryB pn J E) pins D f s') : SP X pn D f s' := by
  cases f with
  | next => obtain ⟨σ', H', I, q⟩ := h; exact ⟨σ', H', I.unwish.unpn, q⟩
  | brk => obtain ⟨σ', H', I, q⟩ := h; exact ⟨σ', H', I.unwish.unpn, q⟩
  | cont => obtain ⟨σ', H', I, q⟩ := h; exact ⟨σ', H', I.unwish.unpn, q⟩
  | ret u => obtain ⟨v, σ', H', I, r, q⟩ := h; exact ⟨v, σ', H', I.unwish.unpn, r, q⟩
/-- within an except suite of the exception at e; nothing leaves it -/
noncomputable abbrev Cx.hnd (X : Cx) (e : Addr) : Cx := { X with A := X.A.mark (some (.ref e)), calm := false, xe := fun _ _ => False }
theorem Cx.Ok.hnd (ok : X.Ok) (e : Addr) : (X.hnd e).Ok :=
  ⟨ok.mod, ok.kind, ok.glob, ok.blt, ok.above, ok.inj, ok.has, ok.cab, fun z => (Bool.false_ne_true z).elim, ok.frames, ok.stk, ok.exf, ok.bs, ok.bsz, ok.noex, ok.exfs, ok.funs, ok.frf⟩
theorem Inv.hnd (I : Inv X pins σ H s) (e : Addr) : Inv (X.hnd e) pins σ H s := ⟨I.ok.hnd e, I.os, I.bare, I.base, I.loc, I.cell, I.free, I.freeC, I.pin, I.hok, I.len⟩
theorem Inv.unhnd {e : Addr} (ok : X.Ok) (I : Inv (X.hnd e) pins σ H s) : Inv X pins σ H s := ⟨ok, I.os, I.bare, I.base, I.loc, I.cell, I.free, I.freeC, I.pin, I.hok, I.len⟩
/-- the heap behind an exception that is taken here -/
theorem fly_keep {H' : Hp} {h1 h' : Heap} {e C T0 : Addr} {a0 : Value} {l : List Env} (I : Inv X pins σ H s) (un : Un (frs X.stack) [] H H' s.heap h1) (hok : HOk X.prog X.w H' h1)
    (ne : H' e = none) (nT : H' T0 = none) (ge : s.heap.get? e = none) (gT : s.heap.get? T0 = none) (fl : Heap.FlyingW (hideAll h1 (e :: T0 :: frs X.stack)) l e (.ref C) a0 h') (sm : h1.UpToSlots h') :
    Un (frs X.stack) [] H H' s.heap h' ∧ HOk X.prog X.w H' h' := by
  have stay : ∀ b o, h1.get? b = some o → b ≠ e → b ≠ T0 → b ∉ frs X.stack → h'.get? b = some o := fun b o q n1 n2 n3 => fl.1 b o (hideAll_get _ q (by simp [n1, n2, n3]))
  have frd : ∀ b ∈ frs X.stack, ∃ o, h1.get? b = some o ∧ ∀ vs, o.data ≠ .fields vs := fun b hb => by
    obtain ⟨o, ho, hn⟩ := I.fr_there hb
    obtain ⟨sl, e1⟩ := un.any ho (I.stkFree b hb) (by simp)
    exact ⟨_, e1, hn⟩
  have frn : ∀ b ∈ frs X.stack, H' b = none := fun b hb => by
    obtain ⟨o, ho, hn⟩ := I.fr_there hb
    exact un.free b o ho (I.stkFree b hb) (by simp)
  refine ⟨⟨fun b o q n hb hx => ?_, fun b o q n hb hx => ?_, un.free, fun b o q hx => ?_, un.tups, un.frzs, un.tbls⟩, fun a o ho => ?_⟩
  · exact stay b o (un.keep b o q n hb hx) (fun z => by rw [z, ge] at q; cases q) (fun z => by rw [z, gT] at q; cases q) hb
  · obtain ⟨sl, k2⟩ := un.slot b o q n hb hx
    obtain ⟨o', ho', hn'⟩ := frd b hb
    rw [k2] at ho'
    cases ho'
    obtain ⟨sl3, k3⟩ := sm b _ k2 hn'
    exact ⟨sl3, k3⟩
  · obtain ⟨o2, h3⟩ := un.there b o q hx
    by_cases hb : b ∈ frs X.stack
    · obtain ⟨o3, ho3, hn3⟩ := frd b hb
      obtain ⟨sl, k⟩ := sm b o3 ho3 hn3
      exact ⟨_, k⟩
    · exact ⟨o2, stay b o2 h3 (fun z => by rw [z, ge] at q; cases q) (fun z => by rw [z, gT] at q; cases q) hb⟩
  · refine (hok a o ho).stay (fun b u hb q => ?_) (fun _ z => z) fun _ _ z => z
    have hb' : H' b ≠ none := by
      rcases hb with z | z
      · rw [z, ho]; simp
      · rw [z]; simp
    exact stay b u q (fun z => hb' (by rw [z]; exact ne)) (fun z => hb' (by rw [z]; exact nT)) fun z => hb' (frn b z)
/-- an exception that is held by a name -/
noncomputable def ExcO (e C : Addr) : HO := .ext fun h => ∃ ob, h.get? e = some ob ∧ ob.cls = .ref C
theorem exc_inv {H' : Hp} {s1 : Shared} {h1 h' : Heap} {e C T0 : Addr} {a0 : Value} {l : List Env} (I : Inv X pins σ H s) (un : Un (frs X.stack) [] H H' s.heap h1) (hok : HOk X.prog X.w H' h1)
    (ne : H' e = none) (nT : H' T0 = none) (ge : s.heap.get? e = none) (gT : s.heap.get? T0 = none) (fl : Heap.FlyingW (hideAll h1 (e :: T0 :: frs X.stack)) l e (.ref C) a0 h') (sm : h1.UpToSlots h') (os : s1.os = s.os) (bare : AllBare s1.gens) :
    Inv X pins σ H' { s1 with heap := h' } ∧ Inv X pins σ (upd H' e (ExcO e C)) { s1 with heap := h' } := by
  obtain ⟨u, k⟩ := fly_keep I un hok ne nT ge gT fl sm
  obtain ⟨ob, hob, hoc⟩ := fl.there
  have k2 : HOk X.prog X.w (upd H' e (ExcO e C)) h' := k.adopt ne ⟨⟨ob, hob, hoc⟩, ⟨ob, hob⟩, fun h1 h2 ⟨o, h, c⟩ st => ⟨o, st o h, c⟩⟩
  have u2 : Un (frs X.stack) [] H (upd H' e (ExcO e C)) s.heap h' := by
    refine ⟨u.keep, u.slot, fun b o q n hx => ?_, u.there, fun b xs q => ?_, fun b o w q => ?_, fun b ps q => ?_⟩
    · rw [upd_ne (fun z => by rw [z, ge] at q; cases q)]; exact u.free b o q n hx
    · have := u.tups b xs q
      rw [upd_ne (ne_of_none this ne)]; exact this
    · have := u.frzs b o w q
      rw [upd_ne (ne_of_none this ne)]; exact this
    · obtain ⟨more, this⟩ := u.tbls b ps q
      exact ⟨more, by rw [upd_ne (ne_of_none this ne)]; exact this⟩
  exact ⟨I.call' (s' := { s1 with heap := h' }) os u k bare (by simp), I.call' (s' := { s1 with heap := h' }) os u2 k2 bare (by simp)⟩
end
/-! ### which clause takes it -/
theorem excMatch_own {M : Model} {A : Around} {E : Value → Shared → Prop} {s : Shared} {Q : Bool → Shared → Prop} {K : PySem.W.Frag} {e C F : Addr} {ob : Obj} (X : K.In s.heap) (qC : ErrAt K C) (qF : ErrAt K F) (he : s.heap.get? e = some ob) (hc : ob.cls = .ref C)
    (hq : Q (subOf K C F) s) : wpAny M A (excMatches (.ref e) (.ref F)) Q E s := by
  obtain ⟨bm, N, nm, qn, bs, hdct, sn, sub, ab, col, dd, k0, k1, k2, k3, k5, mN, hC, hN, hni, TL, hS⟩ := qC.obj X
  obtain ⟨bm', N', nm', qn', bs', hdct', sn', sub', ab', col', dd', j0, j1, j2, j3, j5, mN', hF, _, _, TL', _⟩ := qF.obj X
  have hB : (Value.ref F :: bm').contains (.type "BaseException") = true := by rw [List.contains_cons, TL'.hasType PySem.F.excBase_ValueError.hasBase, Bool.or_true]
  have f := tc_notTuple
  rw [hS] at hq
  obtain ⟨h, g, d, t, os⟩ := s
  generalize hb : (Value.ref C :: bm).contains (.ref F) = b at hq
  unfold excMatches
  repeat (first | (with_reducible refine wpAny_loadPart_at he ?_; rw [hc]) | with_reducible refine wpAny_loadPart_at hF ?_ | with_reducible refine wpAny_loadPart_at hC ?_ | (with_reducible refine wpAny_isSubtype_exc hF ?_; rw [hB]) | (with_reducible refine wpAny_isSubtype_exc hC ?_; rw [hb]) | wp_step)
  cases b <;> (wp_walk; exact hq)
end L2

namespace L2
open PySem PySem.Spec PyProof.Rows
open PySem.W (hideAll hideAll_get hideAll_none of_hideAll funFrames_hide fresh_of_stays flyingW_base)
section
variable {X : Cx} {pins : List (Addr × Obj)} {σ : St} {H : Hp} {s : Shared}
/-- a local name goes -/
theorem Inv.unbind {i : Nat} {n : Str} {u : Option Value} {h' : Heap} {t' : Nat} {m : Str → Option Value} (I : Inv X pins σ H s) (hN : X.N.Nodup) (hi : X.N[i]? = some n)
    (hl : ∀ (i : Nat) (x : Str) (v : V), X.N[i]? = some x → σ[i]? = some (some v) → Vis X.env.scope x → ∃ u, RelV v u ∧ Look X.env s.heap m x u)
    (hn : s.heap.Ns X.env.locals m) (hn' : h'.Ns X.env.locals (fun x => if x = n then u else m x)) (hs : Heap.SameBut X.env.locals s.heap h') : Inv X pins (σ.set i none) H { s with heap := h', toks := t' } := by
  have cne := I.cne
  obtain ⟨oL, _, _, hoL, _⟩ := id hn
  have old : ∀ b o, X.s₀.heap.get? b = some o → b ≠ X.env.locals := fun b o e => Nat.ne_of_lt (Nat.lt_of_lt_of_le (Heap.lt_size e) I.ok.above)
  have hiσ : i < σ.length := by rw [I.len]; exact (List.getElem?_eq_some_iff.mp hi).1
  refine ⟨I.ok, I.os, I.bare, ⟨fun b o e n hb hx => (hs.2 b (old b o e)).trans (I.base.keep b o e n hb hx), fun b o e n hb hx => ?_, I.base.free, fun b o e hx => ?_, I.base.tups, I.base.frzs, I.base.tbls⟩, ⟨_, hn', fun j y v' e1 e2 e3 => ?_⟩, fun y c e => ?_, I.free, I.freeC, fun p hp => ?_, fun b ob e => ?_, by simpa using I.len⟩
  · obtain ⟨sl, e1⟩ := I.base.slot b o e n hb hx
    exact ⟨sl, (hs.2 b (old b o e)).trans e1⟩
  · obtain ⟨o', e1⟩ := I.base.there b o e hx
    exact ⟨o', (hs.2 b (old b o e)).trans e1⟩
  · by_cases hj : j = i
    · subst hj
      rw [List.getElem?_set_self hiσ] at e2
      cases e2
    · rw [List.getElem?_set_ne (Ne.symm hj)] at e2
      obtain ⟨u', r', q⟩ := hl j y v' e1 e2 e3
      refine ⟨u', r', ?_⟩
      rcases q with ⟨k, e⟩ | ⟨k, c, e, z⟩
      · refine .inl ⟨k, ?_⟩
        have : y ≠ n := fun e => hj (nodup_ix hN e1 (e ▸ hi))
        simp [this, e]
      · exact .inr ⟨k, c, e, z.sameBut hs (cne y c e)⟩
  · obtain ⟨w', z⟩ := I.cell y c e
    exact ⟨w', z.sameBut hs (cne y c e)⟩
  · obtain ⟨e, n, ne, nf, d⟩ := I.pin p hp
    exact ⟨(hs.2 p.1 ne).trans e, n, ne, nf, d⟩
  · refine (I.hok b ob e).stay (fun c w' hc q => (hs.2 c ?_).trans q) (fun _ q => q) fun _ _ q => q
    rintro rfl
    rcases hc with rfl | hc
    · rw [I.free] at e; cases e
    · rw [I.free] at hc; cases hc
theorem name_goes {M : Model} {A : Around} {E : Value → Shared → Prop} {i : Nat} {n : Str} {pos : Pos} {Q : Unit → Shared → Prop} (I : Inv X pins σ H s) (hN : X.N.Nodup) (hi : X.N[i]? = some n) (hk : X.env.scope.names.lookup n = some .local)
    (h : ∀ s', Inv X pins (σ.set i none) H s' → Q () s') : wpAny M A (do bindName X.env n .none; unbindBehindTheSuite X.env n pos) Q E s := by
  obtain ⟨m, hn, hl⟩ := id I.loc
  have hcls : (X.env.scope.kind == .class || (X.env.scope.kind == .module && X.env.locals != X.env.globals)) = false := by rw [I.ok.kind]; rfl
  exact wpAny_nameGoes_keeps hk hn hcls fun h' v hn' hs => h _ (I.unbind hN hi hl hn hn' hs)
/-! ### try: except F as n -/
noncomputable def endsA (i : Nat) (D : Ends) : Ends := { nx := fun σ H => D.nx (σ.set i none) H, rt := D.rt, bk := fun σ H => D.bk (σ.set i none) H, ct := fun σ H => D.ct (σ.set i none) H }
noncomputable def EhA (K : PySem.W.Frag) (CF : Addr) (i : Nat) (J : St → St → Prop) (ts : TS) (D : Ends) (σ0 : St) : XK := fun Cv _ H' => ∃ C, Cv = .ref C ∧ ErrAt K C ∧ subOf K C CF = true ∧ ∀ σ' e, J σ0 σ' → H' e = none → ts (endsA i D) (σ'.set i (some (.ref e))) (upd H' e (ExcO e C))
noncomputable def tTry (tb : Ends → St → TS) : TS := fun D σ H => tb D σ D σ H
theorem a_tTry {tb : Ends → St → TS} {D : Ends} {σ : St} {H : Hp} : tTry tb D σ H = tb D σ D σ H := rfl
theorem ps_tryA {body suite : List Stmt} {b0 : Stmt} {F n : Str} {np hpos pos : Pos} {i : Nat} {CF : Addr} {J : St → St → Prop} {ts : TS} {tb : Ends → St → TS} (hstk : X.stack = X.env :: X.outer) (hfr : X.env.frame = some X.env.locals)
    (hgF : Gl X F) (hmF : X.mg F = some (.ref CF)) (qF : ErrAt X.K CF) (hN : X.N.Nodup) (hi : X.N[i]? = some n) (hl : X.env.scope.names.lookup n = some .local)
    (hb : ∀ D σ0 pn, PSs (X.tryB pn (J σ0) (EhA X.K CF i J ts D σ0)) body (tb D σ0)) (hs : ∀ e, PSs (X.hnd e) (b0 :: suite) ts) (hdb : (F == ("__debug__" : Str)) = false := by decide) :
    PS X (.Try body [.ExceptHandler (some (.Name F np)) (some n) (b0 :: suite) hpos] [] [] pos) (tTry tb) := by
  intro pins s σ H D I h
  refine wpAny_Try_except (wpAny_mono (hb D σ pins [] s σ H D (I.topn.wish _) h) (fun f s1 q => ?_) fun x s1 q => ?_)
  · have q := q.untry
    cases f with
    | next => exact wpAny_execs_nil q
    | _ => exact q
  obtain ⟨pins', σ', H1, s0, I1, hj, hx⟩ := q
  obtain ⟨e, C, T, H', flg, rfl, ⟨a0, fl⟩, ⟨n1, n2, g1, g2⟩, os, bare, un, hok, _, C', eC, qC, hsub, hts⟩ := hx
  cases eC
  have fl' := fl
  rw [hstk] at fl'
  refine wpAny_looks_onW (by rw [I.ok.frames, hstk]) hfr fl' fun h4 held4 sm4 => ?_
  refine wpAny_landsW held4 fun h5 fl5 sm5 => ?_
  have fl5' := fl5
  rw [← hstk] at fl5'
  have I5 := (exc_inv I1.unpn un hok n1 n2 g1 g2 fl5' (sm4.trans sm5) os bare).1
  obtain ⟨ob, hob, hobc⟩ := fl5.there
  refine wpAny_handleBy_cons (codeAny_handlers_test (ld_glob (X := X.hnd e) (I5.hnd e) hgF hmF ?_ hdb)) (by intro q; cases q)
  refine excMatch_own I5.kIn qC qF hob hobc ?_
  rw [hsub]
  refine codeAny_handlers_suite_as ?_
  refine lands_againW fl5 fun h6 fl6 sm6 => ?_
  have fl6' := fl6
  rw [← hstk] at fl6'
  have I6 := (exc_inv I1.unpn un hok n1 n2 g1 g2 fl6' ((sm4.trans sm5).trans sm6) os bare).2
  refine store_ok (X := X.hnd e) (I6.hnd e) hN hi (.inl hl) (v := .ref e) rfl (fun s7 I7 => ?_) (.inr hl)
  refine wpAny_mono (hs e pins s7 _ _ (endsA i D) I7 (hts σ' e hj n1)) (fun f s8 q8 => ?_) fun _ _ z => z.elim
  cases f with
  | next => obtain ⟨σ8, H8, I8, q8⟩ := q8; exact name_goes (I8.unhnd I.ok) hN hi hl fun s9 I9 => ⟨_, _, I9, q8⟩
  | brk => obtain ⟨σ8, H8, I8, q8⟩ := q8; exact name_goes (I8.unhnd I.ok) hN hi hl fun s9 I9 => ⟨_, _, I9, q8⟩
  | cont => obtain ⟨σ8, H8, I8, q8⟩ := q8; exact name_goes (I8.unhnd I.ok) hN hi hl fun s9 I9 => ⟨_, _, I9, q8⟩
  | ret u => obtain ⟨v, σ8, H8, I8, r8, q8⟩ := q8; exact name_goes (I8.unhnd I.ok) hN hi hl fun s9 I9 => ⟨v, _, _, I9, r8, q8⟩
end
end L2

namespace L2
open PySem PySem.Spec PyProof.Rows PySem.Builtin PySem.Builtin.ObjectAttr PySem.Builtin.Getset_descriptor
/-! ### isinstance of an exception that is held -/
/-- what the text must have of an own error class for isinstance -/
structure ErrIs (K : PySem.W.Frag) (C : Addr) : Prop where
  at_ : ErrAt K C
  ga : PySem.W.findIn K (.ref C) "__getattribute__" = some (some (.builtin "BaseException.__getattribute__"))
  gx : PySem.W.findIn K (.ref C) "__getattr__" = some none
  cl : PySem.W.findIn K (.ref C) "__class__" = some (some (.builtin "object.__class__"))
  sp : PySem.W.specialIn K (.builtin "object.__class__") "__get__" = some (some (.builtin "getset_descriptor.__get__"))
  tk : PySem.W.takesIn K (.builtin "object.__class__") = some true
  mr : PySem.W.mroIn K C (.type "object") = some true
  cs : (PySem.W.clsIn K C).isSome = true
section
variable {prog : Program} {w : World} {A : Around} {E : Value → Shared → Prop} {s : Shared} {K : PySem.W.Frag} {e C : Addr} {ob : Obj}
theorem exc_ga_check {M : Model} {nameV : Value} {Q : Unit → Shared → Prop} (X : K.In s.heap) (q : ErrAt K C) (he : s.heap.get? e = some ob) (hc : ob.cls = .ref C) (hq : Q () s) :
    wpAny M A (checkBuiltinCall "BaseException.__getattribute__" ⟨[.ref e, nameV], []⟩) Q E s := by
  obtain ⟨bm, N, nm, qn, bs, hdct, sn, sub, ab, col, dd, k0, k1, k2, k3, k5, mN, hC, hN, hni, TL, hS⟩ := q.obj X
  obtain ⟨h, g, d, t, os⟩ := s
  have z1 : builtinKind "BaseException.__getattribute__" = some .slot := by decide +kernel
  have z2 : splitId "BaseException.__getattribute__" = some ("BaseException", "__getattribute__") := by decide +kernel
  have z3 : (Value.ref C :: bm).contains (.type "BaseException") = true := by rw [List.contains_cons, TL.hasType PySem.F.excBase_ValueError.hasBase, Bool.or_true]
  have z4 := PySem.F.args_bexc_ga (.ref e) nameV
  simp only [checkBuiltinCall, z2, z1]
  refine wpAny_bind ?_
  · unfold isInstance
    repeat (first | (with_reducible refine wpAny_loadPart_at he ?_; rw [hc]) | (with_reducible refine wpAny_isSubtype_exc hC ?_; rw [z3]) | wp_step)
    exact hq
theorem exc_get {R : Result → Shared → Prop} {tp : Value} (X : K.In s.heap) (hm : PySem.W.mroIn K C (.type "object") = some true) (he : s.heap.get? e = some ob) (hc : ob.cls = .ref C)
    (h : R (.ok (.ret (.ref C))) s) : codeAny (model prog w) A (.call (.builtin "getset_descriptor.__get__") ⟨[.builtin "object.__class__", .ref e, tp], []⟩) R s := by
  obtain ⟨hh, g, dr, t, os⟩ := s
  have L0 : PySem.W.Looks (model prog w) hh (typeOf (.ref e)) (.ref C) := hc ▸ (PySem.W.Looks.ld he).andThen .now
  have L1 := PySem.W.looks_mroIn (M := model prog w) X hm
  refine codeAny_call_builtin PySem.W.KF.slot_gs.plain PySem.W.KF.entry_gs (PySem.W.KF.slot_gs.check _ _ _ _ _ _ _ _ PySem.W.KF.type_class (PySem.W.KF.args_gs _ _ _) ?_)
  unfold Builtin.«getset_descriptor.__get__»
  unfold descrGet
  rw [PySem.W.dga_obj]
  refine wpAny_bind (wpAny_pure ?_)
  unfold descrGetter
  unfold descrCheckInstance
  unfold descrNameAndClass
  unfold isInstance
  simp only [PySem.W.KF.owner_class]
  repeat lk
  refine ⟨Code.quiet_builtin _ (by decide +kernel), codeAny_builtin PySem.W.KF.entry_class ?_⟩
  unfold Builtin.«object.__class__»
  unfold shownTypeOf
  repeat lk
  exact h
theorem exc_class {Q : Option Value → Shared → Prop} (X : K.In s.heap) (q : ErrIs K C) (he : s.heap.get? e = some ob) (hc : ob.cls = .ref C) (h : Q (some (.ref C)) { s with toks := s.toks + 1 }) : wpAny (model prog w) A (getAttr? (.ref e) "__class__") Q E s := by
  obtain ⟨hh, g, d, t, os⟩ := s
  have L0 : PySem.W.Looks (model prog w) hh (typeOf (.ref e)) (.ref C) := hc ▸ (PySem.W.Looks.ld he).andThen .now
  have L1 := PySem.W.looks_findIn (M := model prog w) X q.ga
  have L2 := PySem.W.looks_findIn (M := model prog w) X q.gx
  have L3 : PySem.W.Looks (model prog w) hh (ObjectAttr.find (.ref e) (.ref C) "__class__") (ObjectAttr.Found.bind (.builtin "getset_descriptor.__get__") (.builtin "object.__class__")) := by
    refine (PySem.W.looks_findIn (M := model prog w) X q.cl).andThen ?_
    refine PySem.W.Looks.andThen (a := some (.builtin "getset_descriptor.__get__")) (PySem.W.looks_specialIn X q.sp) ?_
    have Z := PySem.W.looks_takesIn (M := model prog w) X q.tk
    exact (show PySem.W.Looks (model prog w) hh (ObjectAttr.dataDescriptor? (some (.builtin "object.__class__")) (some (.builtin "getset_descriptor.__get__"))) (some (.builtin "getset_descriptor.__get__", .builtin "object.__class__")) from Z.andThen .now).andThen (PySem.W.Looks.tag .now)
  unfold getAttr? getAttrBy? getAttrBy
  refine wpAny_bind (wpAny_mkText (wpAny_bind (wpAny_attempt (wpAny_holding (wpAny_bind (L0.at (wpAny_bind (L1.at ?_))))))))
  have hx2 : (onTheHeap (Value.ref C) && Value.builtin "BaseException.__getattribute__" == Value.builtin "object.__getattribute__") = false := by
    have : (Value.builtin "BaseException.__getattribute__" == Value.builtin "object.__getattribute__") = false := by decide +kernel
    rw [this]; rfl
  simp only [hx2, Bool.false_eq_true, if_false]
  unfold getAttrByItsOwn hookBefore
  have hx3 : onTheHeap (Value.ref C) = true := rfl
  simp only [hx3, if_true]
  refine wpAny_bind (L2.at (wpAny_bind (wpAny_attempt (wpAny_holding ?_))))
  unfold callGetattribute
  simp only [Bool.false_and, Bool.false_eq_true, if_false]
  unfold boundAndCalled
  have f3 := PySem.F.attrBase_ValueError.ga.bind (.ref e)
  refine wpAny_bind (wpAny_of_eq f3 ?_)
  refine wpAny_call (codeAny_call_builtin PySem.F.attrBase_ValueError.ga.plain PySem.F.entry_bexc_ga (exc_ga_check X q.at_ he hc ?_))
  unfold Builtin.«object.__getattribute__»
  refine wpAny_bind (wpAny_pure (wpAny_bind (wpAny_pure (wpAny_bind (L0.at (wpAny_bind (L3.at ?_)))))))
  show wpAny _ _ (holding [Value.builtin "object.__class__"] (call (.builtin "getset_descriptor.__get__") [.builtin "object.__class__", .ref e, .ref C]) >>= ret) _ _ _
  refine wpAny_bind (wpAny_holding (wpAny_call (exc_get X q.mr he hc ?_)))
  refine wpAny_pure ?_
  exact PySem.W.handed_on rfl (wpAny_pure h)
theorem kitx_exc (q : ErrIs K C) : PySem.W.KitX K (.ref e) (.ref C) (fun h => ∃ ob, h.get? e = some ob ∧ ob.cls = .ref C) where
  ty := fun _ _ _ ⟨ob, he, hc⟩ => hc ▸ (PySem.W.Looks.ld he).andThen .now
  it := fun _ _ X _ => by
    obtain ⟨bm, N, nm, qn, bs, hdct, sn, sub, ab, col, dd, k0, k1, k2, k3, k5, mN, hC, _⟩ := q.at_.obj X
    intro A' Q' E' s' k z
    unfold isType
    unfold loadHead
    exact wpAny_bind (wpAny_loadPart (k _ _ hC) (wpAny_pure z))
  ne := fun h tp dd its n sl X htp => by
    obtain ⟨bm, N, nm, qn, bs, hdct, sn, sub, ab, col, dd, k0, k1, k2, k3, k5, mN, hC, _⟩ := q.at_.obj X
    cases z : (Value.ref C == Value.ref tp) with
    | false => rfl
    | true =>
      have e : C = tp := Value.ref.inj (beq_iff_eq.mp z)
      rw [e, htp] at hC
      have := congrArg (fun o => o.map (·.cls)) hC
      simp at this
  ca := fun X ⟨ob, he, hc⟩ k => exc_class X q he hc k
end
section
variable {X : Cx}
/-- a class as a value -/
noncomputable def clsV : V → Option Value
  | .ref a => some (.ref a)
  | .ty n => some (.type n)
  | _ => none
/-- isinstance(e, F), e an exception that is held -/
noncomputable def rIsE (K : PySem.W.Frag) : List V → Hp → VK → Prop := fun xs H Q => ∃ (e C : Addr) (f : V) (fv : Value) (b : Bool), xs = [.ref e, f] ∧ clsV f = some fv ∧ H e = some (ExcO e C) ∧ ErrIs K C ∧ PySem.W.kitOne K (.ref C) fv = some b ∧ Q (.bl b) H
theorem call_isE : CallR X (.builtin "isinstance") (rIsE X.K) := by
  intro pins s σ H xs us Q I r h
  obtain ⟨e, C, f, fv, b, rfl, rf, he, q, hk, hq⟩ := h
  obtain ⟨u, c, rfl, ru, rc⟩ := vals2 r
  cases (show u = Value.ref e from ru)
  have ef : c = fv := by
    cases f with
    | ref a => cases rf; exact (show c = Value.ref a from rc)
    | ty n => cases rf; exact (show c = Value.type n from rc)
    | _ => cases rf
  subst ef
  obtain ⟨⟨ob, h1, h2⟩, _⟩ := (show ObjOk X.prog X.w H s.heap e (ExcO e C) from I.hok e _ he)
  exact PySem.W.kia_one (kitx_exc q) I.kIn ⟨ob, h1, h2⟩ hk (fun z => nomatch z) fun tk => ⟨.bl b, H, I.tok _, rfl, hq⟩
theorem a_rIsE {K : PySem.W.Frag} {xs : List V} {H : Hp} {Q : VK} : rIsE K xs H Q = (∃ (e C : Addr) (f : V) (fv : Value) (b : Bool), xs = [.ref e, f] ∧ clsV f = some fv ∧ H e = some (ExcO e C) ∧ ErrIs K C ∧ PySem.W.kitOne K (.ref C) fv = some b ∧ Q (.bl b) H) := rfl
end
end L2

namespace L2
open PySem PySem.Spec PyProof.Rows
theorem bt_ValueError : bootBuiltins "ValueError" = some (.type "ValueError") := by decide +kernel
/-! ### plain data shown as texts -/
mutual
noncomputable def D.py : D → PyData
  | .non => .none
  | .bl b => .bool b
  | .int i => .int i
  | .str x => .str x
  | .tup ds => .tuple (D.pys ds)
  | .lst ds => .list (D.pys ds)
noncomputable def D.pys : List D → List PyData
  | [] => []
  | d :: ds => D.py d :: D.pys ds
end
mutual
/-- how long its text may be -/
noncomputable def D.wd : D → Nat
  | .non => 4
  | .bl _ => 5
  | .int _ => 1921
  | .str x => 10 * x.length + 2
  | .tup ds => D.wds ds + 3
  | .lst ds => D.wds ds + 3
noncomputable def D.wds : List D → Nat
  | [] => 0
  | d :: ds => D.wd d + 2 + D.wds ds
end
mutual
noncomputable def D.shw : D → Prop
  | .int i => i.natAbs.log2 < 1920
  | .str x => ∀ c ∈ x.cps.toList, c < 16 ^ 8
  | .tup ds => D.shws ds
  | .lst ds => D.shws ds
  | _ => True
noncomputable def D.shws : List D → Prop
  | [] => True
  | d :: ds => D.shw d ∧ D.shws ds
end
mutual
theorem D.py_depth : ∀ d : D, d.py.depth = d.dp
  | .non => rfl
  | .bl _ => rfl
  | .int _ => rfl
  | .str _ => rfl
  | .tup ds => by simp only [D.py, PyData.depth, D.dp, D.pys_depth ds]
  | .lst ds => by simp only [D.py, PyData.depth, D.dp, D.pys_depth ds]
theorem D.pys_depth : ∀ ds : List D, PyData.depthAll (D.pys ds) = D.dps ds
  | [] => rfl
  | d :: ds => by simp only [D.pys, PyData.depthAll, D.dps, D.py_depth d, D.pys_depth ds]
end
mutual
theorem D.py_show : ∀ d : D, d.shw → d.py.showable = true
  | .non, _ => rfl
  | .bl _, _ => rfl
  | .int i, h => by simp only [D.shw] at h; simp only [D.py, PyData.showable]; exact decide_eq_true h
  | .str _, _ => rfl
  | .tup ds, h => by simp only [D.shw] at h; simp only [D.py, PyData.showable]; exact D.pys_show ds h
  | .lst ds, h => by simp only [D.shw] at h; simp only [D.py, PyData.showable]; exact D.pys_show ds h
theorem D.pys_show : ∀ ds : List D, D.shws ds → PyData.showableAll (D.pys ds) = true
  | [], _ => rfl
  | d :: ds, h => by simp only [D.shws] at h; simp only [D.pys, PyData.showableAll, D.py_show d h.1, D.pys_show ds h.2, Bool.and_self]
end
mutual
theorem D.py_dict : ∀ d : D, d.py.hasDict = false
  | .non => rfl
  | .bl _ => rfl
  | .int _ => rfl
  | .str _ => rfl
  | .tup ds => by simp only [D.py, PyData.hasDict, D.pys_dict ds]
  | .lst ds => by simp only [D.py, PyData.hasDict, D.pys_dict ds]
theorem D.pys_dict : ∀ ds : List D, PyData.hasDictAll (D.pys ds) = false
  | [] => rfl
  | d :: ds => by simp only [D.pys, PyData.hasDictAll, D.py_dict d, D.pys_dict ds, Bool.or_self]
end
mutual
theorem D.py_len : ∀ d : D, d.shw → d.py.shown.length ≤ d.wd
  | .non, _ => by show (Str.ofString "None").length ≤ 4; decide +kernel
  | .bl b, _ => by cases b <;> (simp only [D.py, PyData.shown, D.wd]; decide +kernel)
  | .int i, h => by simp only [D.shw] at h; simp only [D.py, PyData.shown, D.wd]; exact int_text_len_1921 h
  | .str x, h => by simp only [D.shw] at h; simp only [D.py, PyData.shown, D.wd]; exact StrLaws.reprText_len x h
  | .tup ds, h => by
    simp only [D.shw] at h
    simp only [D.py, PyData.shown, D.wd]
    have h1 := tupleText_len_le (PyData.shownAll (D.pys ds))
    have h2 := D.pys_len ds h
    omega
  | .lst ds, h => by
    simp only [D.shw] at h
    simp only [D.py, PyData.shown, D.wd]
    have h1 := listText_len_le (PyData.shownAll (D.pys ds))
    have h2 := D.pys_len ds h
    omega
theorem D.pys_len : ∀ ds : List D, D.shws ds → ((PyData.shownAll (D.pys ds)).map (·.length)).sum + 2 * (PyData.shownAll (D.pys ds)).length ≤ D.wds ds
  | [], _ => by simp [D.pys, PyData.shownAll, D.wds]
  | d :: ds, h => by
    simp only [D.shws] at h
    have h1 := D.py_len d h.1
    have h2 := D.pys_len ds h.2
    simp only [D.pys, PyData.shownAll, D.wds, List.map_cons, List.sum_cons, List.length_cons]
    omega
end
section
variable {P : Program} {w : World} {H : Hp} {h : Heap}
mutual
theorem reads_of (hok : HOk P w H h) : ∀ (d : D) {v : V} {u : Value}, Dt H d v → RelV v u → ∃ as, Reads h u d.py as
  | .non, v, u, hd, r => by simp only [Dt] at hd; subst hd; cases r; exact ⟨_, .none⟩
  | .bl b, v, u, hd, r => by simp only [Dt] at hd; subst hd; cases r; exact ⟨_, .bool b⟩
  | .int i, v, u, hd, r => by simp only [Dt] at hd; subst hd; obtain ⟨t, rfl⟩ := r; exact ⟨_, .int i t⟩
  | .str x, v, u, hd, r => by simp only [Dt] at hd; subst hd; obtain ⟨t, rfl⟩ := r; exact ⟨_, .str x t⟩
  | .tup ds, v, u, hd, r => by
    simp only [Dt] at hd
    obtain ⟨a, vs, rfl, ea, hs⟩ := hd
    cases r
    obtain ⟨_, its, rv, o, ho, hc, n, hdt⟩ := hok a _ ea
    obtain ⟨as, ra⟩ := readss_of hok ds hs rv
    exact ⟨_, .tuple ho hc hdt (by simpa using ra)⟩
  | .lst ds, v, u, hd, r => by
    simp only [Dt] at hd
    obtain ⟨a, vs, rfl, ea, hs⟩ := hd
    cases r
    obtain ⟨_, its, n, rv, ho⟩ := hok a _ ea
    obtain ⟨as, ra⟩ := readss_of hok ds hs rv
    exact ⟨_, .list ho rfl rfl (by simpa using ra)⟩
theorem readss_of (hok : HOk P w H h) : ∀ (ds : List D) {vs : List V} {us : List Value}, Dts H ds vs → Vals vs us → ∃ as, ReadsAll h us (D.pys ds) as
  | [], vs, us, hd, r => by simp only [Dts] at hd; subst hd; cases r; exact ⟨_, .nil⟩
  | d :: ds, vs, us, hd, r => by
    simp only [Dts] at hd
    obtain ⟨v, vr, rfl, h1, h2⟩ := hd
    cases r with
    | cons r rt =>
      obtain ⟨as, ra⟩ := reads_of hok d h1 r
      obtain ⟨bs, rb⟩ := readss_of hok ds h2 rt
      exact ⟨_, .cons ra rb⟩
end
end
/-! ### fields of f-strings whose text does not matter -/
section
variable {X : Cx} {k : Nat}
/-- {x}, x a tuple or a list -/
noncomputable def tFmtD (te : TE) : TE := fun σ H Q => te σ H fun v H1 => ∃ a d, v = .ref a ∧ Dt H1 d v ∧ d.shw ∧ d.dp ≤ 150 ∧ d.wd ≤ 1000000 ∧ ∀ z : Str, z.length ≤ d.wd → Q (.str z) H1
theorem pe_fmtD {e : Expr} {te : TE} {pos : Pos} (hr : Room k X.A) (h : PE X e te) : PE X (.FormattedValue e (-1) none pos) (tFmtD te) := by
  intro pins s σ H Q I hw
  refine wpAny_FormattedValue_plain (thn (h pins s σ H _ I hw) fun v s1 ⟨x, H1, I1, r1, q1⟩ => ?_)
  obtain ⟨a, d, rfl, hd, hs, hp, hwd, q⟩ := q1
  obtain ⟨as, ra⟩ := reads_of I1.hok d hd r1
  cases r1
  have hl := D.py_len d hs
  refine formatField_of_reads ra (D.py_show d hs) (fun z => by rw [D.py_dict d] at z; cases z) hr.gd (by rw [D.py_depth]; have := hr.un; omega) (fun b o e => e) (fun h' u tk hk => ?_) (Nat.le_trans (Nat.le_trans hl hwd) (by decide))
  exact ⟨.str _, H1, I1.kept hk, ⟨_, rfl⟩, q _ hl⟩
/-- {x!r}, x a text -/
noncomputable def tFmtR (te : TE) : TE := fun σ H Q => te σ H fun v H1 => ∃ x, v = .str x ∧ (∀ c ∈ x.cps.toList, c < 16 ^ 8) ∧ x.length ≤ 100000 ∧ ∀ z : Str, z.length ≤ 10 * x.length + 2 → Q (.str z) H1
theorem pe_fmtR {e : Expr} {te : TE} {pos : Pos} (h : PE X e te) : PE X (.FormattedValue e 114 none pos) (tFmtR te) := by
  intro pins s σ H Q I hw
  refine wpAny_FormattedValue_repr (thn (h pins s σ H _ I hw) fun v s1 ⟨x, H1, I1, r1, q1⟩ => ?_)
  obtain ⟨x, rfl, hs, hx, q⟩ := q1
  obtain ⟨t, rfl⟩ := r1
  have hl := StrLaws.reprText_len x hs
  have hz : (reprText x).length ≤ sizeLine := Nat.le_trans (Nat.le_trans hl (show 10 * x.length + 2 ≤ 1000002 by omega)) (by decide)
  refine wpAny_pyReprObj_str ?_ hz
  exact wpAny_formatField_str ⟨.str _, H1, I1.tok _, ⟨_, rfl⟩, q _ hl⟩ ⟨.str _, H1, (I1.tok _).tok _, ⟨_, rfl⟩, q _ hl⟩ hz
/-- {i}, i a whole number: its text does not matter -/
noncomputable def tFmtI (te : TE) : TE := fun σ H Q => te σ H fun v H1 => ∃ i, v = .int i ∧ i.natAbs.log2 < 1920 ∧ ∀ z : Str, z.length ≤ 1921 → Q (.str z) H1
theorem pe_fmtI {e : Expr} {te : TE} {pos : Pos} (h : PE X e te) : PE X (.FormattedValue e (-1) none pos) (tFmtI te) := by
  intro pins s σ H Q I hw
  refine wpAny_FormattedValue_plain (thn (h pins s σ H _ I hw) fun v s1 ⟨x, H1, I1, r1, q1⟩ => ?_)
  obtain ⟨i, rfl, hi, q⟩ := q1
  obtain ⟨t, rfl⟩ := r1
  exact wpAny_formatField_int hi ⟨.str _, H1, I1.tok _, ⟨_, rfl⟩, q _ (int_text_len_1921 hi)⟩
theorem a_tFmtD {te : TE} {σ : St} {H : Hp} {Q : VK} : tFmtD te σ H Q = (te σ H fun v H1 => ∃ a d, v = .ref a ∧ Dt H1 d v ∧ d.shw ∧ d.dp ≤ 150 ∧ d.wd ≤ 1000000 ∧ ∀ z : Str, z.length ≤ d.wd → Q (.str z) H1) := rfl
theorem a_tFmtR {te : TE} {σ : St} {H : Hp} {Q : VK} : tFmtR te σ H Q = (te σ H fun v H1 => ∃ x, v = .str x ∧ (∀ c ∈ x.cps.toList, c < 16 ^ 8) ∧ x.length ≤ 100000 ∧ ∀ z : Str, z.length ≤ 10 * x.length + 2 → Q (.str z) H1) := rfl
theorem a_tFmtI {te : TE} {σ : St} {H : Hp} {Q : VK} : tFmtI te σ H Q = (te σ H fun v H1 => ∃ i, v = .int i ∧ i.natAbs.log2 < 1920 ∧ ∀ z : Str, z.length ≤ 1921 → Q (.str z) H1) := rfl
end
end L2

namespace L2
open PySem PySem.Spec PyProof.Rows
/-! ### the greatest and the least of some whole numbers -/
theorem ints_items : ∀ {is : List Int} {us : List Value}, Vals (is.map V.int) us → ∃ xs : List (Int × Tok), us = xs.map (fun p => Value.int p.1 p.2) ∧ xs.map (·.1) = is
  | [], us, r => by cases r; exact ⟨[], rfl, rfl⟩
  | i :: is, us, r => by
    cases r with
    | cons r rt =>
      obtain ⟨t, rfl⟩ := r
      obtain ⟨xs, rfl, e⟩ := ints_items rt
      exact ⟨(i, t) :: xs, rfl, by simp [e]⟩
theorem num_at {xs : List (Int × Tok)} {i : Nat} (h : i < xs.length) : numAt xs.toArray i ∈ xs.map (·.1) := by
  have : numAt xs.toArray i = (xs[i]).1 := by simp [numAt, h]
  rw [this]
  exact List.mem_map.mpr ⟨xs[i], List.getElem_mem h, rfl⟩
theorem num_of {xs : List (Int × Tok)} {j : Int} (h : j ∈ xs.map (·.1)) : ∃ i, i < xs.length ∧ numAt xs.toArray i = j := by
  obtain ⟨p, hp, rfl⟩ := List.mem_map.mp h
  obtain ⟨i, hi, e⟩ := List.mem_iff_getElem.mp hp
  exact ⟨i, hi, by simp [numAt, hi, e]⟩
section
variable {X : Cx}
noncomputable def rMaxS : List V → Hp → VK → Prop := fun xs H Q => ∃ p is, xs = [.ref p] ∧ itemsOf (H p) = some (is.map V.int) ∧ is ≠ [] ∧ ∀ m, m ∈ is → (∀ j ∈ is, j ≤ m) → Q (.int m) H
theorem a_rMaxS {xs : List V} {H : Hp} {Q : VK} : rMaxS xs H Q = (∃ p is, xs = [.ref p] ∧ itemsOf (H p) = some (is.map V.int) ∧ is ≠ [] ∧ ∀ m, m ∈ is → (∀ j ∈ is, j ≤ m) → Q (.int m) H) := rfl
theorem tup_walk {M : Program} {w : World} {A : Around} {E : Value → Shared → Prop} {s : Shared} {a : Addr} {items : Array Value} {R : Value → Shared → Prop} (hh : A.handled = none) (ht : s.heap.IsTuple a items)
    (h : ∀ I s2, Walks M w A I [I, a] [I] items.size (fun i v => items[i]? = some v) (fun i h => h.IsTupleIter I a i ∧ h.IsTuple a items) → (s2.heap.IsTupleIter I a 0 ∧ s2.heap.IsTuple a items) → (∀ b ∈ [I, a], b < s2.heap.objs.size) →
      (∀ h' tk, (∀ b o, b ∉ [I] → s2.heap.get? b = some o → h'.get? b = some o) → (∀ b o, s.heap.get? b = some o → h'.get? b = some o) ∧ ({ s2 with heap := h', toks := tk } : Shared) = { s with heap := h', toks := tk }) → R (.ref I) s2) :
    wpAny (model M w) A (pyIter (.ref a)) R E s := by
  have hlt : a < s.heap.objs.size := by obtain ⟨_, e, _⟩ := ht; exact Heap.lt_size e
  refine wpAny_pyIter_tuple ht (h _ _ (Walks.tuple hh _ a (Nat.ne_of_lt hlt) items) ⟨⟨_, Heap.get?_push_size _ rfl, rfl, rfl⟩, ht.push _⟩ (fun b hb => ?_) fun h' tk hk => ⟨fun b o e => ?_, rfl⟩)
  · show b < (s.heap.push _).objs.size
    rw [Heap.size_push]
    simp only [List.mem_cons, List.not_mem_nil, or_false] at hb
    rcases hb with rfl | rfl
    · exact Nat.lt_succ_self _
    · exact Nat.lt_succ_of_lt hlt
  · refine hk b o (fun hm => ?_) (Heap.get?_push_of_some _ e)
    have := Heap.lt_size e
    rw [List.mem_singleton.mp hm] at this
    exact Nat.lt_irrefl _ this
theorem call_maxS (hc : X.calm = true) : CallR X (.builtin "max") rMaxS := by
  intro pins s σ H xs us Q I r h
  obtain ⟨p, is, rfl, e, hne, q⟩ := h
  obtain ⟨u, rfl, ru⟩ := vals1 r
  cases ru
  have done : ∀ {zs : List (Int × Tok)} {v : Value} {h' : Heap} {tk : Nat}, zs.map (·.1) = is → (intItems zs.toArray)[argBest (fun i j => decide (numAt zs.toArray i > numAt zs.toArray j)) (zs.toArray.size - 1)]? = some v → (∀ b o, s.heap.get? b = some o → h'.get? b = some o) →
      EP X pins σ Q v { s with heap := h', toks := tk } := fun {zs v h' tk} ez hv hk => by
    obtain ⟨t, rfl⟩ := intItems_at hv
    obtain ⟨h1, h2⟩ := argBest_gt (numAt zs.toArray) (zs.toArray.size - 1)
    have hz : 0 < zs.length := by rw [← List.length_map (f := (·.1)), ez]; exact List.length_pos_iff.mpr hne
    simp only [List.size_toArray] at h1 h2
    refine ⟨.int _, H, I.kept hk, ⟨t, rfl⟩, q _ ?_ fun j hj => ?_⟩
    · rw [← ez]; exact num_at (by simp only [List.size_toArray]; omega)
    · rw [← ez] at hj
      obtain ⟨i, hi, rfl⟩ := num_of hj
      exact h2 i (by omega)
  cases ho : H p with
  | none => rw [ho] at e; cases e
  | some o =>
    rw [ho] at e
    cases o with
    | lst vs =>
      cases e
      obtain ⟨_, its, n, rv, hl⟩ := I.hok p _ ho
      obtain ⟨zs, rfl, ez⟩ := ints_items rv
      refine max_intList (xs := zs.toArray) (I.ok.hd hc) ⟨_, hl, rfl, n, by simp [intItems]⟩ ?_ fun v h' tk hv hk => done ez hv hk
      simp only [List.size_toArray]
      rw [← List.length_map (f := (·.1)), ez]; exact List.length_pos_iff.mpr hne
    | tup vs =>
      cases e
      obtain ⟨_, its, rv, o, hl, hcl, n, hdt⟩ := I.hok p _ ho
      obtain ⟨zs, rfl, ez⟩ := ints_items rv
      have ht : s.heap.IsTuple p (intItems zs.toArray) := ⟨o, hl, hcl, n, by rw [hdt]; simp [intItems]⟩
      refine call_max_walk (tup_walk (I.ok.hd hc) ht fun Ia s2 W st hfp hk => ⟨Ia, _, _, _, _, _, _, rfl, W, st, hfp, ?_, CmpOf.ints_gt (numAt zs.toArray) (fun _ _ => intItems_at), fun v h' tk hv hk2 => ?_⟩)
      · simp only [intItems, Array.size_map, List.size_toArray]
        rw [← List.length_map (f := (·.1)), ez]; exact List.length_pos_iff.mpr hne
      · obtain ⟨k1, k2⟩ := hk h' tk hk2
        rw [k2]
        exact done ez (by simpa [intItems] using hv) k1
    | _ => cases e
end
/-! ### small things that more than one law needs -/
theorem compR {lo : Int} {n : Nat} {caps : List Nat} {tc : TT} {te : TE} {σ : St} {H : Hp} {Q : VK} (Pv : Nat → List V → Hp → Prop) (h0 : Pv 0 [] H) (hx : n ≤ 100000) (hy : ∀ i ys H', Pv i ys H' → ys.length ≤ i)
    (hs : ∀ i ys H', i < n → Same H H' → Pv i ys H' → tc (blkSt caps σ (some (.int (lo + i)))) H' fun b H2 => if b = true then te (blkSt caps σ (some (.int (lo + i)))) H2 fun y H3 => Same H H3 ∧ Pv (i + 1) (ys ++ [y]) H3 else Same H H2 ∧ Pv (i + 1) ys H2)
    (hd : ∀ p ys H1 H2, Same H H1 → Same H1 H2 → Pv n ys H1 → H1 p = none → H2 p = some (.lst ys) → Q (.ref p) H2) : wComp (Itr lo n) caps tc te σ H Q :=
  comp_range (fun i ys H' => Same H H' ∧ Pv i ys H') ⟨Same.refl H, h0⟩ (small_size hx) (fun i ys H' p => hy i ys H' p.2) (fun i ys H' hi p => hs i ys H' hi p.1 p.2) fun ys H' p q n => hd q ys H' _ p.1 (same_new n _) p.2 n upd_same
theorem comp_tup {K : PySem.W.Frag} {a : Addr} {xs : List V} {caps : List Nat} {tc : TT} {te : TE} {σ : St} {H : Hp} {Q : VK} (Pv : Nat → List V → Hp → Prop) (h0 : Pv 0 [] H) (hx : xs.length < sizeLine) (hy : ∀ i ys H, Pv i ys H → ys.length ≤ i)
    (hl : ∀ i ys H, i ≤ xs.length → Pv i ys H → SqT K H a xs)
    (hs : ∀ i x ys H, xs[i]? = some x → Pv i ys H → tc (blkSt caps σ (some x)) H fun b H2 => if b = true then te (blkSt caps σ (some x)) H2 fun y H3 => Pv (i + 1) (ys ++ [y]) H3 else Pv (i + 1) ys H2)
    (hd : ∀ ys H, Pv xs.length ys H → ∀ p, H p = none → Q (.ref p) (upd H p (.lst ys))) : wComp (Itt K a) caps tc te σ H Q := by
  refine ⟨fun i m ys H => m = xs.length - i ∧ i ≤ xs.length ∧ Pv i ys H, ⟨xs.length, by simp, Nat.zero_le _, h0⟩, ?_⟩
  rintro i m ys H ⟨rfl, hi, p⟩
  have q := hl i ys H hi p
  by_cases hlt : i < xs.length
  · refine .inr ⟨⟨xs, xs[i], q, by simp [hlt]⟩, Nat.lt_of_le_of_lt (Nat.le_trans (hy i ys H p) hi) hx, Pv (i + 1), fun ys' H' p' => ⟨xs.length - (i + 1), by omega, rfl, hlt, p'⟩, fun x H' y => ?_⟩
    obtain ⟨e, y⟩ := y
    subst e
    exact hs i x ys _ (y xs q) p
  · have e : i = xs.length := by omega
    subst e
    exact .inl ⟨⟨xs, q, Nat.le_refl _⟩, hd ys H p⟩
theorem WalkT.comp {K : PySem.W.Frag} {a : Addr} {xs : List V} {caps : List Nat} {tc : TT} {te : TE} {σ : St} {H : Hp} {Q : VK} (e : H a = some (.tup xs)) (Pv : Nat → List V → Hp → Prop) (h0 : Pv 0 [] H) (hx : xs.length ≤ 100000)
    (hy : ∀ i ys H', Pv i ys H' → ys.length ≤ i)
    (hs : ∀ i x ys H', xs[i]? = some x → Same H H' → Pv i ys H' → tc (blkSt caps σ (some x)) H' fun b H2 => if b = true then te (blkSt caps σ (some x)) H2 fun y H3 => Same H H3 ∧ Pv (i + 1) (ys ++ [y]) H3 else Same H H2 ∧ Pv (i + 1) ys H2)
    (hd : ∀ p ys H1 H2, Same H H1 → Same H1 H2 → Pv xs.length ys H1 → H1 p = none → H2 p = some (.lst ys) → Q (.ref p) H2) : WalkT K (.ref a) H fun J H1 => wComp J caps tc te σ H1 Q :=
  ⟨a, rfl, ⟨xs, e⟩, comp_tup (fun i ys H' => Same H H' ∧ Pv i ys H') ⟨Same.refl H, h0⟩ (small_size hx) (fun i ys H' p => hy i ys H' p.2) (fun i ys H' _ p => SqT.of (p.1 _ _ e)) (fun i x ys H' ex p => hs i x ys H' ex p.1 p.2) fun ys H' p q n => hd q ys H' _ p.1 (same_new n _) p.2 n upd_same⟩
end L2

namespace L2
open PySem PySem.Spec PyProof.Rows
theorem slen (a b : Str) : (a ++ b).length = a.length + b.length := by simp only [len_cps, cps_append, List.length_append]
theorem len_nil : Str.empty.length = 0 := by decide +kernel
/-! ### deeds as data -/
noncomputable abbrev Deed := M.Deed Str
/-! ### list(x), tuple(x) -/
/-! ### a tuple cut, or left whole -/
open HT in
/-! ### states: two lists -/
theorem st_mk {H : Hp} {B S : List D} {p b s : Addr} {vs us : List V} (e : H p = some (.tup [.ref b, .ref s])) (eb : H b = some (.lst vs)) (es : H s = some (.lst us)) (db : Dts H B vs) (ds : Dts H S us) : Dt H (.tup [.lst B, .lst S]) (.ref p) :=
  Dt.tup e (.cons (Dt.lst eb db) (.cons (Dt.lst es ds) .nil))
/-- a new state, its lists new -/
noncomputable def RetS (H : Hp) (st : List D × List D) (Q : VK) : Prop := ∀ p b s vs us H', Same H H' → H' p = some (.tup [.ref b, .ref s]) → H b = none → H s = none → b ≠ s → H' b = some (.lst vs) → H' s = some (.lst us) → Dts H' st.1 vs → Dts H' st.2 us → Q (.ref p) H'
theorem RetS.d {H : Hp} {B S : List D} {Q : VK} (h : RetD H (.tup [.lst B, .lst S]) Q) : RetS H (B, S) Q := fun p b s vs us H' S' e _ _ _ eb es db ds => h _ _ S' (st_mk e eb es db ds)
theorem Dts.len {H : Hp} {B : List D} {vs : List V} (h : Dts H B vs) : vs.length = B.length := h.length
end L2

namespace L2
open PySem PySem.Spec PyProof.Rows
/-! ### a body cut in two: the rest is a letter -/
section
variable {D : Ends} {σ : St} {H : Hp} {a b c d e f g h i j k l B : TS}
end
/-! ### the rest, with its ends, as one letter -/
section
variable {D : Ends} {σ : St} {H : Hp} {a b c d e f B : TS}
theorem cutC1 (q : ∀ C : St → Hp → Prop, C = B D → tSeq a (fun _ => C) D σ H) : tSeq a B D σ H := q _ rfl
theorem cutC2 (q : ∀ C : St → Hp → Prop, C = B D → tSeq a (tSeq b fun _ => C) D σ H) : tSeq a (tSeq b B) D σ H := q _ rfl
theorem cutC3 (q : ∀ C : St → Hp → Prop, C = B D → tSeq a (tSeq b (tSeq c fun _ => C)) D σ H) : tSeq a (tSeq b (tSeq c B)) D σ H := q _ rfl
end
theorem lst1 {p : List Value → Prop} (h : ∀ a, p [a]) (us : List Value) (hl : us.length = 1) : p us := by
  obtain _ | ⟨a, us⟩ := us
  · cases hl
  obtain _ | ⟨_, _⟩ := us
  · exact h a
  · simp at hl
theorem lst2 {p : List Value → Prop} (h : ∀ a b, p [a, b]) (us : List Value) (hl : us.length = 2) : p us := by
  obtain _ | ⟨a, us⟩ := us
  · cases hl
  obtain _ | ⟨b, us⟩ := us
  · cases hl
  obtain _ | ⟨_, _⟩ := us
  · exact h a b
  · simp at hl
theorem lst3 {p : List Value → Prop} (h : ∀ a b c, p [a, b, c]) (us : List Value) (hl : us.length = 3) : p us := by
  obtain _ | ⟨a, us⟩ := us
  · cases hl
  obtain _ | ⟨b, us⟩ := us
  · cases hl
  obtain _ | ⟨c, us⟩ := us
  · cases hl
  obtain _ | ⟨_, _⟩ := us
  · exact h a b c
  · simp at hl
theorem Fun.binds1 {K : PySem.W.Frag} {x qual : Str} {st : Stmt} {f : Addr} {fd : FuncData} {ps : List Str} (F : Fun K x qual st f fd) (hn : ps.length = 1) (h : ∀ (kV doc pm : Value) (an : Option Addr) (cdv ct : Value) (a : Value), bindArgs (PySem.W.fnOf x qual (defArgs st) (defBody st) (defScope st) .none kV doc pm an cdv ct) ⟨[a], []⟩ = pure (ps.zip [a])) : Binds K fd ps [] :=
  F.binds fun kV doc pm an cdv ct us hl => lst1 (p := fun us => bindArgs (PySem.W.fnOf x qual (defArgs st) (defBody st) (defScope st) .none kV doc pm an cdv ct) ⟨us, []⟩ = pure (ps.zip us)) (h kV doc pm an cdv ct) us (hl.trans hn)
theorem Fun.binds2 {K : PySem.W.Frag} {x qual : Str} {st : Stmt} {f : Addr} {fd : FuncData} {ps : List Str} (F : Fun K x qual st f fd) (hn : ps.length = 2) (h : ∀ (kV doc pm : Value) (an : Option Addr) (cdv ct : Value) (a b : Value), bindArgs (PySem.W.fnOf x qual (defArgs st) (defBody st) (defScope st) .none kV doc pm an cdv ct) ⟨[a, b], []⟩ = pure (ps.zip [a, b])) : Binds K fd ps [] :=
  F.binds fun kV doc pm an cdv ct us hl => lst2 (p := fun us => bindArgs (PySem.W.fnOf x qual (defArgs st) (defBody st) (defScope st) .none kV doc pm an cdv ct) ⟨us, []⟩ = pure (ps.zip us)) (h kV doc pm an cdv ct) us (hl.trans hn)
theorem Fun.binds3 {K : PySem.W.Frag} {x qual : Str} {st : Stmt} {f : Addr} {fd : FuncData} {ps : List Str} (F : Fun K x qual st f fd) (hn : ps.length = 3) (h : ∀ (kV doc pm : Value) (an : Option Addr) (cdv ct : Value) (a b c : Value), bindArgs (PySem.W.fnOf x qual (defArgs st) (defBody st) (defScope st) .none kV doc pm an cdv ct) ⟨[a, b, c], []⟩ = pure (ps.zip [a, b, c])) : Binds K fd ps [] :=
  F.binds fun kV doc pm an cdv ct us hl => lst3 (p := fun us => bindArgs (PySem.W.fnOf x qual (defArgs st) (defBody st) (defScope st) .none kV doc pm an cdv ct) ⟨us, []⟩ = pure (ps.zip us)) (h kV doc pm an cdv ct) us (hl.trans hn)
theorem Dts.strs {H : Hp} {f : Nat → Str} {n : Nat} {vs : List V} (h : Dts H ((List.range n).map fun k => D.str (f k)) vs) : vs = ((List.range n).map f).map V.str := by
  have : ((List.range n).map fun k => D.str (f k)) = ((List.range n).map f).map D.str := by rw [List.map_map]; rfl
  rw [this] at h
  exact Dts.of_str h
end L2

namespace L2
open PySem PySem.Spec PyProof.Rows
section
variable {X : Cx} {pins : List (Addr × Obj)} {σ : St} {H H' : Hp} {s : Shared} {h' : Heap}
end
/-! ### enumerate(l) -/
noncomputable def Ite (a : Addr) : It := ⟨fun i H => ∃ xs x, H a = some (.lst xs) ∧ xs[i]? = some x,
  fun i H x H' => ∃ T y, x = .ref T ∧ H T = none ∧ H' = upd H T (.tup [.int (i : Int), y]) ∧ ∀ ys, H a = some (.lst ys) → ys[i]? = some y,
  fun i H => ∃ xs, H a = some (.lst xs) ∧ xs.length ≤ i⟩
noncomputable def WalkE (x : V) (H : Hp) (R : It → Hp → Prop) : Prop := ∃ a, x = .ref a ∧ (∃ xs, H a = some (.lst xs)) ∧ R (Ite a) H
theorem WalkE.for {a : Addr} {xs : List V} {g : TG} {tb : TS} {D : Ends} {σ : St} {H : Hp} (e : H a = some (.lst xs)) (Pv : Nat → St → Hp → Prop) (h0 : Pv 0 σ H) (hl : ∀ i σ H, i ≤ xs.length → Pv i σ H → H a = some (.lst xs))
    (hs : ∀ i x σ H T H', xs[i]? = some x → Pv i σ H → Same H H' → H T = none → H' T = some (.tup [.int (i : Int), x]) → g (.ref T) σ H' fun σ2 H2 => tb { D with nx := Pv (i + 1), ct := Pv (i + 1), bk := D.nx } σ2 H2) (hd : ∀ σ H, Pv xs.length σ H → D.nx σ H) : WalkE (.ref a) H fun J H1 => ForW J g tb D σ H1 := by
  refine ⟨a, rfl, ⟨xs, e⟩, fun i m σ H => i + m = xs.length ∧ Pv i σ H, ⟨xs.length, by simp, h0⟩, fun i m σ H h => ?_⟩
  obtain ⟨h1, h2⟩ := h
  have ea := hl i σ H (by omega) h2
  by_cases c : m = 0
  · subst c
    have : i = xs.length := by omega
    subst this
    exact .inl ⟨⟨xs, ea, Nat.le_refl _⟩, hd σ H h2⟩
  · have hi : i < xs.length := by omega
    refine .inr ⟨⟨xs, _, ea, List.getElem?_eq_getElem hi⟩, Pv (i + 1), fun σ' H' q => ⟨m - 1, by omega, by omega, q⟩, fun x H' y => ?_⟩
    obtain ⟨T, z, rfl, nT, rfl, hz⟩ := y
    exact hs i z σ H T _ (hz xs ea) h2 (same_new nT _) nT upd_same
/-! ### zip(l, m) -/
noncomputable def Itz (a b : Addr) : It := ⟨fun i H => ∃ xs ys x y, H a = some (.lst xs) ∧ H b = some (.lst ys) ∧ xs[i]? = some x ∧ ys[i]? = some y,
  fun i H x H' => ∃ T y z, x = .ref T ∧ H T = none ∧ H' = upd H T (.tup [y, z]) ∧ (∀ ys, H a = some (.lst ys) → ys[i]? = some y) ∧ ∀ ys, H b = some (.lst ys) → ys[i]? = some z,
  fun i H => ∃ xs ys, H a = some (.lst xs) ∧ H b = some (.lst ys) ∧ (xs.length ≤ i ∨ ys.length ≤ i)⟩
structure Apart5 (z TI TO i1 i2 : Addr) : Prop where
  a : TI ≠ z
  b : TO ≠ z
  c : i1 ≠ z
  d : i2 ≠ z
  e : TI ≠ TO
  f : TI ≠ i1
  g : TI ≠ i2
  h : TO ≠ i1
  i : TO ≠ i2
  j : i1 ≠ i2
noncomputable def WalkZ (x y : V) (H : Hp) (R : It → Hp → Prop) : Prop := ∃ a b, x = .ref a ∧ y = .ref b ∧ (∃ xs, H a = some (.lst xs)) ∧ (∃ xs, H b = some (.lst xs)) ∧ R (Itz a b) H
theorem WalkZ.for {a b : Addr} {xs ys : List V} {g : TG} {tb : TS} {D : Ends} {σ : St} {H : Hp} (e : H a = some (.lst xs)) (e2 : H b = some (.lst ys)) (hxy : xs.length = ys.length) (Pv : Nat → St → Hp → Prop) (h0 : Pv 0 σ H) (hl : ∀ i σ H, i ≤ xs.length → Pv i σ H → H a = some (.lst xs) ∧ H b = some (.lst ys))
    (hs : ∀ i x y σ H T H', xs[i]? = some x → ys[i]? = some y → Pv i σ H → Same H H' → H T = none → H' T = some (.tup [x, y]) → g (.ref T) σ H' fun σ2 H2 => tb { D with nx := Pv (i + 1), ct := Pv (i + 1), bk := D.nx } σ2 H2) (hd : ∀ σ H, Pv xs.length σ H → D.nx σ H) : WalkZ (.ref a) (.ref b) H fun J H1 => ForW J g tb D σ H1 := by
  refine ⟨a, b, rfl, rfl, ⟨xs, e⟩, ⟨ys, e2⟩, fun i m σ H => i + m = xs.length ∧ Pv i σ H, ⟨xs.length, by simp, h0⟩, fun i m σ H h => ?_⟩
  obtain ⟨h1, h2⟩ := h
  obtain ⟨ea, eb⟩ := hl i σ H (by omega) h2
  by_cases c : m = 0
  · subst c
    have : i = xs.length := by omega
    subst this
    exact .inl ⟨⟨xs, ys, ea, eb, .inl (Nat.le_refl _)⟩, hd σ H h2⟩
  · have hi : i < xs.length := by omega
    refine .inr ⟨⟨xs, ys, _, _, ea, eb, List.getElem?_eq_getElem hi, List.getElem?_eq_getElem (by omega)⟩, Pv (i + 1), fun σ' H' q => ⟨m - 1, by omega, by omega, q⟩, fun x H' y => ?_⟩
    obtain ⟨T, z1, z2, rfl, nT, rfl, hz1, hz2⟩ := y
    exact hs i z1 z2 σ H T _ (hz1 xs ea) (hz2 ys eb) h2 (same_new nT _) nT upd_same
end L2

namespace L2
open PySem PySem.Spec PyProof.Rows
/-! ### greater whole numbers -/
noncomputable abbrev bits (x : Int) : Nat := Builtin.Int.intBits x
/-! ### dicts by texts -/
noncomputable def GivD (H : Hp) (p : Addr) (giv : Str → Int) (ok : Str → Prop) : Prop := ∃ kvs : List (Key × V), H p = some (.dK kvs) ∧ ∀ x, ok x → valV kvs (.inr x) = some (.int (giv x))
noncomputable abbrev Four := Int × Int × Int × Int
noncomputable def vFour (q : Four) : List V := [.int q.1, .int q.2.1, .int q.2.2.1, .int q.2.2.2]
noncomputable def MeanD (H : Hp) (p : Addr) (mean : Str → Four) (ok : Str → Prop) : Prop := ∃ kvs : List (Key × V), H p = some (.dK kvs) ∧ ∀ f, ok f → ∃ a, valV kvs (.inr f) = some (.ref a) ∧ H a = some (.tup (vFour (mean f)))
theorem GivD.same {H H' : Hp} {p : Addr} {giv : Str → Int} {ok : Str → Prop} (h : GivD H p giv ok) (S : Same H H') : GivD H' p giv ok := by
  obtain ⟨kvs, e, q⟩ := h
  exact ⟨kvs, S _ _ e, q⟩
theorem MeanD.same {H H' : Hp} {p : Addr} {mean : Str → Four} {ok : Str → Prop} (h : MeanD H p mean ok) (S : Same H H') : MeanD H' p mean ok := by
  obtain ⟨kvs, e, q⟩ := h
  exact ⟨kvs, S _ _ e, fun f hf => let ⟨a, h1, h2⟩ := q f hf; ⟨a, h1, S _ _ h2⟩⟩
theorem GivD.get {H : Hp} {p : Addr} {giv : Str → Int} {ok : Str → Prop} {x : Str} (h : GivD H p giv ok) (hx : ok x) : DGet H p (.str x) (some (.int (giv x))) := by
  obtain ⟨kvs, e, q⟩ := h
  exact .inl ⟨kvs, .inr x, Rd.of e, rfl, (q x hx).symm⟩
theorem MeanD.get {H : Hp} {p : Addr} {mean : Str → Four} {ok : Str → Prop} {f : Str} (h : MeanD H p mean ok) (hf : ok f) : ∃ a, DGet H p (.str f) (some (.ref a)) ∧ H a = some (.tup (vFour (mean f))) := by
  obtain ⟨kvs, e, q⟩ := h
  obtain ⟨a, h1, h2⟩ := q f hf
  exact ⟨a, .inl ⟨kvs, .inr f, Rd.of e, rfl, h1.symm⟩, h2⟩
end L2

namespace L2
open PySem PySem.Spec PyProof.Rows
/-! ### range(a, b, -1) -/
section
variable {X : Cx} {tg : Expr}
end
/-! ### l.index(m), a list of whole numbers -/
section
variable {X : Cx}
noncomputable def isInt (m : Int) : Value → Bool | .int i _ => i == m | _ => false
end
/-! ### the heap without one list, which is being written -/
theorem Dts.snoc {H : Hp} {ds : List D} {d : D} {us : List V} {v : V} (h : Dts H ds us) (g : Dt H d v) : Dts H (ds ++ [d]) (us ++ [v]) := h.append (.one g)
/-! ### a list walked within a comprehension -/
/-! ### any of a list of truth values -/
section
variable {X : Cx}
end
end L2

namespace L2
open PySem PySem.Spec PyProof.Rows
open PySem.W (hideAll hideAll_get hideAll_none of_hideAll funFrames_hide fresh_of_stays flyingW_base)
/-! ### raise C(..) from n, where n holds what was caught -/
theorem uc_entry : entryFor table "proto.unchain" = some Builtin.«proto.unchain» := entryFor_of_tree (by kernel_rfl)
theorem uc_plain : plainId "proto.unchain" = true := by decide +kernel
section
variable {prog : Program} {w : World} {A : Around} {E : Value → Shared → Prop} {s : Shared} {K : PySem.W.Frag}
theorem exc_val {a C : Addr} {ob : Obj} {msg : String} {Q : Value → Shared → Prop} (X : K.In s.heap) (qC : ErrAt K C) (g : s.heap.get? a = some ob) (hc : ob.cls = .ref C) {vs : Array Value} (hd : ob.data = .fields vs) (q : Q (.ref a) s) : wpAny (model prog w) A (excFromValue (.ref a) msg) Q E s := by
  obtain ⟨bm, N, nm, qn, bs, hdct, sn, sub, ab, col, dd, k0, k1, k2, k3, k5, mN, hC, hN, hni, TL, hS⟩ := qC.obj X
  have hB : (Value.ref C :: bm).contains (.type "BaseException") = true := by rw [List.contains_cons, TL.hasType PySem.F.excBase_ValueError.hasBase, Bool.or_true]
  have f := tc_notTuple
  obtain ⟨o1, o2, o3, o4⟩ := ob
  simp only at hc hd
  subst hc hd
  obtain ⟨h, g', d, t, os⟩ := s
  unfold excFromValue
  repeat (first | with_reducible refine wpAny_loadPart_at g ?_ | with_reducible refine wpAny_loadPart_at hC ?_ | (with_reducible refine wpAny_isSubtype_exc hC ?_; rw [hB]) | wp_step)
  exact q
theorem exc_noType {a C : Addr} {ob : Obj} {Q : Bool → Shared → Prop} (X : K.In s.heap) (qC : ErrAt K C) (g : s.heap.get? a = some ob) (hc : ob.cls = .ref C) {vs : Array Value} (hd : ob.data = .fields vs) (q : Q false s) : wpAny (model prog w) A (isType (.ref a)) Q E s := by
  obtain ⟨bm, N, nm, qn, bs, hdct, sn, sub, ab, col, dd, k0, k1, k2, k3, k5, mN, hC, hN, hni, TL, hS⟩ := qC.obj X
  obtain ⟨o1, o2, o3, o4⟩ := ob
  simp only at hc hd
  subst hc hd
  obtain ⟨h, g', d, t, os⟩ := s
  unfold isType
  repeat (first | with_reducible refine wpAny_loadPart_at g ?_ | with_reducible refine wpAny_loadPart_at hC ?_ | wp_step)
  exact q
theorem exc_inst {a C : Addr} {ob : Obj} {Q : Value → Shared → Prop} (X : K.In s.heap) (qC : ErrAt K C) (g : s.heap.get? a = some ob) (hc : ob.cls = .ref C) {vs : Array Value} (hd : ob.data = .fields vs) (q : Q (.ref a) s) : wpAny (model prog w) A (raisedInstance (.ref a)) Q E s := by
  obtain ⟨bm, N, nm, qn, bs, hdct, sn, sub, ab, col, dd, k0, k1, k2, k3, k5, mN, hC, hN, hni, TL, hS⟩ := qC.obj X
  obtain ⟨o1, o2, o3, o4⟩ := ob
  simp only at hc hd
  subst hc hd
  obtain ⟨h, g', d, t, os⟩ := s
  unfold raisedInstance
  repeat (first | with_reducible refine wpAny_loadPart_at g ?_ | with_reducible refine wpAny_loadPart_at hC ?_ | wp_step)
  exact q
theorem unchained {e hA : Addr} {oh : Obj} {vs : Array Value} {Q : Value → Shared → Prop} (g : s.heap.get? hA = some oh) (d : oh.data = .fields vs) (h2 : vs[2]? = some .none) (q : Q .none s) :
    wpAny (model prog w) A (runValue (.builtin "proto.unchain" { pos := [.ref e, .ref hA, .ref hA, .bool false] })) Q E s := by
  refine wpAny_runValue (codeAny_builtin uc_entry ?_)
  rw [Around.under_plainId uc_plain _]
  show wpAny _ _ (field (.ref hA) 2 >>= _) _ _ s
  exact wpAny_bind (wpAny_field g d h2 (wpAny_ite_split (fun _ => wpAny_pure q) fun c => absurd (by simp) c))
theorem raise_from {env : Env} {x c : Sem Value} {hA : Addr} {Q : Flow → Shared → Prop} (hh : A.handled = some (.ref hA))
    (hx : wpAny (model prog w) A x (fun v s1 => ∃ e, v = .ref e ∧ wpAny (model prog w) A c (fun u s2 => u = .ref hA ∧ ∃ (CN C2 : Addr) (t : Value) (oh : Obj) (vs : Array Value), (∀ h', Heap.SameBut e s2.heap h' → K.In h') ∧ ErrAt K CN ∧ ErrAt K C2 ∧
      s2.heap.get? e = some { cls := .ref CN, data := .fields #[t, .none, .none, .none, .bool false, .none] } ∧ s2.heap.get? hA = some oh ∧ oh.cls = .ref C2 ∧ oh.data = .fields vs ∧ vs[2]? = some .none ∧ e ≠ hA ∧
      ∀ h' o', h'.get? e = some o' → o'.cls = .ref CN → o'.data = .fields #[t, .none, .ref hA, .ref hA, .bool true, .none] → Heap.SameBut e s2.heap h' → E (.ref e) { s2 with heap := h' }) E s1) E s) :
    wpAny (model prog w) A (raiseStmt env (some x) (some c)) Q E s := by
  unfold raiseStmt
  refine wpAny_bind (wpAny_mono hx (fun v s1 ⟨e, ev, hc⟩ => ?_) fun _ _ y => y)
  subst ev
  refine wpAny_bind (wpAny_holding (wpAny_mono hc (fun u s2 ⟨eu, CN, C2, t, oh, vs, kin, q1, q2, ge, gh, ch, dh, h2, ne, q⟩ => ?_) fun _ _ y => y))
  subst eu
  have K0 := kin _ (Heap.SameBut.refl e s2.heap)
  refine wpAny_bind (wpAny_pure (wpAny_bind (wpAny_holding (exc_val K0 q1 ge rfl rfl ?_))))
  refine wpAny_ite_split (fun c => absurd c (by simp)) fun _ => wpAny_bind (wpAny_holding (exc_val K0 q2 gh ch dh ?_))
  refine wpAny_bind (setF ge rfl (by simp) fun h3 o3 k1 k2 k3 sb3 => wpAny_bind (setF (s := { s2 with heap := h3 }) k1 k3 (by simp) fun h4 o4 m1 m2 m3 sb4 => ?_))
  have sb := sb3.trans sb4
  have K4 := kin h4 sb
  have c4 : o4.cls = .ref CN := m2.trans k2
  refine wpAny_bind (exc_noType (s := { s2 with heap := h4 }) K4 q1 m1 c4 m3 ?_)
  refine wpAny_ite_split (fun c => absurd c (by decide)) fun _ => wpAny_bind (exc_inst (s := { s2 with heap := h4 }) K4 q1 m1 c4 m3 (wpAny_bind ?_))
  unfold setFlight
  refine wpAny_bind (wpAny_field (s := { s2 with heap := h4 }) m1 m3 (x := .none) (by simp) (wpAny_ite_split (fun c => absurd c (by simp)) fun _ => wpAny_pure ?_))
  unfold raiseNew
  refine wpAny_bind (wpAny_handled ?_)
  rw [hh]
  refine wpAny_ite_split (fun _ => ?_) fun c => absurd (by simpa using ne.symm) c
  refine wpAny_bind (wpAny_holding (unchained (s := { s2 with heap := h4 }) ((sb.2 hA ne.symm).trans gh) dh h2 ?_))
  refine wpAny_bind (show wpAny _ _ (setField (.ref e) 2 (.ref hA)) _ _ _ from setF (s := { s2 with heap := h4 }) m1 m3 (by simp) fun h5 o5 n1 n2 n3 sb5 => wpAny_throw (q h5 o5 n1 (n2.trans c4) ?_ (sb.trans sb5)))
  rw [n3]
  rfl
end
section
variable {X : Cx} {pins : List (Addr × Obj)} {σ : St} {H : Hp} {s : Shared}
/-- an exception is made -/
theorem call_exc {x : Str} {CN : Addr} {e0 : Expr} {es : List Expr} {ta : TA} {np cpos : Pos} {R : List V → Hp → Prop} (I : Inv X pins σ H s) (hg : Gl X x) (hm : X.mg x = some (.ref CN)) (q : ErrAt X.K CN) (ha : PA X (e0 :: es) ta) (h : ta σ H fun vs H1 => vs.length ≤ sizeLine ∧ R vs H1)
    (hdb : (x == ("__debug__" : Str)) = false := by decide) (he : starEach (e0 :: es) X.env = (false, eval e0 X.env) :: starEach es X.env := by rfl) (hpl : (backTo cpos (starEach es X.env)).any (·.1) = false := by rfl) :
    wpAny (model X.prog X.w) X.A (eval (.Call (.Name x np) (e0 :: es) [] cpos) X.env) (fun v s3 => ∃ e vs us H2 s2, v = .ref e ∧ Inv X pins σ H2 s2 ∧ (∃ h', s3 = { s2 with heap := h' } ∧ Heap.MadeExcOf s2.heap h' e (.ref CN) us) ∧ R vs H2) X.xe s := by
  have O := q.own I.ok.mod.kin hm
  obtain ⟨bm, N, nm, qn, bs, hdct, sn, sub, ab, col, dd, k0, k1, k2, k3, k5, mN, hC, hN, hni, TL⟩ := O.obj
  refine wpAny_Call_ofName (ld_glob I hg hm ?_ hdb)
  unfold callWith
  have z := ha cpos pins s σ H _ I h
  rw [he] at z ⊢
  have plain : (backTo cpos ((false, eval e0 X.env) :: starEach es X.env)).any (·.1) = false := by
    show (false || (backTo cpos (starEach es X.env)).any (·.1)) = false
    rw [hpl]; rfl
  refine wpAny_bind (wpAny_holding (Calls.evalArgs_plain (wpAny_mono z (fun us s2 ⟨vs, H2, I2, r, hl, qR⟩ => wpAny_bind (wpAny_standAt ?_)) fun _ _ y => y)))
  obtain ⟨hp, g, d, tk, os⟩ := s2
  simp only [plain]
  have hC2 := I2.bk _ _ hC
  refine wpAny_bind (wpAny_keeperOf_exc hC2 ?_)
  refine wpAny_bind (wpAny_call_exc_subT (hrest := by show us.length ≤ _; rw [← r.length]; exact hl) PySem.F.excBase_ValueError (TL.keeps I2.bk) hC2 (hN.keeps I2.bk) hni fun h' e hm => wpAny_bind (wpAny_holding (wpAny_point (wpAny_pure ?_))))
  exact ⟨e, vs, us, H2, ⟨hp, g, d, tk, os⟩, rfl, I2, ⟨h', rfl, hm⟩, qR⟩
/-- an exception that is held, and came of no other -/
noncomputable def ExcO2 (e C : Addr) : HO := .ext fun h => ∃ ob vs, h.get? e = some ob ∧ ob.cls = .ref C ∧ ob.data = .fields vs ∧ vs[2]? = some .none
theorem exc_inv2 {H' : Hp} {s1 : Shared} {h1 h' : Heap} {e C T0 : Addr} {a0 : Value} {l : List Env} (I : Inv X pins σ H s) (un : Un (frs X.stack) [] H H' s.heap h1) (hok : HOk X.prog X.w H' h1)
    (ne : H' e = none) (nT : H' T0 = none) (ge : s.heap.get? e = none) (gT : s.heap.get? T0 = none) (fl : Heap.FlyingW (hideAll h1 (e :: T0 :: frs X.stack)) l e (.ref C) a0 h') (c0 : Ctx0 h' e) (sm : h1.UpToSlots h') (os : s1.os = s.os) (bare : AllBare s1.gens) :
    Inv X pins σ (upd H' e (ExcO2 e C)) { s1 with heap := h' } := by
  obtain ⟨u, k⟩ := fly_keep I un hok ne nT ge gT fl sm
  obtain ⟨ob, hob, hoc⟩ := fl.there
  obtain ⟨o', vs, g1, g2, g3⟩ := c0
  rw [hob] at g1
  cases g1
  have k2 : HOk X.prog X.w (upd H' e (ExcO2 e C)) h' := k.adopt ne ⟨⟨ob, vs, hob, hoc, g2, g3⟩, ⟨ob, hob⟩, fun h1 h2 ⟨o, vs, h, c, d, f⟩ st => ⟨o, vs, st o h, c, d, f⟩⟩
  have u2 : Un (frs X.stack) [] H (upd H' e (ExcO2 e C)) s.heap h' := by
    refine ⟨u.keep, u.slot, fun b o q n hx => ?_, u.there, fun b xs q => ?_, fun b o w q => ?_, fun b ps q => ?_⟩
    · rw [upd_ne (fun z => by rw [z, ge] at q; cases q)]; exact u.free b o q n hx
    · have := u.tups b xs q
      rw [upd_ne (ne_of_none this ne)]; exact this
    · have := u.frzs b o w q
      rw [upd_ne (ne_of_none this ne)]; exact this
    · obtain ⟨more, this⟩ := u.tbls b ps q
      exact ⟨more, by rw [upd_ne (ne_of_none this ne)]; exact this⟩
  exact I.call' (s' := { s1 with heap := h' }) os u2 k2 bare (by simp)
/-! ### try: .. except F as n: raise C(..) from n -/
noncomputable def EhR (K : PySem.W.Frag) (CF CN : Addr) (i : Nat) (J : St → St → Prop) (ta : TA) (E : XK) (σ0 : St) : XK := fun Cv fl H' => fl = none ∧ ∃ C, Cv = .ref C ∧ ErrAt K C ∧ subOf K C CF = true ∧ ∀ σ' e, J σ0 σ' → H' e = none → ta (σ'.set i (some (.ref e))) (upd H' e (ExcO2 e C)) fun vs H1 => vs.length ≤ sizeLine ∧ (H1 e = some (ExcO2 e C) ∧ E (.ref CN) (some e) H1)
theorem ps_tryR {E : XK} {body : List Stmt} {F n x : Str} {np hpos pos xp cpos rpos np2 : Pos} {i : Nat} {CF CN : Addr} {e0 : Expr} {es : List Expr} {J : St → St → Prop} {ta : TA} {tb : Ends → St → TS} (L : Lv X E)
    (hgF : Gl X F) (hmF : X.mg F = some (.ref CF)) (qF : ErrAt X.K CF) (hN : X.N.Nodup) (hi : X.N[i]? = some n) (hl : X.env.scope.names.lookup n = some .local)
    (hgx : Gl X x) (hmx : X.mg x = some (.ref CN)) (qN : ErrAt X.K CN)
    (hb : ∀ D σ0 pn, PSs (X.tryB pn (J σ0) (EhR X.K CF CN i J ta E σ0)) body (tb D σ0)) (ha : ∀ e, PA (X.hnd e) (e0 :: es) ta)
    (hdb : (F == ("__debug__" : Str)) = false := by decide) (hdx : (x == ("__debug__" : Str)) = false := by decide) (hdn : (n == ("__debug__" : Str)) = false := by decide)
    (he : starEach (e0 :: es) X.env = (false, eval e0 X.env) :: starEach es X.env := by rfl) (hpl : (backTo cpos (starEach es X.env)).any (·.1) = false := by rfl) :
    PS X (.Try body [.ExceptHandler (some (.Name F np)) (some n) [.Raise (some (.Call (.Name x xp) (e0 :: es) [] cpos)) (some (.Name n np2)) rpos] hpos] [] [] pos) (tTry tb) := by
  intro pins s σ H D I h
  refine wpAny_Try_except (wpAny_mono (hb D σ pins [] s σ H D (I.topn.wish _) h) (fun f s1 q => ?_) fun x s1 q => ?_)
  · have q := q.untry
    cases f with
    | next => exact wpAny_execs_nil q
    | _ => exact q
  obtain ⟨pins', σ', H1, s0, I1, hj, hx⟩ := q
  obtain ⟨e, C, T, H', flg, rfl, ⟨a0, fl⟩, ⟨n1, n2, g1, g2⟩, os, bare, un, hok, cx, eflg, C', eC, qC, hsub, hts⟩ := hx
  cases eC
  have c0 := cx eflg
  have fl' := fl
  rw [L.stk] at fl'
  refine look2 (by rw [I.ok.frames, L.stk]) L.fr fl' c0 fun h4 held4 c4 sm4 => ?_
  refine lands2 (s := { s1 with heap := h4 }) held4 c4 fun h5 fl5 c5 sm5 => ?_
  have fl5' := fl5
  rw [← L.stk] at fl5'
  have I5 := (exc_inv I1.unpn un hok n1 n2 g1 g2 fl5' (sm4.trans sm5) os bare).1
  obtain ⟨ob, hob, hobc⟩ := fl5.there
  refine wpAny_handleBy_cons (codeAny_handlers_test (ld_glob (X := X.hnd e) (I5.hnd e) hgF hmF ?_ hdb)) (by intro q; cases q)
  refine excMatch_own I5.kIn qC qF hob hobc ?_
  rw [hsub]
  refine codeAny_handlers_suite_as ?_
  refine landsA2 (s := { s1 with heap := h5 }) fl5 c5 fun h6 fl6 c6 sm6 => ?_
  have fl6' := fl6
  rw [← L.stk] at fl6'
  have I6 := exc_inv2 I1.unpn un hok n1 n2 g1 g2 fl6' c6 ((sm4.trans sm5).trans sm6) os bare
  refine store_ok (X := X.hnd e) (I6.hnd e) hN hi (.inl hl) (v := .ref e) rfl (fun s7 I7 => ?_) (.inr hl)
  have hts := hts σ' e hj n1
  have kF : (X.hnd e).A.frames = some (X.env :: X.outer) := by rw [I7.ok.frames]; exact congrArg some L.stk
  refine (show wpAny _ _ (exec _ X.env >>= _) _ _ s7 from wpAny_bind ?_)
  rw [arm_exec_Raise]
  simp only [evalOpt, Option.map]
  refine wpAny_bind (wpAny_standAt (raise_from (K := X.K) (hA := e) rfl ?_))
  refine wpAny_bind (wpAny_mono (call_exc (X := X.hnd e) I7 hgx hmx qN (ha e) hts hdx he hpl) (fun v s3 hv => wpAny_bind (wpAny_standAt (wpAny_pure ?_))) fun _ _ z => z.elim)
  obtain ⟨e', vs, us, H2, s2, rfl, I2, ⟨h', rfl, hm⟩, hE, qE⟩ := hv
  have I3 : Inv (X.hnd e) pins (σ'.set i (some (.ref e))) H2 { s2 with heap := h' } := I2.kept (t' := s2.toks) fun b o k => hm.keeps b o k
  obtain ⟨m, hn, hlk⟩ := I3.loc
  have hσ : (σ'.set i (some (V.ref e)))[i]? = some (some (V.ref e)) := List.getElem?_set_self (by rw [I1.len]; exact (List.getElem?_eq_some_iff.mp hi).1)
  obtain ⟨u, ru, lu⟩ := hlk i n (.ref e) hi hσ (.inl hl)
  cases ru
  obtain ⟨hkl, hml⟩ : X.env.scope.names.lookup n = some .local ∧ m n = some (.ref e) := by
    rcases lu with ⟨a1, a2⟩ | ⟨a1, _⟩
    · exact ⟨hl, a2⟩
    · rcases a1 with y | y
      · exact absurd (hl.symm.trans y) (by simp)
      · exact absurd (hl.symm.trans y) (by simp)
  obtain ⟨oh, ovs, gh, ch, dh, h2⟩ := (I3.hok e _ hE).1
  obtain ⟨ta0, ge', _, _⟩ := hm.there
  have nK : X.K.lookup e' = none := by
    cases y : X.K.lookup e' with
    | none => rfl
    | some o => have := I2.kIn e' o y; rw [hm.new] at this; cases this
  have ne' : e' ≠ e := fun y => by
    obtain ⟨o, g⟩ := objOk_get (I2.hok e _ hE)
    rw [← y, hm.new] at g; cases g
  refine ⟨e', rfl, wpAny_bind (wpAny_Name (wpAny_loadName_local I3.ok.kind hkl hn hml (wpAny_bind (wpAny_standAt (wpAny_pure ⟨rfl, CN, C, .ref ta0, oh, ovs, fun hx sb b o k => ?_, qN, qC, ge', gh, ch, dh, h2, ne', fun h5 o5 k1 k2 k3 sb5 => ?_⟩)))) hdn)⟩
  · have hb : b ≠ e' := fun y => by rw [y, nK] at k; cases k
    exact (sb.2 b hb).trans (I3.kIn b o k)
  have hin : ∀ env ∈ X.env :: X.outer, ∀ a, env.frame = some a → a ∈ frs X.stack := fun env he a ha => by rw [L.stk]; exact mem_frs he ha
  have hloc : X.env.locals ∈ frs X.stack := hin _ (List.mem_cons_self ..) _ L.fr
  have fun2 : s2.heap.FunFrames (hideAll s2.heap (frs X.stack)) (X.env :: X.outer) := funFrames_hide (L.stk ▸ I2.stack) hin
  have bse : ∀ b o, (hideAll s2.heap (frs X.stack)).get? b = some o → s2.heap.get? b = some o := fun b o k => of_hideAll _ k
  have nbe : (hideAll s2.heap (frs X.stack)).get? e' = none := by
    cases y : (hideAll s2.heap (frs X.stack)).get? e' with
    | none => rfl
    | some o => have := bse _ _ y; rw [hm.new] at this; cases this
  have old5 : ∀ b o, s2.heap.get? b = some o → h5.get? b = some o := fun b o k => by
    have hb : b ≠ e' := fun y => by rw [y, hm.new] at k; cases k
    exact (sb5.2 b hb).trans (hm.keeps b o k)
  refine note1 (cls := .ref CN) (a0 := .ref ta0) (c := .ref e) (base := hideAll s2.heap (frs X.stack)) kF L.fr (fun b o k => old5 b o (bse b o k)) nbe (fun2.of_keeps fun b o k _ => ⟨o, old5 b o k, rfl⟩) ⟨o5, _, k1, k2, k3, rfl, rfl, rfl⟩ fun h6 T6 z6 up6 => ?_
  have hne : X.env.locals ≠ e' := fun y => by
    obtain ⟨o, _, _, g, _⟩ := id hn
    obtain ⟨o2, g2, _⟩ := I2.fr_there hloc
    rw [show X.env.locals = e' from y, hm.new] at g2; cases g2
  have hn5 : h5.Ns X.env.locals m := by
    obtain ⟨o, es', ep, g, r⟩ := hn
    exact ⟨o, es', ep, (sb5.2 _ hne).trans g, r⟩
  have hn6 : h6.Ns X.env.locals m := up6.ns hn5
  have hcls : (X.env.scope.kind == .class || (X.env.scope.kind == .module && X.env.locals != X.env.globals)) = false := by rw [I.ok.kind]; rfl
  have nsO : ∀ {h : Heap} {m : Str → Option Value}, h.Ns X.env.locals m → ∃ o, h.get? X.env.locals = some o ∧ ∀ vs, o.data ≠ .fields vs := fun {h m} k => by
    obtain ⟨o, es', ep, g, d, _⟩ := k
    exact ⟨o, g, fun vs y => by rw [d] at y; cases y⟩
  refine wpAny_nameGoes_keeps hl hn6 hcls fun h7 v7 hn7 sb7 => ?_
  have z7 := z6.gone (hideAll_none _ hloc) sb7 (nsO hn6) (nsO hn7)
  obtain ⟨oe7, vs7, y1, y2, y3⟩ := z7.c0
  unfold PySem.passOn
  refine wpAny_bind (wpAny_field (s := { s2 with heap := h7, toks := _ }) y1 y2 y3 (wpAny_ite_split (fun c => absurd c (by simp)) fun _ => ?_))
  rw [L.fr]
  refine wpAny_bind (flag2 (s := { s2 with heap := h7, toks := _ }) z7 fun h8 z8 kp8 => wpAny_throw (again2 L.fr z8 ?_))
  obtain ⟨oe8, vs8, x1, x2, x3⟩ := z8.c0
  refine (show wpAny _ _ (field (.ref e') 1 >>= _) _ _ _ from wpAny_bind (wpAny_field (s := { s2 with heap := h8, toks := _ }) x1 x2 x3 (wpAny_ite_split (fun c => absurd c (by simp)) fun _ => ?_)))
  rw [L.fr]
  refine flag2 (s := { s2 with heap := h8, toks := _ }) z8 fun h9 z9 kp9 => L.xe _ _ ?_
  refine leaveH (s := { s2 with heap := h9, toks := _ }) L.fr z9 fun h10 fl10 kp10 => ?_
  have nr : ∀ b o, h6.get? b = some o → (∀ vs, o.data ≠ .fields vs) → b ≠ T6 := fun b o k hn y => by
    obtain ⟨oT, ts, g, d, _⟩ := z6.tr
    rw [y, g] at k; cases k; exact hn _ d
  have neE := gone I2.hok hm.new
  refine left_okL (s1 := { s2 with toks := _ }) L (I2.unhnd I.ok) Un.refl I2.hok neE neE hm.new hm.new (flyingW_base (hide_less (by intro a ha; simp [ha])) fl10) (fun b o bl k hnb => ?_) ?_ rfl I2.bare (flg := some e) (fun y => by cases y) qE
  · obtain ⟨sl, q6⟩ := up6 b o (old5 b o k) hnb
    have bT := nr b _ q6 hnb
    exact ⟨sl, kp10 b _ bT (kp9 b _ bT (kp8 b _ bT ((sb7.2 b bl).trans q6)))⟩
  · obtain ⟨o6, g6, d6⟩ := nsO hn6
    have bT := nr _ _ g6 d6
    obtain ⟨o7, g7, d7⟩ := nsO hn7
    exact ⟨o7, kp10 _ _ bT (kp9 _ _ bT (kp8 _ _ bT g7)), d7⟩
end
end L2

namespace L2
open PySem PySem.Spec PyProof.Rows
/-! ### len(set(l)) of a list of texts -/
/-- each once, in order -/
noncomputable def ddS (l : List Str) : List Str := l.foldl (fun D x => if x ∈ D then D else D ++ [x]) []
theorem ddS_snoc (l : List Str) (x : Str) : ddS (l ++ [x]) = if x ∈ ddS l then ddS l else ddS l ++ [x] := by
  unfold ddS; rw [List.foldl_append]; rfl
theorem snocRec {α : Type} {p : List α → Prop} (h0 : p []) (hs : ∀ l a, p l → p (l ++ [a])) (l : List α) : p l := by
  have : p l.reverse.reverse := by
    induction l.reverse with
    | nil => exact h0
    | cons a t ih => rw [List.reverse_cons]; exact hs _ _ ih
  simpa using this
theorem ddS_mem : ∀ (l : List Str) (x : Str), x ∈ ddS l ↔ x ∈ l := by
  refine snocRec ?_ fun l y ih => ?_
  · intro x; simp [ddS]
  · intro x
    rw [ddS_snoc]
    split
    · rename_i h
      rw [ih, List.mem_append, List.mem_singleton]
      exact ⟨.inl, fun z => z.elim id fun z => z ▸ (ih y).mp h⟩
    · rw [List.mem_append, List.mem_append, ih]
theorem ddS_len (l : List Str) : (ddS l).length ≤ l.length ∧ ((ddS l).length = l.length ↔ l.Nodup) := by
  revert l
  refine snocRec ?_ fun l y ih => ?_
  · simp [ddS]
  · rw [ddS_snoc]
    have nd : (l ++ [y]).Nodup ↔ l.Nodup ∧ y ∉ l := by
      rw [List.nodup_append]
      constructor
      · intro h; exact ⟨h.1, fun z => h.2.2 y z y (by simp) rfl⟩
      · intro h; exact ⟨h.1, by simp, fun a ha b hb z => h.2 (by rw [List.mem_singleton.mp hb] at z; exact z ▸ ha)⟩
    rw [nd, List.length_append, List.length_singleton]
    split
    · rename_i h
      have h := (ddS_mem l y).mp h
      exact ⟨by omega, ⟨fun z => by omega, fun z => absurd h z.2⟩⟩
    · rename_i h
      have h : y ∉ l := fun z => h ((ddS_mem l y).mpr z)
      rw [List.length_append, List.length_singleton]
      exact ⟨by omega, ⟨fun z => ⟨ih.2.mp (by omega), h⟩, fun z => by rw [ih.2.mpr z.1]⟩⟩
section
variable {prog : Program} {w : World} {A : Around} {R : Result → Shared → Prop} {I S : Addr} {fp wr : List Addr} {G : Array GenState → Array GenState → Prop} {n : Nat} {P : Nat → Value → Prop} {St : Nat → Shared → Prop} {ns : List Str}
noncomputable def SAt (prog : Program) (w : World) (S : Addr) (l : List Str) (h : Heap) : Prop := h.SetOf (PySem.strKind prog w) S (fun k => decide (k ∈ ddS l)) (ddS l).length
theorem SAt.keep {h h' : Heap} {l : List Str} (z : SAt prog w S l h) (k : ∀ o, h.get? S = some o → h'.get? S = some o) : SAt prog w S l h' := by
  obtain ⟨o, es, ep, t, g, r⟩ := z
  exact ⟨o, es, ep, t, k o g, r⟩
theorem loopS (W : WalksS prog w A.in1 I fp wr G n P St) (hS : S ∉ fp) (hn : ns.length = n) (hv : ∀ (i : Nat) (v : Value), P i v → ∃ (k : Str) (t : Tok), ns[i]? = some k ∧ v = Value.str k t) (h8 : ns.length ≤ 4000) :
    ∀ (m i : Nat) (s : Shared), i + m = n → St i s → SAt prog w S (ns.take i) s.heap → (∀ s', Moved (S :: wr) G s s' → SAt prog w S ns s'.heap → R (.ok (.ret .none)) s') →
      codeAny (model prog w) A (.builtin "set.update.loop" { pos := [.ref S, .ref I] }) R s
  | 0, i, s, hi, st, z, q => by
    have hi : i = n := hi
    subst hi
    refine codeAny_builtin PyProof.Rows.F.entry_set_update_loop ?_
    rw [Around.under_plainId PyProof.Rows.F.plain_set_update_loop _]
    refine (show wpAny _ A.in1 (pyNext (.ref I) >>= _) _ _ s from wpAny_bind (W.done s _ _ st fun s' mv => wpAny_pure (q s' (mv.mono fun b hb => .tail _ hb) ?_)))
    rw [← hn, List.take_length] at z
    exact z.keep fun o e => mv.heap S o (fun y => hS (W.sub S y)) e
  | m + 1, i, s, hi, st, z, q => by
    refine codeAny_builtin PyProof.Rows.F.entry_set_update_loop ?_
    rw [Around.under_plainId PyProof.Rows.F.plain_set_update_loop _]
    refine (show wpAny _ A.in1 (pyNext (.ref I) >>= _) _ _ s from wpAny_bind (W.item i s _ _ (by omega) st fun v s1 hp st1 mv => ?_))
    obtain ⟨x, t, hx, rfl⟩ := hv i v hp
    have z3 : SAt prog w S (ns.take i) s1.heap := z.keep fun o e => mv.heap S o (fun y => hS (W.sub S y)) e
    have room : (ddS (ns.take i)).length + 1 < scanBound := by
      have h1 := (ddS_len (ns.take i)).1
      rw [List.length_take] at h1
      unfold scanBound; omega
    refine (show wpAny _ A.in1 (holding [Value.str x t] (setAdd S (.str x t)) >>= _) _ _ s1 from wpAny_bind (wpAny_holding (wpAny_holding (wpAny_bind ((PySem.strKind prog w).pyHash (k := x) (strKind_is _ _ _ _) ?_)))))
    refine wpAny_setAddHashed_of (knd := PySem.strKind prog w) (s := { s1 with toks := s1.toks + 1 }) (strKind_is _ _ _ _) rfl z3 room fun h2 sb z4 => wpAny_pure ⟨plainId_quiet PyProof.Rows.F.plain_set_update_loop _, ?_⟩
    have far : ∀ c o, c ≠ S → s1.heap.get? c = some o → h2.get? c = some o := fun c o hc e => (sb.2 c hc).trans e
    have nx : ns.take (i + 1) = ns.take i ++ [x] := by rw [List.take_add_one, hx]; rfl
    have z5 : SAt prog w S (ns.take (i + 1)) h2 := by
      rw [nx]
      refine SetOf_congr z4 (fun k => ?_) ?_
      · rw [Bool.eq_iff_iff]
        simp only [Bool.or_eq_true, decide_eq_true_eq, ddS_mem, List.mem_append, List.mem_singleton]
      · rw [ddS_snoc]
        by_cases c : x ∈ ddS (ns.take i)
        · rw [if_pos c, if_pos (decide_eq_true c)]
        · rw [if_neg c, if_neg (fun y => c (of_decide_eq_true y)), List.length_append, List.length_singleton]
    refine loopS W hS hn hv h8 m (i + 1) _ (by omega) (W.frame (i + 1) s1 h2 _ st1 (Nat.le_succ _) fun c hc o e => far c o (fun y => hS (y ▸ hc)) e) z5 fun s3 mv3 z6 => q s3 ?_ z6
    exact Moved.trans W.gtrans ((mv.mono fun c hc => .tail _ hc).then_heap (Nat.le_succ _) fun c o hc e => far c o (fun y => hc (y ▸ .head _)) e) mv3
end
section
variable {prog : Program} {w : World} {A : Around} {E : Value → Shared → Prop} {s : Shared}
/-- a type that is called, its __init__ as it runs -/
theorem tcall {T nw ini : String} {xs : List Value} {Q Q1 : Value → Shared → Prop} (tc : TypeCalled T nw ini) (ck : checkTypeCall T { pos := xs } = pure ())
    (mk : codeAny (model prog w) A.in1 (.call (.builtin nw) { pos := .type T :: xs }) (wants Q1 E) s)
    (fill : ∀ x s1, Q1 x s1 → s1.TypeIs x T ∧ codeAny (model prog w) A.in1 (.call (.builtin ini) { pos := x :: xs }) (wants (fun r s2 => r = .none ∧ Q x s2) E) s1) :
    wpAny (model prog w) A (call (.type T) xs) Q E s := by
  obtain ⟨_, _, m1⟩ := tc.mro
  have m2 := tc.made
  have m3 := tc.sub
  have m4 := tc.notType
  have m5 := tc.canCreate
  refine wpAny_call (codeAny_of_tree (show wpAny _ _ (callAny (.type T) _) _ _ _ from wpAny_pure ⟨Code.quiet_builtin _ (by decide +kernel), codeAny_builtin PySem.F.entry_type_call ?_⟩))
  rw [Around.under_plain (weight_type_call_type T xs []) rfl]
  repeat' (first | assumption | wp_step)
  refine codeAny_mono mk fun r s1 g => ?_
  match r, g with
  | .ok (.ret x), g =>
    obtain ⟨ty, run⟩ := fill x s1 g
    have m6 := tc.init.lookup
    have m7 := tc.init.bind x
    repeat' (first | assumption | wp_step)
    refine codeAny_mono run fun r2 s2 g2 => ?_
    match r2, g2 with
    | .ok (.ret _), ⟨rfl, g2⟩ => repeat' (first | assumption | wp_step)
    | .error _, g2 => exact g2
  | .error _, g => exact g
noncomputable def newS (w : World) : Obj := { cls := .type "set", dict := none, data := .set #[] 0 (.fresh 0 0 (!w.params.followText "set-order")) }
theorem newS_s {h : Heap} {a : Addr} (e : h.get? a = some (newS w)) : SAt prog w a [] h := SetOf_congr ((setObjOf_fresh (knd := PySem.strKind prog w) _).setOf e (by decide)) (fun k => by simp [ddS]) rfl
theorem newZ (x : Value) {Q1 : Value → Shared → Prop} (q : Q1 (.ref s.heap.objs.size) { s with heap := s.heap.push (newS w) }) : codeAny (model prog w) A (.call (.builtin "set.__new__") { pos := [.type "set", x] }) (wants Q1 E) s := by
  refine codeAny_of_tree (show wpAny _ A.in1 (checkBuiltinCall "set.__new__" { pos := [.type "set", x] } >>= fun _ => again (.builtin "set.__new__" { pos := [.type "set", x] })) _ _ s from wpAny_bind (wpAny_of_eq (PySem.F.newCall_set_1 x) (wpAny_pure ⟨plainId_quiet PySem.F.plain_set_new _, codeAny_builtin PySem.F.entry_set_new ?_⟩)))
  rw [Around.under_plainId PySem.F.plain_set_new _]
  have sb := sub_set_self
  unfold Builtin.«set.__new__»
  refine wpAny_bind (m := Builtin.Frozenset.newClass "set" _) ?_
  unfold Builtin.Frozenset.newClass
  refine wpAny_bind (m := isType (.type "set")) (wpAny_pure ?_)
  simp only [Bool.not_true, Bool.false_eq_true, if_false]
  rw [sb]
  refine wpAny_bind (wpAny_pure ?_)
  simp only [Bool.not_true, Bool.false_eq_true, if_false]
  refine wpAny_pure (wpAny_bind (m := newSet (.type "set")) ?_)
  unfold newSet setsByText
  refine wpAny_bind (wpAny_bind (wpAny_askSetting (wpAny_pure (by
    simp only [newObj]
    exact wpAny_bind (wpAny_alloc (wpAny_pure (wpAny_pure q)))))))
theorem initS {l a : Addr} {items : Array Value} {ns : List Str} {Q : Value → Shared → Prop} (nh : A.handled = none) (ga : s.heap.get? a = some (newS w)) (hl : s.heap.IsList l items) (hn : ns.length = items.size)
    (hv : ∀ (i : Nat) (v : Value), items[i]? = some v → ∃ (k : Str) (t : Tok), ns[i]? = some k ∧ v = Value.str k t) (h8 : ns.length ≤ 4000)
    (q : ∀ h' tk, SAt prog w a ns h' → (∀ b o, b ≠ a → s.heap.get? b = some o → h'.get? b = some o) → Q (.ref a) { s with heap := h', toks := tk }) :
    codeAny (model prog w) A (.call (.builtin "set.__init__") { pos := [.ref a, .ref l] }) (wants (fun r s2 => r = .none ∧ Q (.ref a) s2) E) s := by
  have ty : s.TypeIs (.ref a) "set" := ⟨_, ga, rfl⟩
  have s1 := PySem.F.sub_list_set
  have s2 := PySem.F.sub_list_frozenset
  have s3 : (Value.type "list" == Value.type "dict") = false := rfl
  have tl := hl.typeIs
  refine codeAny_call_builtin PySem.F.called_set.init.plain PySem.F.entry_set_init (check_set_init_1 ty ?_)
  unfold Builtin.«set.__init__»
  unfold Builtin.Frozenset.updateFrom noKeywords
  obtain ⟨⟨cl, dc, dt, sl⟩, gl, cl', nl, dt'⟩ := id hl
  simp only at cl' dt'
  subst cl' dt'
  have lt := Heap.lt_size gl
  have ne : l ≠ a := fun z => by
    rw [z, ga] at gl
    have e := congrArg (fun o : Option Obj => o.map Obj.cls) gl
    simp [newS] at e
  unfold newS at ga
  generalize ep : pyIter = PI
  wp_walk
  subst ep
  refine wpAny_pyIter_list hl (wpAny_bind (wpAny_runValue ?_))
  have ga1 := Heap.get?_push_of_some { cls := .type "list_iterator", data := .fields #[.ref l, .int 0 0] } ga
  have lta := Heap.lt_size ga
  refine loopS ((Walks.list (by simpa using nh) s.heap.objs.size l (Nat.ne_of_lt lt) items).toS) (S := a) (by simp only [List.mem_cons, List.not_mem_nil, or_false, not_or]; exact ⟨Nat.ne_of_lt lta, ne.symm⟩) hn hv h8 items.size 0 _ (Nat.zero_add _) ⟨⟨_, Heap.get?_push_size _ rfl, rfl, rfl⟩, hl.push _⟩ (newS_s ga1) fun s3 mv z => ?_
  have e3 : s3 = { s with heap := s3.heap, toks := s3.toks } := by
    have e1 := mv.gens
    have e2 := mv.drawn
    have e3 := mv.os
    cases s3
    simp only at e1 e2 e3
    rw [e1, e2, e3]
  refine wpAny_pure (wpAny_pure ⟨rfl, ?_⟩)
  rw [e3]
  exact q s3.heap s3.toks z fun b o hb e => mv.heap b o (by simp only [List.mem_cons, List.not_mem_nil, or_false, not_or]; exact ⟨hb, Nat.ne_of_lt (Heap.lt_size e)⟩) (Heap.get?_push_of_some _ e)
theorem setS_call {l : Addr} {items : Array Value} {ns : List Str} {Q : Value → Shared → Prop} (nh : A.handled = none) (hl : s.heap.IsList l items) (hn : ns.length = items.size)
    (hv : ∀ (i : Nat) (v : Value), items[i]? = some v → ∃ (k : Str) (t : Tok), ns[i]? = some k ∧ v = Value.str k t) (h8 : ns.length ≤ 4000)
    (q : ∀ h' tk, SAt prog w s.heap.objs.size ns h' → (∀ b o, s.heap.get? b = some o → h'.get? b = some o) → Q (.ref s.heap.objs.size) { s with heap := h', toks := tk }) :
    wpAny (model prog w) A (call (.type "set") [.ref l]) Q E s := by
  refine tcall (Q1 := fun x s1 => x = .ref s.heap.objs.size ∧ s1 = { s with heap := s.heap.push (newS w) }) PySem.F.called_set (PySem.F.typeCall_set_1 _) (newZ _ ⟨rfl, rfl⟩) fun x s1 g => ?_
  obtain ⟨rfl, rfl⟩ := g
  have ga : (s.heap.push (newS w)).get? s.heap.objs.size = some (newS w) := Heap.get?_push_size _ rfl
  exact ⟨⟨_, ga, rfl⟩, initS (s := { s with heap := s.heap.push (newS w) }) (by simpa using nh) ga (hl.push _) hn hv h8 fun h' tk z k => q h' tk z fun b o e => k b o (Nat.ne_of_lt (Heap.lt_size e)) (Heap.get?_push_of_some _ e)⟩
end
theorem bt_set : bootBuiltins "set" = some (.type "set") := by decide +kernel
theorem vals_str : ∀ {ns : List Str} {us : List Value}, Vals (ns.map V.str) us → ns.length = us.length ∧ ∀ (i : Nat) (v : Value), us[i]? = some v → ∃ (k : Str) (t : Tok), ns[i]? = some k ∧ v = Value.str k t
  | [], [], _ => ⟨rfl, fun i v h => by simp at h⟩
  | n :: ns, u :: us, .cons r t => by
    obtain ⟨h1, h2⟩ := vals_str (ns := ns) t
    refine ⟨by simp [h1], fun i v h => ?_⟩
    cases i with
    | zero =>
      cases h
      obtain ⟨tk, rfl⟩ := r
      exact ⟨n, tk, rfl, rfl⟩
    | succ i => exact h2 i v h
section
variable {X : Cx}
noncomputable def tLenS (te : TE) : TE := fun σ H Q => te σ H fun x H1 => ∃ a ns, x = .ref a ∧ H1 a = some (.lst (ns.map V.str)) ∧ ns.length ≤ 4000 ∧ Q (.int (ddS ns).length) H1
theorem a_tLenS {te : TE} {σ : St} {H : Hp} {Q : VK} : tLenS te σ H Q = (te σ H fun x H1 => ∃ a ns, x = .ref a ∧ H1 a = some (.lst (ns.map V.str)) ∧ ns.length ≤ 4000 ∧ Q (.int (ddS ns).length) H1) := rfl
theorem pe_lenS {e : Expr} {te : TE} {p1 p2 q1 q2 : Pos} (hc : X.calm = true) (hg : Gl X "len") (hm : X.mg "len" = none) (hg2 : Gl X "set") (hm2 : X.mg "set" = none) (he : PE X e te)
    (hs1 : starEach [Expr.Call (.Name "set" p2) [e] [] q2] X.env = [(false, eval (Expr.Call (.Name "set" p2) [e] [] q2) X.env)] := by rfl) (hs2 : starEach [e] X.env = [(false, eval e X.env)] := by rfl) :
    PE X (.Call (.Name "len" p1) [.Call (.Name "set" p2) [e] [] q2] [] q1) (tLenS te) := by
  intro pins s σ H Q I h
  refine wpAny_Call_Name_kw (ld_blt I hg hm bt_len ?_ (by decide) (by decide))
  refine PyProof.Rows.callWith_builtin1 ?_ (by rw [hs1]; rfl) rfl
  rw [hs1]
  show wpAny _ _ (spliced ((false, eval (Expr.Call (.Name "set" p2) [e] [] q2) X.env) :: [])) _ _ s
  refine Calls.spliced_cons (wpAny_Call_Name_kw (ld_blt I hg2 hm2 bt_set ?_ (by decide) (by decide)))
  refine PyProof.Rows.callWith_type1 ?_ (by rw [hs2]; rfl) rfl
  rw [hs2]
  show wpAny _ _ (spliced ((false, eval e X.env) :: [])) _ _ s
  refine Calls.spliced_cons (thn (he pins s σ H _ I h) fun v s1 ⟨x, H1, I1, r1, a, ns, ex, ea, h8, q⟩ => Calls.spliced_nil ?_)
  subst ex
  cases r1
  obtain ⟨z, its, n, rv, hl, eo⟩ := I1.lstM ea
  obtain ⟨v1, v2⟩ := vals_str rv
  refine setS_call (I1.ok.hd hc) (items := its.toArray) (ns := ns) ⟨_, eo, rfl, n, rfl⟩ (by simpa using v1) (fun i v hv => v2 i v (by simpa using hv)) h8 fun h2 t2 Z k2 => Calls.spliced_nil ?_
  obtain ⟨o, es, ep, t, g, gx, gd, _, _, gb, gf, gn⟩ := Z
  have fit : (es.size : Int) < 2 ^ 63 := by unfold scanBound at gb; omega
  refine call_len_set (s := { s1 with heap := h2, toks := t2 }) g gx gd gf fit ?_
  rw [gn]
  exact ⟨.int (ddS ns).length, H1, I1.kept (t' := _) k2, ⟨_, rfl⟩, q⟩
end
end L2

set_option maxHeartbeats 4000000
namespace K05
open PySem L2
local macro_rules | `(tactic| walk_at "rd") => `(tactic| simp only [a_tLenS, a_tFor, a_tSet, a_tSetC, a_tVar, a_tC, a_tB, a_tAnd, a_tOr, a_tNot, a_tAndV, a_tOrV, a_tNext, a_tSeq, a_tDrop, a_tRet, a_tIfS, a_gName, a_gNil, a_gCons, a_gTup, a_gSub, a_tAsg, a_tAug, a_iRng1, a_tOp, a_rI, a_rI0, a_rEq, a_rNe, a_tTest, a_tChain, a_tNil, a_tCons, b_tTup, b_tLst, a_tCall, a_tCB, a_tNoPart, a_tPart, a_tSl, a_rIxL, a_rIxS, b_rSetL, a_tBM, b_rAppend, b_rExtend, b_rCat, b_rRep, a_tDIn, a_sDPut, b_tDNewK, a_tYes, a_tComp, a_iStr, a_rSlS, a_rJoin, a_rMulS, a_rEqD, a_rCatD, a_rIxF, a_rSlLF, a_rLenF, a_rIntB, ty_str, tJs, a_tFmtD, a_tFmtR, a_tFmtI, a_tRaise, a_tTry, a_tCallJ, a_rIsE, a_rMaxS, a_ipI, a_iL, a_iT, L2.start, blkSt, cxOf_K, blk_K, List.getElem?_cons_zero, List.getElem?_cons_succ, Option.some.injEq, Option.join_some, exists_eq_left', exists_eq_left, exists_eq_right, V.int.injEq, V.ref.injEq, V.str.injEq, V.bl.injEq, V.ty.injEq, and_true, true_and, List.set_cons_zero, List.set_cons_succ, List.cons.injEq, List.cons_append, List.nil_append, List.append_nil, List.map_cons, List.map_nil, List.length_cons, List.length_nil, List.replicate, exists_and_left, exists_and_right, Nat.reduceAdd, Nat.reduceSub, atI_0, atI_1, atI_2, atI_3, atI_4, if_true, if_false, Bool.false_eq_true, scal_ii, scal_ss, scal_bb])
local macro_rules | `(tactic| walk_at "cm") => `(tactic| first | (refine cm_l ?_ ?_ <;> omega) | (refine cm_r ?_ ?_ <;> omega))
noncomputable def top (i : Nat) : Stmt := PySem.Challenge.pw_fewboxes_k05_no_formulas_text.main.body.getD i (.Pass ⟨0, 0, 0, 0⟩)
noncomputable abbrev s_is_name : Stmt := top 10
noncomputable abbrev s_is_leaf : Stmt := top 11
noncomputable abbrev s_places : Stmt := top 12
noncomputable abbrev s_leaves : Stmt := top 13
noncomputable abbrev s_part_at : Stmt := top 14
noncomputable abbrev s_deeper_than : Stmt := top 15
noncomputable abbrev s_check_size : Stmt := top 16
noncomputable abbrev s_check_names : Stmt := top 17
noncomputable abbrev s_formula : Stmt := top 18
noncomputable abbrev s_name_end : Stmt := top 20
noncomputable abbrev s_past : Stmt := top 21
noncomputable abbrev s_tree_from : Stmt := top 22
noncomputable abbrev s_read : Stmt := top 23
noncomputable abbrev s__law_at : Stmt := top 25
noncomputable abbrev s__law_names : Stmt := top 26
noncomputable abbrev s__law_many : Stmt := top 27
noncomputable abbrev s__law_second : Stmt := top 28
noncomputable abbrev s__law_tree : Stmt := top 29
noncomputable abbrev s__law_text : Stmt := top 30
noncomputable abbrev s__law_parts : Stmt := top 31
noncomputable abbrev s__law_comb : Stmt := top 32
noncomputable abbrev s__law_read : Stmt := top 33
noncomputable abbrev s__law_good : Stmt := top 34
noncomputable abbrev s_law : Stmt := top 35
theorem sc_is_name : FnScope ["text"] ["text"] (defScope s_is_name) := ⟨rfl, rfl, rfl, by decide +kernel, rfl, by decide +kernel, by decide +kernel⟩
theorem sc_is_leaf : FnScope ["tree"] ["tree"] (defScope s_is_leaf) := ⟨rfl, rfl, rfl, by decide +kernel, rfl, by decide +kernel, by decide +kernel⟩
theorem sc_places : FnScope ["tree", "found", "step"] ["tree"] (defScope s_places) := ⟨rfl, rfl, rfl, by decide +kernel, rfl, by decide +kernel, by decide +kernel⟩
theorem sc_leaves : FnScope ["tree"] ["tree"] (defScope s_leaves) := ⟨rfl, rfl, rfl, by decide +kernel, rfl, by decide +kernel, by decide +kernel⟩
theorem sc_part_at : FnScope ["tree", "place", "part", "step"] ["tree", "place"] (defScope s_part_at) := ⟨rfl, rfl, rfl, by decide +kernel, rfl, by decide +kernel, by decide +kernel⟩
theorem sc_deeper_than : FnScope ["tree", "bound"] ["tree", "bound"] (defScope s_deeper_than) := ⟨rfl, rfl, rfl, by decide +kernel, rfl, by decide +kernel, by decide +kernel⟩
theorem sc_check_size : FnScope ["tree"] ["tree"] (defScope s_check_size) := ⟨rfl, rfl, rfl, by decide +kernel, rfl, by decide +kernel, by decide +kernel⟩
theorem sc_check_names : FnScope ["tree", "taken", "place", "part", "name"] ["tree"] (defScope s_check_names) := ⟨rfl, rfl, rfl, by decide +kernel, rfl, by decide +kernel, by decide +kernel⟩
theorem sc_formula : FnScope ["tree"] ["tree"] (defScope s_formula) := ⟨rfl, rfl, rfl, by decide +kernel, rfl, by decide +kernel, by decide +kernel⟩
theorem sc_name_end : FnScope ["text", "start", "end"] ["text", "start"] (defScope s_name_end) := ⟨rfl, rfl, rfl, by decide +kernel, rfl, by decide +kernel, by decide +kernel⟩
theorem sc_past : FnScope ["text", "at", "sign"] ["text", "at", "sign"] (defScope s_past) := ⟨rfl, rfl, rfl, by decide +kernel, rfl, by decide +kernel, by decide +kernel⟩
theorem sc_tree_from : FnScope ["text", "start", "level", "end", "name", "left", "right"] ["text", "start", "level"] (defScope s_tree_from) := ⟨rfl, rfl, rfl, by decide +kernel, rfl, by decide +kernel, by decide +kernel⟩
theorem sc_read : FnScope ["text", "found", "wrong"] ["text"] (defScope s_read) := ⟨rfl, rfl, rfl, by decide +kernel, rfl, by decide +kernel, by decide +kernel⟩
theorem sc__law_at : FnScope ["script", "k", "cell"] ["script", "k"] (defScope s__law_at) := ⟨rfl, rfl, rfl, by decide +kernel, rfl, by decide +kernel, by decide +kernel⟩
theorem sc__law_names : FnScope ["cell", "many", "letters", "size", "out", "k", "signs"] ["cell", "many"] (defScope s__law_names) := ⟨rfl, rfl, rfl, by decide +kernel, rfl, by decide +kernel, by decide +kernel⟩
theorem sc__law_many : FnScope ["script", "cell"] ["script"] (defScope s__law_many) := ⟨rfl, rfl, rfl, by decide +kernel, rfl, by decide +kernel, by decide +kernel⟩
theorem sc__law_second : FnScope ["script"] ["script"] (defScope s__law_second) := ⟨rfl, rfl, rfl, by decide +kernel, rfl, by decide +kernel, by decide +kernel⟩
theorem sc__law_tree : FnScope ["script", "at", "many", "deeds", "trees", "n", "cell", "p", "two", "side", "knot"] ["script", "at", "many"] (defScope s__law_tree) := ⟨rfl, rfl, rfl, by decide +kernel, rfl, by decide +kernel, by decide +kernel⟩
theorem sc__law_text : FnScope ["tree"] ["tree"] (defScope s__law_text) := ⟨rfl, rfl, rfl, by decide +kernel, rfl, by decide +kernel, by decide +kernel⟩
theorem sc__law_parts : FnScope ["tree", "deep"] ["tree", "deep"] (defScope s__law_parts) := ⟨rfl, rfl, rfl, by decide +kernel, rfl, by decide +kernel, by decide +kernel⟩
theorem sc__law_comb : FnScope ["cell", "letters", "many", "names"] ["cell"] (defScope s__law_comb) := ⟨rfl, rfl, rfl, by decide +kernel, rfl, by decide +kernel, by decide +kernel⟩
theorem sc__law_read : FnScope ["text", "at", "deep", "end", "left", "middle", "right", "last"] ["text", "at", "deep"] (defScope s__law_read) := ⟨rfl, rfl, rfl, by decide +kernel, rfl, by decide +kernel, by decide +kernel⟩
theorem sc__law_good : FnScope ["tree", "parts", "names", "name", "leaf", "deep", "small"] ["tree"] (defScope s__law_good) := ⟨rfl, rfl, rfl, by decide +kernel, rfl, by decide +kernel, by decide +kernel⟩
theorem sc_law : FnScope ["script", "good", "text", "n", "cell", "at", "more", "bits", "found", "e", "due", "end"] ["script"] (defScope s_law) := ⟨rfl, rfl, rfl, by decide +kernel, rfl, by decide +kernel, by decide +kernel⟩
set_option genInjectivity false in
set_option genSizeOfSpec false in
structure Txt (K : PySem.W.Frag) (mg : Str → Option Value) where
  f_is_name : Addr
  d_is_name : FuncData
  F_is_name : Fun K "is_name" "is_name" s_is_name f_is_name d_is_name
  m_is_name : mg "is_name" = some (.ref f_is_name)
  b_is_name : Binds K d_is_name ["text"] []
  f_is_leaf : Addr
  d_is_leaf : FuncData
  F_is_leaf : Fun K "is_leaf" "is_leaf" s_is_leaf f_is_leaf d_is_leaf
  m_is_leaf : mg "is_leaf" = some (.ref f_is_leaf)
  b_is_leaf : Binds K d_is_leaf ["tree"] []
  f_places : Addr
  d_places : FuncData
  F_places : Fun K "places" "places" s_places f_places d_places
  m_places : mg "places" = some (.ref f_places)
  b_places : Binds K d_places ["tree"] []
  f_leaves : Addr
  d_leaves : FuncData
  F_leaves : Fun K "leaves" "leaves" s_leaves f_leaves d_leaves
  m_leaves : mg "leaves" = some (.ref f_leaves)
  b_leaves : Binds K d_leaves ["tree"] []
  f_part_at : Addr
  d_part_at : FuncData
  F_part_at : Fun K "part_at" "part_at" s_part_at f_part_at d_part_at
  m_part_at : mg "part_at" = some (.ref f_part_at)
  b_part_at : Binds K d_part_at ["tree", "place"] []
  f_deeper_than : Addr
  d_deeper_than : FuncData
  F_deeper_than : Fun K "deeper_than" "deeper_than" s_deeper_than f_deeper_than d_deeper_than
  m_deeper_than : mg "deeper_than" = some (.ref f_deeper_than)
  b_deeper_than : Binds K d_deeper_than ["tree", "bound"] []
  f_check_size : Addr
  d_check_size : FuncData
  F_check_size : Fun K "check_size" "check_size" s_check_size f_check_size d_check_size
  m_check_size : mg "check_size" = some (.ref f_check_size)
  b_check_size : Binds K d_check_size ["tree"] []
  f_check_names : Addr
  d_check_names : FuncData
  F_check_names : Fun K "check_names" "check_names" s_check_names f_check_names d_check_names
  m_check_names : mg "check_names" = some (.ref f_check_names)
  b_check_names : Binds K d_check_names ["tree"] []
  f_formula : Addr
  d_formula : FuncData
  F_formula : Fun K "formula" "formula" s_formula f_formula d_formula
  m_formula : mg "formula" = some (.ref f_formula)
  b_formula : Binds K d_formula ["tree"] []
  f_name_end : Addr
  d_name_end : FuncData
  F_name_end : Fun K "name_end" "name_end" s_name_end f_name_end d_name_end
  m_name_end : mg "name_end" = some (.ref f_name_end)
  b_name_end : Binds K d_name_end ["text", "start"] []
  f_past : Addr
  d_past : FuncData
  F_past : Fun K "past" "past" s_past f_past d_past
  m_past : mg "past" = some (.ref f_past)
  b_past : Binds K d_past ["text", "at", "sign"] []
  f_tree_from : Addr
  d_tree_from : FuncData
  F_tree_from : Fun K "tree_from" "tree_from" s_tree_from f_tree_from d_tree_from
  m_tree_from : mg "tree_from" = some (.ref f_tree_from)
  b_tree_from : Binds K d_tree_from ["text", "start", "level"] []
  f_read : Addr
  d_read : FuncData
  F_read : Fun K "read" "read" s_read f_read d_read
  m_read : mg "read" = some (.ref f_read)
  b_read : Binds K d_read ["text"] []
  f__law_at : Addr
  d__law_at : FuncData
  F__law_at : Fun K "_law_at" "_law_at" s__law_at f__law_at d__law_at
  m__law_at : mg "_law_at" = some (.ref f__law_at)
  b__law_at : Binds K d__law_at ["script", "k"] []
  f__law_names : Addr
  d__law_names : FuncData
  F__law_names : Fun K "_law_names" "_law_names" s__law_names f__law_names d__law_names
  m__law_names : mg "_law_names" = some (.ref f__law_names)
  b__law_names : Binds K d__law_names ["cell", "many"] []
  f__law_many : Addr
  d__law_many : FuncData
  F__law_many : Fun K "_law_many" "_law_many" s__law_many f__law_many d__law_many
  m__law_many : mg "_law_many" = some (.ref f__law_many)
  b__law_many : Binds K d__law_many ["script"] []
  f__law_second : Addr
  d__law_second : FuncData
  F__law_second : Fun K "_law_second" "_law_second" s__law_second f__law_second d__law_second
  m__law_second : mg "_law_second" = some (.ref f__law_second)
  b__law_second : Binds K d__law_second ["script"] []
  f__law_tree : Addr
  d__law_tree : FuncData
  F__law_tree : Fun K "_law_tree" "_law_tree" s__law_tree f__law_tree d__law_tree
  m__law_tree : mg "_law_tree" = some (.ref f__law_tree)
  b__law_tree : Binds K d__law_tree ["script", "at", "many"] []
  f__law_text : Addr
  d__law_text : FuncData
  F__law_text : Fun K "_law_text" "_law_text" s__law_text f__law_text d__law_text
  m__law_text : mg "_law_text" = some (.ref f__law_text)
  b__law_text : Binds K d__law_text ["tree"] []
  f__law_parts : Addr
  d__law_parts : FuncData
  F__law_parts : Fun K "_law_parts" "_law_parts" s__law_parts f__law_parts d__law_parts
  m__law_parts : mg "_law_parts" = some (.ref f__law_parts)
  b__law_parts : Binds K d__law_parts ["tree", "deep"] []
  f__law_comb : Addr
  d__law_comb : FuncData
  F__law_comb : Fun K "_law_comb" "_law_comb" s__law_comb f__law_comb d__law_comb
  m__law_comb : mg "_law_comb" = some (.ref f__law_comb)
  b__law_comb : Binds K d__law_comb ["cell"] []
  f__law_read : Addr
  d__law_read : FuncData
  F__law_read : Fun K "_law_read" "_law_read" s__law_read f__law_read d__law_read
  m__law_read : mg "_law_read" = some (.ref f__law_read)
  b__law_read : Binds K d__law_read ["text", "at", "deep"] []
  f__law_good : Addr
  d__law_good : FuncData
  F__law_good : Fun K "_law_good" "_law_good" s__law_good f__law_good d__law_good
  m__law_good : mg "_law_good" = some (.ref f__law_good)
  b__law_good : Binds K d__law_good ["tree"] []
  f_law : Addr
  d_law : FuncData
  F_law : Fun K "law" "law" s_law f_law d_law
  m_law : mg "law" = some (.ref f_law)
  b_law : Binds K d_law ["script"] []
  z_ValueError : mg "ValueError" = none
  z_all : mg "all" = none
  z_int : mg "int" = none
  z_isinstance : mg "isinstance" = none
  z_len : mg "len" = none
  z_max : mg "max" = none
  z_range : mg "range" = none
  z_set : mg "set" = none
  t_LONGEST_NAME : Tok
  c_LONGEST_NAME : mg "LONGEST_NAME" = some (.int 8 t_LONGEST_NAME)
  t_MOST_DEEP : Tok
  c_MOST_DEEP : mg "MOST_DEEP" = some (.int 24 t_MOST_DEEP)
  t_MOST_LEAVES : Tok
  c_MOST_LEAVES : mg "MOST_LEAVES" = some (.int 32 t_MOST_LEAVES)
  C_FewError : Addr
  m_FewError : mg "FewError" = some (.ref C_FewError)
  x_FewError : ErrAt K C_FewError
  C_NoName : Addr
  m_NoName : mg "NoName" = some (.ref C_NoName)
  x_NoName : ErrAt K C_NoName
  C_NoText : Addr
  m_NoText : mg "NoText" = some (.ref C_NoText)
  x_NoText : ErrAt K C_NoText
  C_TooBig : Addr
  m_TooBig : mg "TooBig" = some (.ref C_TooBig)
  x_TooBig : ErrAt K C_TooBig
  C_Twice : Addr
  m_Twice : mg "Twice" = some (.ref C_Twice)
  x_Twice : ErrAt K C_Twice
  u_NoName_FewError : subOf K C_NoName C_FewError = true
  u_NoText_FewError : subOf K C_NoText C_FewError = true
  u_TooBig_FewError : subOf K C_TooBig C_FewError = true
  u_Twice_FewError : subOf K C_Twice C_FewError = true
  y_NoName : ErrIs K C_NoName
  k_NoName_NoText : PySem.W.kitOne K (.ref C_NoName) (.ref C_NoText) = some false
  k_NoName_ValueError : PySem.W.kitOne K (.ref C_NoName) (.type "ValueError") = some true
  y_NoText : ErrIs K C_NoText
  k_NoText_NoText : PySem.W.kitOne K (.ref C_NoText) (.ref C_NoText) = some true
  k_NoText_ValueError : PySem.W.kitOne K (.ref C_NoText) (.type "ValueError") = some true
  y_TooBig : ErrIs K C_TooBig
  k_TooBig_NoText : PySem.W.kitOne K (.ref C_TooBig) (.ref C_NoText) = some false
  k_TooBig_ValueError : PySem.W.kitOne K (.ref C_TooBig) (.type "ValueError") = some true
  y_Twice : ErrIs K C_Twice
  k_Twice_NoText : PySem.W.kitOne K (.ref C_Twice) (.ref C_NoText) = some false
  k_Twice_ValueError : PySem.W.kitOne K (.ref C_Twice) (.type "ValueError") = some true
section
variable {P : Program} {w : World} {K : PySem.W.Frag} {mg : Str → Option Value} {base : Heap}
/-! ### the law's own: cells, names, trees -/
noncomputable def lawAt (ns : List Int) (k : Nat) : Int :=
  if k < ns.length then ns.getD k 0 else
    let c : Int := 40692 * k + 1
    let c : Int := if 0 < ns.length then c + ns.getD (k * k % ns.length) 0 % 2147483647 else c
    let c : Int := c * 48271 % 2147483647
    c * c % 2147483629
noncomputable def spAt (K : PySem.W.Frag) : Sp := fun vs H Q _ => ∃ (a : Addr) (ns : List Int) (k : Int), vs = [.ref a, .int k] ∧ SqL K H a (ns.map V.int) ∧ ns.length ≤ 63 ∧ 0 ≤ k ∧ k < 1000000 ∧ Q (.int (lawAt ns k.toNat)) H
theorem at_int {ns : List Int} {k : Nat} (h : k < ns.length) : atI (ns.map V.int) (k : Int) = some (.int (ns.getD k 0)) :=
  atI_nat (by simp [List.getD, h])
theorem ok_at (T : Txt K mg) : FnOk P w K mg base CX0 1 T.f__law_at T.d__law_at ["script", "k"] (spAt K) := by
  refine T.F__law_at.ok (k := 0) sc__law_at (fun vs H Q E h => ?_) (fun cdv A outer s H vs Q E hr h => ?_)
  · obtain ⟨a, ns, k, rfl, _⟩ := h
    rfl
  obtain ⟨a, ns, k, rfl, hS, h63, h0, hk, q⟩ := h
  obtain ⟨k, rfl⟩ : ∃ n : Nat, k = (n : Int) := ⟨k.toNat, by (first | (clear hk h63; lia) | omega)⟩
  rw [Int.toNat_natCast] at q
  have nd := sc__law_at.nd
  refine ⟨_, (pss_cons (ps_if (pt_cmpR op_lt (pv 1) (pe_callB call_len_seq rfl T.z_len bt_len (pa_cons (pv 0) pa_nil)) (nomark _)) (pss_one (ps_ret (pe_ix ix_list (pv 0) (pv 1) (fun _ _ => rfl)))) pss_nil)
    (pss_cons (ps_let (i := 2) nd rfl (Or.inl rfl) (pe_op op_add (pe_op op_mul pe_int (pv 1)) pe_int))
    (pss_cons (ps_if (pt_cmpR op_gt (pe_callB call_len_seq rfl T.z_len bt_len (pa_cons (pv 0) pa_nil)) pe_int (nomark _)) (pss_one (ps_let (i := 2) nd rfl (Or.inl rfl) (pe_op op_add (pv 2) (pe_op op_mod (pe_ix ix_list (pv 0) (pe_op op_mod (pe_op op_mul (pv 1) (pv 1)) (pe_callB call_len_seq rfl T.z_len bt_len (pa_cons (pv 0) pa_nil))) (fun _ _ => rfl)) pe_int)))) pss_nil)
    (pss_cons (ps_let (i := 2) nd rfl (Or.inl rfl) (pe_op op_mod (pe_op op_mul (pv 2) pe_int) pe_int))
    (pss_one (ps_ret (pe_op op_mod (pe_op op_mul (pv 2) (pv 2)) pe_int))))))), ?_⟩
  refine cutC1 fun C hC => ?_
  walk_at "rd"
  unfold lawAt at q
  refine ex_len hS ?_
  rw [List.length_map]
  refine ite2 (fun c => ?_) (fun c => ?_)
  · have c : k < ns.length := by simpa using c
    rw [if_pos c] at q
    exact ex_at hS (at_int c) q
  · have c : ¬ k < ns.length := by simpa using c
    rw [if_neg c] at q
    dsimp only at q
    rw [hC]
    clear hC C
    refine cutC2 fun C hC => ?_
    have tail : ∀ z : Int, Q (.int (z * 48271 % 2147483647 * (z * 48271 % 2147483647) % 2147483629)) H → C [some (.ref a), some (.int k), some (.int z)] H := by
      intro z hz
      rw [hC]
      clear hC C q
      walk_at "rd"
      exact ⟨by walk_at "cm", by decide, by walk_at "cm", by decide, hz⟩
    walk_at "rd"
    refine ⟨by walk_at "cm", ex_len hS ?_⟩
    rw [List.length_map]
    refine ite2 (fun d => ?_) (fun d => ?_)
    · have d : 0 < ns.length := by simpa using d
      rw [if_pos d] at q
      have m : k * k % ns.length < ns.length := Nat.mod_lt _ d
      have e : ((k : Int) * (k : Int) % ((ns.length : Nat) : Int)) = ((k * k % ns.length : Nat) : Int) := by push_cast; rfl
      refine ⟨by walk_at "cm", ex_len hS ?_⟩
      rw [List.length_map, e]
      exact ⟨by (first | (clear h63 h0 hk c m e hC; omega) | omega), ex_at hS (at_int m) ⟨_, rfl, by decide, tail _ q⟩⟩
    · have d : ¬ 0 < ns.length := by simpa using d
      rw [if_neg d] at q
      exact tail _ q
noncomputable def spNames : Sp := fun vs H Q _ => ∃ (c : Int) (many : Nat), vs = [.int c, .int many] ∧ many ≤ 32 ∧ RetL H ((List.range many).map fun k => D.str (nmS c many k)) Q
theorem ok_names (T : Txt K mg) : FnOk P w K mg base CX0 1 T.f__law_names T.d__law_names ["cell", "many"] spNames := by
  refine T.F__law_names.ok (k := 0) sc__law_names (fun vs H Q E h => ?_) (fun cdv A outer s H vs Q E hr h => ?_)
  · obtain ⟨c, many, rfl, _⟩ := h
    rfl
  obtain ⟨c, many, rfl, hm, q⟩ := h
  have nd := sc__law_names.nd
  refine ⟨_, (pss_cons (ps_let (i := 2) nd rfl (Or.inl rfl) pe_str)
    (pss_cons (ps_let (i := 3) nd rfl (Or.inl rfl) (pe_op op_add pe_int (pe_op op_mod (pe_op op_fdiv (pv 0) pe_int) (pe_ix ixF (pe_lst (pa_cons pe_int (pa_cons pe_int pa_nil))) (pe_callTy call_intB rfl T.z_int bt_int (pa_cons (pe_cmpR op_gt (pv 1) pe_int (nomark _)) pa_nil)) (fun _ _ => rfl)))))
    (pss_cons (ps_let (i := 4) nd rfl (Or.inl rfl) (pe_lst pa_nil))
    (pss_cons (ps_for PassesOwn.never rfl (pi_range1 rfl T.z_range (pa_cons (pv 1) pa_nil)) (pg_name (i := 5) nd rfl (Or.inl rfl)) (pss_cons (ps_let (i := 6) nd rfl (Or.inl rfl) (pe_op op_rep (pe_lst (pa_cons (pe_ix ix_str (pv 2) (pe_op op_mod (pv 0) pe_int) (fun _ _ => rfl)) pa_nil)) (pv 3)))
      (pss_cons (ps_asg (pe_ix ix_str (pv 2) (pe_op op_mod (pe_op op_add (pe_op op_add (pv 0) pe_int) (pe_op op_mod (pv 5) pe_int)) pe_int) (fun _ _ => rfl)) (pg_sub (pv 6) (pe_op op_mod (pe_op op_fdiv (pv 0) pe_int) (pv 3)) set_list))
      (pss_cons (ps_if (pt_cmpR op_gt (pv 5) pe_int (nomark _)) (pss_one (ps_expr (pe_bm PySem.F.plainAttrs_list PySem.F.slot_list_append PySem.F.type_list_append mt_append (pv 6) (pa_cons (pe_ix ix_str (pv 2) (pe_op op_mod (pv 0) pe_int) (fun _ _ => rfl)) pa_nil)))) pss_nil)
      (pss_cons (ps_if (PW.pt (pw_and (pt_cmpR op_eq (pe_op op_mod (pe_op op_fdiv (pv 0) pe_int) pe_int) pe_int (nomark _)) (pw_and1 (pt_cmpR op_le (pv 1) pe_int (nomark _))))) (pss_one (ps_let (i := 6) nd rfl (Or.inl rfl) (pe_op op_rep (pe_lst (pa_cons (pe_ix ix_str (pv 2) (pe_op op_mod (pv 0) pe_int) (fun _ _ => rfl)) pa_nil)) (pe_op op_add pe_int (pe_op op_mod (pe_op op_add (pv 0) (pv 5)) pe_int))))) pss_nil)
      (pss_one (ps_expr (pe_bm PySem.F.plainAttrs_list PySem.F.slot_list_append PySem.F.type_list_append mt_append (pv 4) (pa_cons (pe_bm PySem.F.plainAttrs_str PySem.F.slot_str_join PySem.F.type_str_join mt_join pe_str (pa_cons (pv 6) pa_nil)) pa_nil)))))))))
    (pss_one (ps_ret (pv 4))))))), ?_⟩
  walk_at "rd"
  refine ⟨⟨by decide, by decide⟩, by decide, NewO.mk fun p1 H1 S1 n1 e1 => ?_⟩
  walk_at "rd"
  have hz : atI [V.int 8, V.int 7] (if decide (24 < (many : Int)) = true then 1 else 0) = some (.int (if 24 < many then 7 else 8)) := by
    by_cases h : 24 < many
    · rw [if_pos (decide_eq_true (by (first | (clear hm n1 e1; omega) | omega))), if_pos h]; exact atI_1
    · rw [if_neg (by simp; (first | (clear hm n1 e1; omega) | omega)), if_neg h]; exact atI_0
  refine ⟨_, items_l e1, _, hz, _, rfl, by split <;> decide, Nat.zero_le _, NewO.mk fun p2 H2 S2 n2 e2 => ?_⟩
  have S := S1.trans S2
  have n0 : H p2 = none := S1.free n2
  have hsz : (1 + c / 26 % (if 24 < many then 7 else 8) : Int) = (M.nmSize c many : Nat) := by
    unfold M.nmSize
    have : (0 : Int) < (if 24 < many then 7 else 8) := by split <;> decide
    have := Int.emod_nonneg (c / 26) (show (if 24 < many then 7 else 8 : Int) ≠ 0 by omega)
    push_cast
    (first | (clear hm n1 e1 hz n2 e2 n0; lia) | omega)
  rw [hsz]
  have s1 := M.nmSize_lo c many
  have s2 := (M.nmSize_hi c many).1
  generalize hsize : M.nmSize c many = size at hsz s1 s2
  refine ⟨by (first | (clear hm n1 e1 hz n2 e2 n0 hsize hsz s1 s2; lia) | omega), by omega, ?_⟩
  rw [Int.toNat_natCast]
  refine forR (fun i σ H' => ∃ (o5 o6 : Option V), i ≤ many ∧ Same H H' ∧ H' p2 = some (.lst ((List.range i).map fun k => V.str (nmS c many k))) ∧
    σ = [some (.int c), some (.int many), some (.str LETT), some (.int size), some (.ref p2), o5, o6]) ⟨none, none, Nat.zero_le _, S, e2, rfl⟩ ?_ ?_
  · rintro i σ H3 hi ⟨o5, o6, _, S3, e3, rfl⟩
    simp only [a_gName]
    refine cutC2 fun C hC => ?_
    walk_at "rd"
    have hk : ((c + 1 + (0 + (i : Int)) % 24) % 26) = (c + 1 + ((i % 24 : Nat) : Int)) % 26 := by push_cast; (first | (clear hm n1 e1 hz n2 e2 n0 hsize hsz s1 s2 hi e3 hC; lia) | omega)
    refine ⟨by decide, lett_big, _, lett_c c, by decide, NewO.mk fun p4 H4 S4 n4 e4 => ⟨p4, rfl, _, e4, by (first | (clear hm n1 e1 hz n2 e2 n0 hsize hsz s1 s2 hi e3 hC hk n4 e4; lia) | omega), by (first | (clear hm n1 e1 hz n2 e2 n0 hsize hsz hk n4 e4 e3 hC hi s1; omega) | omega), small_le (by simp; (first | (clear hm n1 e1 hz n2 e2 n0 hsize hsz hk n4 e4 e3 hC hi s1; lia) | omega)), NewO.mk fun p5 H5 S5 n5 e5 => ?_⟩⟩
    rw [Int.toNat_natCast, rep_one] at e5
    rw [hk]
    have hpos := M.pos_lt c size s1
    have hp0 : 0 ≤ c / 208 % (size : Int) := Int.emod_nonneg _ (by (first | (clear s2 hi e3 hC hk n4 e4 n5 e5 hpos hm n1 e1 hz n2 e2 n0 hsize hsz; omega) | omega))
    refine ⟨by decide, by decide, lett_big, _, lett_c _, ⟨by decide, by decide⟩, by (first | (clear hi e3 hC hk n4 e4 n5 e5 hpos hp0 hm n1 e1 hz n2 e2 n0 hsize hsz s2; omega) | omega), p5, rfl, _, e5, _, ixN_int hp0 (by simp; (first | (clear hm n1 e1 hz n2 e2 n0 hsize hsz s1 s2 hi e3 hC hk n4 e4 hp0 n5 e5; lia) | omega)), PutO.mk fun H6 k6 e6 => ?_⟩
    have e25 : p2 ≠ p5 := ne_of_none (S4 _ _ e3) n5
    have S6 : Same H H6 := Same.put_new ((S3.trans S4).trans S5) ((S3.trans S4).free n5) k6
    have f6 : H6 p2 = some (.lst ((List.range i).map fun k => V.str (nmS c many k))) := by
      rw [k6 _ e25]; exact S5 _ _ (S4 _ _ e3)
    have e6' : H6 p5 = some (.lst (((List.replicate size (M.let26 c)).set (c / 208 % (size : Int)).toNat (M.let26 (c + 1 + ((i % 24 : Nat) : Int)))).map fun x => V.str ⟨#[x]⟩)) := by
      rw [e6, List.map_set, List.map_replicate]
    have n5' := (S3.trans S4).free n5
    clear e6 k6 e5 e4 n4 n5 S5 S4 S3 hpos hk
    generalize hW : (List.replicate size (M.let26 c)).set (c / 208 % (size : Int)).toNat (M.let26 (c + 1 + ((i % 24 : Nat) : Int))) = W at e6'
    have lW : W.length = size := by rw [← hW]; simp
    have nm0 : ¬ (c / 1664 % 3 = 0 ∧ many ≤ 8) → ¬ 23 < i → M.nm c many i = W := fun h1 h2 => by
      unfold M.nm; rw [if_neg h1, hsize, if_neg h2, hW]
    have nm1 : ¬ (c / 1664 % 3 = 0 ∧ many ≤ 8) → 23 < i → M.nm c many i = W ++ [M.let26 c] := fun h1 h2 => by
      unfold M.nm; rw [if_neg h1, hsize, if_pos h2, hW]
    have nm2 : (c / 1664 % 3 = 0 ∧ many ≤ 8) → M.nm c many i = List.replicate (1 + ((c + i) % 8).toNat) (M.let26 c) := fun h1 => by
      unfold M.nm; rw [if_pos h1]
    clear hW hp0
    rw [hC]
    clear hC C
    refine cutC1 fun C hC => ?_
    -- what stands behind the first if
    have tail : ∀ (l : List Nat) (H7 : Hp), Same H H7 → H7 p2 = some (.lst ((List.range i).map fun k => V.str (nmS c many k))) → H7 p5 = some (.lst (l.map fun x => V.str ⟨#[x]⟩)) → l.length ≤ size + 1 → (¬ (c / 1664 % 3 = 0 ∧ many ≤ 8) → M.nm c many i = l) →
        C [some (.int c), some (.int many), some (.str LETT), some (.int size), some (.ref p2), some (.int (0 + i)), some (.ref p5)] H7 := by
      intro l H7 S7 f7 e7 ll hnm
      rw [hC]
      clear hC C nm0 nm1 e6' f6 S6
      refine cutC1 fun C hC => ?_
      have fin : ∀ (l' : List Nat) (p' : Addr) (H8 : Hp), Same H H8 → H8 p2 = some (.lst ((List.range i).map fun k => V.str (nmS c many k))) → H8 p' = some (.lst (l'.map fun x => V.str ⟨#[x]⟩)) → l'.length ≤ 1000 → M.nm c many i = l' →
          C [some (.int c), some (.int many), some (.str LETT), some (.int size), some (.ref p2), some (.int (0 + i)), some (.ref p')] H8 := by
        intro l' p' H8 S8 f8 e8 ll' hl
        rw [hC]
        walk_at "rd"
        refine app_join f8 e8 (by simp; (first | (clear e25 n5' lW nm2 f7 e7 ll hnm hC f8 e8 ll' hl hsize hsz s1 s2 hi e3 n2 e2 n0 e1 hz n1; lia) | omega)) ll' fun H9 k9 e9 => ⟨hi, Same.put_new S8 n0 k9, ?_, _, rfl⟩
        rw [e9, List.range_succ, List.map_append, ← hl]; rfl
      walk_at "rd"
      refine ⟨⟨by decide, by decide⟩, by decide, ite2 (fun c2 => ite2 (fun c3 => ?_) (fun c3 => fin l p5 H7 S7 f7 e7 (by (first | (clear hm n1 e1 hz n2 e2 e3 e25 n5' lW nm2 f7 n0 hsize hsz hC c2 c3 hi e7 s1 hnm; lia) | omega)) (hnm fun z => c3 (decide_eq_true (by (first | (clear hm n1 e1 hz n2 e2 n0 hsize hsz s1 s2 hi e3 e25 n5' lW nm2 f7 e7 ll hnm hC c2 c3; lia) | omega)))))) (fun c2 => fin l p5 H7 S7 f7 e7 (by (first | (clear hm n1 e1 hz n2 e2 e3 e25 n5' lW nm2 f7 n0 hsize hsz hC c2 hi e7 s1 hnm; lia) | omega)) (hnm fun z => c2 (decide_eq_true z.1)))⟩
      have c2 := of_decide_eq_true c2
      have c3 : many ≤ 8 := by have := of_decide_eq_true c3; (first | (clear hm n1 e1 hz n2 e2 n0 hsize hsz s1 s2 hi e3 e25 n5' lW nm2 f7 e7 ll hnm hC c3 c2; lia) | omega)
      have hn : (1 + (c + (0 + (i : Int))) % 8).toNat = 1 + ((c + i) % 8).toNat := by (first | (clear hm n1 e1 hz n2 e2 n0 hsize hsz s1 s2 hi e3 e25 n5' lW nm2 f7 e7 ll hnm hC c2 c3; lia) | omega)
      refine ⟨by decide, lett_big, _, lett_c c, by decide, NewO.mk fun p7 H8 S8 n8 e8 => ⟨by decide, p7, rfl, _, e8, by (first | (clear hm n1 e1 hz n2 e2 n0 hsize hsz s1 s2 hi e3 e25 n5' lW nm2 f7 e7 ll hnm hC c2 c3 hn n8 e8; omega) | omega), by (first | (clear hm n1 e1 hz n2 e2 n0 hsize hsz s1 s2 hi e3 e25 n5' lW nm2 f7 e7 ll hnm hC c2 c3 hn n8 e8; omega) | omega), small_le (by simp; (first | (clear hm n1 e1 hz n2 e2 n0 hsize hsz s1 s2 hi e3 e25 n5' lW nm2 f7 e7 ll hnm hC c2 c3 hn n8 e8; omega) | omega)), NewO.mk fun p8 H9 S9 n9 e9 => ?_⟩⟩
      rw [hn, rep_one] at e9
      exact fin (List.replicate (1 + ((c + i) % 8).toNat) (M.let26 c)) p8 H9 ((S7.trans S8).trans S9) (S9 _ _ (S8 _ _ f7)) (by rw [e9, List.map_replicate]) (by simp; (first | (clear hm n1 e1 hz n2 e2 n0 hsize hsz s1 s2 hi e3 e25 n5' lW nm2 f7 e7 ll hnm hC c2 c3 hn n8 e8 n9 e9; omega) | omega)) (nm2 ⟨c2, c3⟩)
    walk_at "rd"
    refine ite2 (fun c1 => ?_) (fun c1 => ?_)
    · have c1 : 23 < i := by have := of_decide_eq_true c1; (first | (clear hm n1 e1 hz n2 e2 n0 hsize hsz s1 s2 hi e3 e25 f6 n5' e6' lW nm0 nm1 nm2 hC c1; omega) | omega)
      exact ⟨ty_lst e6', by decide, lett_big, _, lett_c c, _, e6', small_size (by simp; (first | (clear hm n1 e1 hz n2 e2 nm0 nm1 nm2 hC c1 n0 hsize hsz e3 e25 f6 hi n5' s1 e6'; lia) | omega)), PutO.mk fun H7 k7 e7 => tail (W ++ [M.let26 c]) H7 (Same.put_new S6 n5' k7) (by rw [k7 _ e25]; exact f6) (by rw [e7, List.map_append]; rfl) (by simp; (first | (clear hm n1 e1 hz n2 e2 n0 hsize hsz s1 s2 hi e3 e25 f6 hC c1 e7 n5' e6' nm1 nm2; lia) | omega)) (fun h => nm1 h c1)⟩
    · have c1 : ¬ 23 < i := fun z => c1 (decide_eq_true (by (first | (clear hm n1 e1 hz n2 e2 n0 hsize hsz s1 s2 hi e3 e25 f6 n5' e6' lW nm0 nm1 nm2 hC c1; omega) | omega)))
      exact tail W H6 S6 f6 e6' (by (first | (clear hm n1 e1 hz n2 e2 n0 hsize hsz s1 s2 hi e3 e25 f6 hC c1 n5' e6' nm1 nm2; lia) | omega)) (fun h => nm0 h c1)
  · rintro σ H3 ⟨o5, o6, _, S3, e3, rfl⟩
    walk_at "rd"
    refine q p2 _ _ S3 n0 e3 ?_
    have : ∀ (l : List Nat), Dts H3 (l.map fun k => D.str (nmS c many k)) (l.map fun k => V.str (nmS c many k)) := fun l => by
      induction l with
      | nil => exact .nil
      | cons k r ih => exact .cons (isD_str.mpr rfl) ih
    exact this _
noncomputable def lawMany (ns : List Int) : Nat := (if lawAt ns 0 % 3 = 2 then 13 + lawAt ns 0 / 3 % 20 else 1 + lawAt ns 0 / 3 % 12).toNat
noncomputable def spMany (K : PySem.W.Frag) : Sp := fun vs H Q _ => ∃ (a : Addr) (ns : List Int), vs = [.ref a] ∧ SqL K H a (ns.map V.int) ∧ ns.length ≤ 63 ∧ ∀ (m : Nat) H', 1 ≤ m → m ≤ 32 → Same H H' → m = lawMany ns → Q (.int m) H'
theorem ok_many (T : Txt K mg) : FnOk P w K mg base CX0 2 T.f__law_many T.d__law_many ["script"] (spMany K) := by
  refine T.F__law_many.ok (k := 1) sc__law_many (fun vs H Q E h => ?_) (fun cdv A outer s H vs Q E hr h => ?_)
  · obtain ⟨a, ns, rfl, _⟩ := h
    rfl
  obtain ⟨a, ns, rfl, hS, h63, q⟩ := h
  have nd := sc__law_many.nd
  have G__law_at := (ok_at (P := P) (w := w) (base := base) T).mono (k := 1) (by omega)
  refine ⟨_, (pss_cons (ps_let (i := 1) nd rfl (Or.inl rfl) (pe_call G__law_at hr rfl T.m__law_at T.F__law_at.kp T.b__law_at .nil pass0 (pa_cons (pv 0) (pa_cons pe_int pa_nil))))
    (pss_one (ps_ret (pe_ix ixF (pe_lst (pa_cons (pe_op op_add pe_int (pe_op op_mod (pe_op op_fdiv (pv 1) pe_int) pe_int)) (pa_cons (pe_op op_add pe_int (pe_op op_mod (pe_op op_fdiv (pv 1) pe_int) pe_int)) pa_nil))) (pe_callTy call_intB rfl T.z_int bt_int (pa_cons (pe_cmpR op_eq (pe_op op_mod (pv 1) pe_int) pe_int (nomark _)) pa_nil)) (fun _ _ => rfl))))), ?_⟩
  walk_at "rd"
  refine ⟨a, ns, 0, rfl, hS, h63, by decide, by decide, ?_⟩
  have hmn : lawMany ns = (if lawAt ns (0 : Int).toNat % 3 = 2 then 13 + lawAt ns (0 : Int).toNat / 3 % 20 else 1 + lawAt ns (0 : Int).toNat / 3 % 12).toNat := rfl
  generalize lawAt ns (0 : Int).toNat = c at hmn ⊢
  walk_at "rd"
  refine ⟨⟨by decide, by decide⟩, by decide, ⟨by decide, by decide⟩, by decide, by decide, NewO.mk fun p1 H1 S1 n1 e1 => ⟨by decide, p1, rfl, _, items_l e1, ?_⟩⟩
  have h1 : 0 ≤ c / 3 % 12 := by (first | (clear h63 hmn n1 e1; lia) | omega)
  have h2 : 0 ≤ c / 3 % 20 := by (first | (clear h63 hmn n1 e1 h1; lia) | omega)
  by_cases h : c % 3 = 2
  · have := q (13 + c / 3 % 20).toNat H1 (by (first | (clear h63 hmn n1 e1 h1 h2 h; lia) | omega)) (by (first | (clear h63 hmn n1 e1 h1 h2 h; lia) | omega)) S1 (by rw [hmn, if_pos h])
    rw [Int.toNat_of_nonneg (by (first | (clear h63 hmn n1 e1 h1 h2 h; lia) | omega))] at this
    exact ⟨_, by rw [if_pos (decide_eq_true h)]; exact atI_1, this⟩
  · have := q (1 + c / 3 % 12).toNat H1 (by (first | (clear h63 hmn n1 e1 h1 h2 h; lia) | omega)) (by (first | (clear h63 hmn n1 e1 h1 h2 h; lia) | omega)) S1 (by rw [hmn, if_neg h])
    rw [Int.toNat_of_nonneg (by (first | (clear h63 hmn n1 e1 h1 h2 h; lia) | omega))] at this
    exact ⟨_, by rw [if_neg (by simpa using h)]; exact atI_0, this⟩
noncomputable def lawSecond (ns : List Int) : Int := if lawAt ns 2 % 4 = 3 then lawAt ns 1 else lawAt ns 2
noncomputable def spSecond (K : PySem.W.Frag) : Sp := fun vs H Q _ => ∃ (a : Addr) (ns : List Int), vs = [.ref a] ∧ SqL K H a (ns.map V.int) ∧ ns.length ≤ 63 ∧ Q (.int (lawSecond ns)) H
theorem ok_second (T : Txt K mg) : FnOk P w K mg base CX0 2 T.f__law_second T.d__law_second ["script"] (spSecond K) := by
  refine T.F__law_second.ok (k := 1) sc__law_second (fun vs H Q E h => ?_) (fun cdv A outer s H vs Q E hr h => ?_)
  · obtain ⟨a, ns, rfl, _⟩ := h
    rfl
  obtain ⟨a, ns, rfl, hS, h63, q⟩ := h
  have nd := sc__law_second.nd
  have G__law_at := (ok_at (P := P) (w := w) (base := base) T).mono (k := 1) (by omega)
  refine ⟨_, (pss_cons (ps_if (pt_cmpR op_eq (pe_op op_mod (pe_call G__law_at hr rfl T.m__law_at T.F__law_at.kp T.b__law_at .nil pass0 (pa_cons (pv 0) (pa_cons pe_int pa_nil))) pe_int) pe_int (nomark _)) (pss_one (ps_ret (pe_call G__law_at hr rfl T.m__law_at T.F__law_at.kp T.b__law_at .nil pass0 (pa_cons (pv 0) (pa_cons pe_int pa_nil))))) pss_nil)
    (pss_one (ps_ret (pe_call G__law_at hr rfl T.m__law_at T.F__law_at.kp T.b__law_at .nil pass0 (pa_cons (pv 0) (pa_cons pe_int pa_nil)))))), ?_⟩
  walk_at "rd"
  refine ⟨a, ns, 2, rfl, hS, h63, by decide, by decide, _, rfl, by decide, ite2 (fun z => ?_) (fun z => ?_)⟩
  · have z : lawAt ns 2 % 4 = 3 := of_decide_eq_true z
    rw [lawSecond, if_pos z] at q
    exact ⟨a, ns, 1, rfl, hS, h63, by decide, by decide, q⟩
  · have z : ¬ lawAt ns 2 % 4 = 3 := fun y => z (decide_eq_true y)
    rw [lawSecond, if_neg z] at q
    exact ⟨a, ns, 2, rfl, hS, h63, by decide, by decide, q⟩
noncomputable def spTree (K : PySem.W.Frag) : Sp := fun vs H Q _ => ∃ (a : Addr) (ns : List Int) (at' many : Nat), vs = [.ref a, .int at', .int many] ∧ SqL K H a (ns.map V.int) ∧ ns.length ≤ 63 ∧ at' ≤ 1000 ∧ 1 ≤ many ∧ many ≤ 32 ∧
  ∀ t c c' v H', Same H H' → Dt H' (dT t) v → TreeOf many t c c' → (c = lawSecond ns ∧ c' = lawAt ns at') → Q v H'
theorem ok_tree (T : Txt K mg) : FnOk P w K mg base CX0 3 T.f__law_tree T.d__law_tree ["script", "at", "many"] (spTree K) := by
  refine T.F__law_tree.ok (k := 2) sc__law_tree (fun vs H Q E h => ?_) (fun cdv A outer s H vs Q E hr h => ?_)
  · obtain ⟨a, ns, at', many, rfl, _⟩ := h
    rfl
  obtain ⟨a, ns, at', many, rfl, hS, h63, hat, hm1, hm, q⟩ := h
  have nd := sc__law_tree.nd
  have G__law_at := (ok_at (P := P) (w := w) (base := base) T).mono (k := 2) (by omega)
  have G__law_names := (ok_names (P := P) (w := w) (base := base) T).mono (k := 2) (by omega)
  have G__law_second := (ok_second (P := P) (w := w) (base := base) T).mono (k := 2) (by omega)
  refine ⟨_, (pss_cons (ps_let (i := 3) nd rfl (Or.inl rfl) (pe_call G__law_names hr rfl T.m__law_names T.F__law_names.kp T.b__law_names .nil pass0 (pa_cons (pe_call G__law_at hr rfl T.m__law_at T.F__law_at.kp T.b__law_at .nil pass0 (pa_cons (pv 0) (pa_cons (pv 1) pa_nil))) (pa_cons pe_int pa_nil))))
    (pss_cons (ps_letC (i := 4) (N := ["x"]) (caps := []) rfl ⟨rfl, rfl, rfl, rfl, by decide +kernel, rfl, rfl, rfl, rfl⟩ (piL (pe_call G__law_names hr rfl T.m__law_names T.F__law_names.kp T.b__law_names .nil pass0 (pa_cons (pe_call G__law_second hr rfl T.m__law_second T.F__law_second.kp T.b__law_second .nil pass0 (pa_cons (pv 0) pa_nil)) (pa_cons (pv 2) pa_nil)))) (fun _ _ _ _ => pif_nil) (fun _ _ _ _ => (pe_tup (pa_cons pe_str (pa_cons (pv 0) pa_nil)))) nd rfl rfl rfl)
    (pss_cons (ps_let (i := 5) nd rfl (Or.inl rfl) (pe_op op_add (pv 1) pe_int))
    (pss_cons (ps_while PassesOwn.never (pt_cmpR op_gt (pe_callB lenG rfl T.z_len bt_len (pa_cons (pv 4) pa_nil)) pe_int (nomark _)) (pss_cons (ps_let (i := 6) nd rfl (Or.inl rfl) (pe_call G__law_at hr rfl T.m__law_at T.F__law_at.kp T.b__law_at .nil pass0 (pa_cons (pv 0) (pa_cons (pv 5) pa_nil))))
      (pss_cons (ps_let (i := 7) nd rfl (Or.inl rfl) (pe_op op_mod (pe_op op_fdiv (pv 6) pe_int) (pe_op op_sub (pe_callB lenG rfl T.z_len bt_len (pa_cons (pv 4) pa_nil)) pe_int)))
      (pss_cons (ps_if (PW.pt (pw_or (pt_cmpR op_gt (pe_op op_mod (pv 6) pe_int) pe_int (nomark _)) (pw_or1 (pt_cmpR op_gt (pv 2) pe_int (nomark _))))) (pss_one (ps_let (i := 7) nd rfl (Or.inl rfl) (pe_op op_mod (pe_op op_sub (pe_op op_sub (pv 5) (pv 1)) pe_int) (pe_op op_sub (pe_callB lenG rfl T.z_len bt_len (pa_cons (pv 4) pa_nil)) pe_int)))) pss_nil)
      (pss_cons (ps_let (i := 8) nd rfl (Or.inl rfl) (pe_lst (pa_cons (pe_ix ixF (pv 4) (pv 7) (fun _ _ => rfl)) (pa_cons (pe_ix ixF (pv 4) (pe_op op_add (pv 7) pe_int) (fun _ _ => rfl)) pa_nil))))
      (pss_cons (ps_let (i := 9) nd rfl (Or.inl rfl) (pe_op op_mod (pe_op op_fdiv (pv 6) pe_int) pe_int))
      (pss_cons (ps_let (i := 10) nd rfl (Or.inl rfl) (pe_tup (pa_cons pe_str (pa_cons (pe_ix ixF (pv 3) (pe_op op_mod (pe_op op_fdiv (pv 6) pe_int) pe_int) (fun _ _ => rfl)) (pa_cons (pe_ix ixF (pv 8) (pv 9) (fun _ _ => rfl)) (pa_cons (pe_ix ixF (pv 8) (pe_op op_sub pe_int (pv 9)) (fun _ _ => rfl)) pa_nil))))))
      (pss_cons (ps_let (i := 4) nd rfl (Or.inl rfl) (pe_op op_cat (pe_op op_cat (pe_slice slLG (pv 4) po_none (po_some (pv 7))) (pe_lst (pa_cons (pv 10) pa_nil))) (pe_slice slLG (pv 4) (po_some (pe_op op_add (pv 7) pe_int)) po_none)))
      (pss_one (ps_let (i := 5) nd rfl (Or.inl rfl) (pe_op op_add (pv 5) pe_int)))))))))))
    (pss_one (ps_ret (pe_ix ixF (pv 4) pe_int (fun _ _ => rfl)))))))), ?_⟩
  walk_at "rd"
  refine ⟨a, ns, at', rfl, hS, h63, by (first | (clear h63 hat hm1 hm; lia) | omega), by omega, ?_⟩
  have hc' : lawAt ns (at' : Int).toNat = lawAt ns at' := rfl
  generalize lawAt ns (at' : Int).toNat = c' at hc' ⊢
  refine ⟨c', 3, rfl, by decide, fun pd dv H1 S1 nd1 ed Dd => ?_⟩
  refine ⟨a, ns, rfl, S1.seq hS, h63, ?_⟩
  generalize hc : lawSecond ns = c
  refine ⟨c, many, rfl, hm, fun pn nv H2 S2 nn2 en Dn => ?_⟩
  have hnv : nv = (List.range many).map fun k => V.str (nmS c many k) := by
    have : ((List.range many).map fun k => D.str (nmS c many k)) = ((List.range many).map (nmS c many)).map D.str := by rw [List.map_map]; rfl
    rw [this] at Dn
    rw [Dts.of_str Dn, List.map_map]; rfl
  subst hnv
  refine WalkL.comp en (fun i ys H' => Dts H' ((List.range i).map fun k => dT (.leaf (nmS c many k))) ys ∧ i ≤ many) ⟨.nil, Nat.zero_le _⟩ (by simp; (first | (clear nd1 ed hc nn2 en h63 hat hm1 hc'; lia) | omega)) (fun i ys H' h => by have := h.1.length; simp at this; (first | (clear h63 hat hm1 hm hc' nd1 ed hc nn2 en h; lia) | omega)) (fun i x ys H' ex S' h => ?_) (fun p ys H3 H4 S3 S4 h np ep => ?_)
  · obtain ⟨hi, ex⟩ := List.getElem?_eq_some_iff.mp ex
    simp at hi ex
    subst ex
    walk_at "rd"
    refine ⟨by decide, NewO.mk fun p1 H5 S5 n5 e5 => ⟨S'.trans S5, ?_, hi⟩⟩
    rw [List.range_succ, List.map_append]
    exact (h.1.same S5).append (.one (leaf_mk e5))
  · simp at h
    have hdv : dv = ((List.range 3).map (nmS c' 3)).map V.str := by
      have : ((List.range 3).map fun k => D.str (nmS c' 3 k)) = ((List.range 3).map (nmS c' 3)).map D.str := by rw [List.map_map]; rfl
      rw [this] at Dd
      exact Dts.of_str Dd
    subst hdv
    have S14 := (S2.trans S3).trans S4
    have D4 := h.same S4
    have st := M.TI.start (names := (List.range many).map (nmS c many)) (deeds := (List.range 3).map (nmS c' 3))
    rw [show ((List.range many).map (nmS c many)).length = many by simp] at st
    obtain ⟨W, hW⟩ : ∃ W : Nat → St → Hp → Prop, ∀ m σ H', W m σ H' ↔ ∃ (j : Nat) (ts : List L2.Tree) (vs : List V) (pt : Addr) (o6 o7 o8 o9 o10 : Option V), m = ts.length ∧ M.TI ((List.range many).map (nmS c many)) ((List.range 3).map (nmS c' 3)) many j ts ∧ 1 ≤ ts.length ∧ Same H1 H' ∧ H' pt = some (.lst vs) ∧ Dts H' (ts.map dT) vs ∧
      σ = [some (V.ref a), some (V.int at'), some (V.int many), some (V.ref pd), some (V.ref pt), some (V.int (at' + 2 + j)), o6, o7, o8, o9, o10] := ⟨_, fun _ _ _ => Iff.rfl⟩
    refine ⟨W, ⟨_, (hW _ _ _).mpr ⟨0, ((List.range many).map (nmS c many)).map M.Tr.leaf, ys, p, none, none, none, none, none, rfl, st, by simp; omega, S14, ep, by rw [List.map_map, List.map_map]; exact D4, by simp⟩⟩, ?_⟩
    intro m σ H5 hw
    obtain ⟨j, ts, vs, pt, o6, o7, o8, o9, o10, rfl, I, h1, S5, et, Dv, rfl⟩ := (hW _ _ _).mp hw
    have lv : vs.length = ts.length := by have := Dv.length; simpa using this
    have hj := I.len
    simp only [a_tTest, a_tOp, a_rI0, a_tCB, a_tCons, a_tNil, a_tVar, a_tC, a_rLenF, List.getElem?_cons_zero, List.getElem?_cons_succ, Option.some.injEq, exists_eq_left', V.bl.injEq, V.int.injEq, V.ref.injEq, List.cons.injEq, and_true, exists_and_left, exists_eq_left]
    refine ⟨_, items_l et, ite2 (fun c1 => ?_) (fun c1 => ?_)⟩
    · have c1 : 1 < ts.length := by have := of_decide_eq_true c1; (first | (clear nd1 hc nn2 en np h63 hat hm1 ed h1 et hj c1 hm hc' ep; omega) | omega)
      refine ⟨fun σ' H' => ∃ m', m' < ts.length ∧ W m' σ' H', fun σ' H' z => z, ?_⟩
      refine cutC3 fun C hC => ?_
      walk_at "rd"
      refine ⟨a, ns, at' + 2 + j, by norm_cast, (S1.trans S5).seq hS, h63, by (first | (clear h63 hat hm1 hm hc' nd1 hc nn2 en np ep ed h1 et lv hj c1 hC; lia) | omega), by (first | (clear nd1 hc nn2 en np ep ed h1 et lv c1 hC h63 hm1 hc'; lia) | omega), ?_⟩
      generalize lawAt ns ((at' : Int) + 2 + j).toNat = cell
      walk_at "rd"
      have he := items_l et
      simp only [he, Option.some.injEq, exists_eq_left']
      have md : ∀ z : Int, ∃ p : Nat, z % (((vs.length : Nat) : Int) - 1) = p ∧ p + 1 < ts.length := fun z => by
        have h1 := Int.emod_nonneg z (show (((vs.length : Nat) : Int) - 1) ≠ 0 by (first | (clear nd1 hc nn2 en np h63 hat hm1 ed h1 et hC he hc' ep hj; lia) | omega))
        have h2 := Int.emod_lt_of_pos z (show 0 < (((vs.length : Nat) : Int) - 1) by (first | (clear h63 hat hm1 hm hc' nd1 hc nn2 en np ep ed et hC he h1 hj; omega) | omega))
        exact ⟨(z % (((vs.length : Nat) : Int) - 1)).toNat, by (first | (clear h63 hat hm1 hm hc' nd1 hc nn2 en np ep ed et lv hj c1 hC he h2; lia) | omega), by (first | (clear h63 hat hm1 hm hc' nd1 hc nn2 en np hC he h1 ed et hj; omega) | omega)⟩
      have mj : ∀ p : Nat, ((at' : Int) + 2 + j - at' - 2) % (((vs.length : Nat) : Int) - 1) = p → p = j % (ts.length - 1) := fun p hp => by
        have e1 : (((vs.length : Nat) : Int) - 1) = ((ts.length - 1 : Nat) : Int) := by (first | (clear h63 hat hm1 hm hc' nd1 hc nn2 en np hj c1 hC he hp ed; lia) | omega)
        have e2 : ((at' : Int) + 2 + j - at' - 2) = (j : Int) := by (first | (clear ed h1 et lv hj c1 hC he hp e1 hc nn2 en np ep hm hc' nd1 hm1 h63; lia) | omega)
        rw [e1, e2] at hp
        exact_mod_cast hp.symm
      have tail : ∀ p : Nat, p + 1 < ts.length → (24 < many → p = j % (ts.length - 1)) → C [some (V.ref a), some (V.int at'), some (V.int many), some (V.ref pd), some (V.ref pt), some (V.int (at' + 2 + j)), some (V.int cell), some (V.int p), o8, o9, o10] H5 := by
        intro p hp1 hp2
        rw [hC]
        clear hC C
        refine cutC3 fun C hC => ?_
        walk_at "rd"
        obtain ⟨ta, ha⟩ : ∃ t, ts[p]? = some t := ⟨_, List.getElem?_eq_getElem (by (first | (clear h63 hat hm1 hm hc' nd1 hc nn2 en np ep ed h1 et lv hj c1 hC hp2 he; lia) | omega))⟩
        obtain ⟨tb, hb⟩ : ∃ t, ts[p + 1]? = some t := ⟨_, List.getElem?_eq_getElem (by omega)⟩
        obtain ⟨va, hva, da⟩ := Dts.map_of Dv ha
        obtain ⟨vb, hvb, db⟩ := Dts.map_of Dv hb
        refine ⟨_, he, va, atI_nat hva, _, he, vb, atI_int (by (first | (clear h63 hat hm1 hm hc' nd1 hc nn2 en np ep ed h1 et lv hj c1 he hp1 hp2 hC ha hb hva hvb; lia) | omega)) (by rw [show ((p : Int) + 1).toNat = p + 1 by (first | (clear h63 hat hm1 hm hc' nd1 hc nn2 en np ep ed h1 et lv hj c1 he hp1 hp2 hC ha hb hva hvb; lia) | omega)]; exact hvb), by decide, NewO.mk fun p6 H6 S6 n6 e6 => ?_⟩
        have hd0 : 0 ≤ cell / 128 % 3 := by (first | (clear h63 hat hm1 hm hc' nd1 hc nn2 en np ep ed h1 et lv hj c1 he hp1 hp2 hC ha hb hva hvb n6 e6; lia) | omega)
        have hd1 : cell / 128 % 3 < 3 := by (first | (clear h63 hat hm1 hm hc' nd1 hc nn2 en np ep ed h1 et lv hj c1 he hp1 hp2 hC ha hb hva hvb n6 e6 hd0; lia) | omega)
        obtain ⟨x, y, vx, vy, hx9, hx11, dx, dy, hxy⟩ : ∃ x y vx vy, atI [va, vb] (cell / 64 % 2) = some vx ∧ atI [va, vb] (1 - cell / 64 % 2) = some vy ∧ Dt H5 (dT x) vx ∧ Dt H5 (dT y) vy ∧ ((x = ta ∧ y = tb) ∨ (x = tb ∧ y = ta)) := by
          rcases (show cell / 64 % 2 = 0 ∨ cell / 64 % 2 = 1 by (first | (clear h63 hat hm1 hm hc' nd1 hc nn2 en np ep ed h1 et lv hj c1 he hp1 hp2 hC ha hb hva hvb n6 e6 hd0 hd1; lia) | omega)) with z | z
          · exact ⟨ta, tb, va, vb, by rw [z]; exact atI_0, by rw [z]; exact atI_1, da, db, .inl ⟨rfl, rfl⟩⟩
          · exact ⟨tb, ta, vb, va, by rw [z]; exact atI_1, by rw [z]; exact atI_0, db, da, .inr ⟨rfl, rfl⟩⟩
        refine ⟨⟨by decide, by decide⟩, by decide, ⟨by decide, by decide⟩, by decide, _, items_l (S6 _ _ (S5 _ _ ed)), V.str (nmS c' 3 (cell / 128 % 3).toNat), atI_int hd0 (by rw [List.getElem?_map, List.getElem?_map, List.getElem?_range (by (first | (clear h63 hat hm1 hm hc' nd1 hc nn2 en np ep ed h1 et lv hj c1 he hp1 hp2 hC ha hb hva hvb n6 e6 hd0 hd1 hx9 hx11 hxy; lia) | omega))]; rfl), p6, rfl, _, items_l e6, vx, hx9, p6, rfl, _, items_l e6, vy, hx11, by decide, NewO.mk fun p7 H7 S7 n7 e7 => ?_⟩
        rw [hC]
        clear hC C
        walk_at "rd"
        refine ⟨_, S7 _ _ (S6 _ _ et), ?_⟩
        rw [cutV_to (by (first | (clear h63 hat hm1 hm hc' nd1 hc nn2 en hd1 hx9 hx11 hxy n7 e7 np ep ed h1 et hp2 ha hb hva hvb n6 e6 hd0 c1 he hj; lia) | omega))]
        refine NewO.mk fun p8 H8 S8 n8 e8 => ⟨by decide, NewO.mk fun p9 H9 S9 n9 e9 => ⟨p8, rfl, p9, rfl, _, S9 _ _ e8, _, e9, small_le (by simp; (first | (clear hp2 ha hb hva hvb n6 e6 hd0 hd1 hx9 hx11 hxy n7 e7 n8 e8 n9 e9 nd1 hc nn2 en np h63 hat hm1 ed h1 et hc' ep c1 he hp1; lia) | omega)), NewO.mk fun pA HA SA nA eA => ?_⟩⟩
        refine ⟨_, SA _ _ (S9 _ _ (S8 _ _ (S7 _ _ (S6 _ _ et)))), ?_⟩
        have ep2 : (p : Int) + 2 = ((p + 2 : Nat) : Int) := by (first | (clear h63 hat hm1 hm hc' nd1 hc nn2 en np ep ed h1 et lv hj c1 he hp1 hp2 ha hb hva hvb n6 e6 hd0 hd1 hx9 hx11 hxy n7 e7 n8 e8 n9 e9 nA eA; lia) | omega)
        rw [ep2, cutV_from (by (first | (clear ha hb hva hvb n6 e6 hd0 hd1 hx9 hx11 hxy n7 e7 n8 e8 n9 e9 nA eA ep2 h63 hat hm1 hm hc' nd1 hc nn2 en np ep ed h1 hp2 hj c1 et he; lia) | omega))]
        refine NewO.mk fun pB HB SB nB eB => ⟨pA, rfl, pB, rfl, _, SB _ _ eA, _, eB, small_le (by simp; (first | (clear hb hva hvb n6 e6 hd0 hd1 hx9 hx11 hxy n7 e7 n8 e8 n9 e9 nA eA ep2 nB eB hc nn2 en np ep ed h63 hat hm1 hp2 ha hc' nd1 et c1 he; lia) | omega)), NewO.mk fun pC HC SC nC eC => ?_⟩
        have S7C := ((((S8.trans S9).trans SA).trans SB).trans SC)
        have S5C := (S6.trans S7).trans S7C
        have kd : Dt HC (dT (.knot (nmS c' 3 (cell / 128 % 3).toNat) x y)) (.ref p7) := knot_mk (S7C _ _ e7) (dx.same S5C) (dy.same S5C)
        have step := I.step (f := nmS c' 3 (cell / 128 % 3).toNat) ha hb hp2 (List.mem_map.mpr ⟨_, List.mem_range.mpr (by (first | (clear h63 hat hm1 hm hc' nd1 hc nn2 en np ep ed h1 et lv hj c1 he hp1 hp2 ha hb hva hvb n6 e6 hd0 hd1 hx9 hx11 hxy n7 e7 n8 e8 n9 e9 nA eA ep2 nB eB nC eC; lia) | omega)), rfl⟩) hxy
        have DvC := Dv.same S5C
        refine ⟨ts.length - 1, by (first | (clear hva hvb n6 e6 hd0 hd1 hx9 hx11 hxy n7 e7 n8 e8 n9 e9 nA eA ep2 nB eB nC eC h63 hat hm1 hm hc' nd1 hc nn2 en np ep ed h1 et lv hj c1 ha hb hp2 he; omega) | omega), (hW _ _ _).mpr ⟨j + 1, _, _, pC, _, _, _, _, _, ?_, step, ?_, S5.trans S5C, eC, ?_, by push_cast; simp only [Int.add_assoc]; rfl⟩⟩
        · have := step.len; (first | (clear h63 hat hm1 hm hc' nd1 hc nn2 en np ep ed n6 e6 hd0 hd1 hx9 hx11 hxy n7 e7 n8 e8 n9 e9 nA eA ep2 nB eB h1 et lv hp1 hp2 ha hb hva hvb c1 he nC eC; lia) | omega)
        · have := step.len; (first | (clear h63 hat hm1 hm hc' nd1 hc nn2 en np ep ed n6 e6 hd0 hd1 hx9 hx11 hxy n7 e7 n8 e8 n9 e9 nA eA ep2 nB eB h1 et lv hp1 hp2 ha hb hva hvb nC eC; lia) | omega)
        · unfold M.merge
          rw [List.map_append, List.map_append, List.map_take, List.map_drop]
          exact ((DvC.take p).append (.one kd)).append (DvC.drop (p + 2))
      refine ⟨⟨by decide, by decide⟩, by (first | (clear h63 hat hm1 hm hc' nd1 hc nn2 en np ep ed h1 hC he et hj; omega) | omega), by decide, ite2 (fun c2 => ?b1) (fun c2 => ite2 (fun c3 => ?b2) (fun c3 => ?b3))⟩
      case' b1 =>
        obtain ⟨p, hpI, hp1⟩ := md ((at' : Int) + 2 + j - at' - 2)
        have hp2 : 24 < many → p = j % (ts.length - 1) := fun _ => mj p hpI
        refine ⟨by (first | (clear h63 hat hm1 hm hc' nd1 hc nn2 en np ep ed he c2 hpI hp1 hp2 h1 et hj hC; omega) | omega), ?_⟩
      case' b2 =>
        obtain ⟨p, hpI, hp1⟩ := md ((at' : Int) + 2 + j - at' - 2)
        have hp2 : 24 < many → p = j % (ts.length - 1) := fun _ => mj p hpI
        refine ⟨by (first | (clear h63 hat hm1 hm hc' nd1 hc nn2 en np ep ed he c2 c3 hpI hp1 hp2 h1 et hj hC; omega) | omega), ?_⟩
      case' b3 =>
        obtain ⟨p, hpI, hp1⟩ := md (cell / 4)
        have hp2 : 24 < many → p = j % (ts.length - 1) := fun z => absurd (decide_eq_true (by (first | (clear h63 hat hm1 hm hc' nd1 hc nn2 en np ep ed h1 et lv hj c1 hC he c2 c3 hpI hp1; omega) | omega))) c3
      all_goals
        rw [hpI]
        exact tail p hp1 hp2
    · have c1 : ts.length = 1 := by have : ¬ 1 < ts.length := fun z => c1 (decide_eq_true (by (first | (clear nd1 hc nn2 en np h63 hat hm1 ed h1 et hj c1 hm hc' ep; omega) | omega))); (first | (clear h63 hat hm1 hm hc' nd1 hc nn2 en et lv hj c1 ep ed; lia) | omega)
      obtain ⟨t, rfl⟩ := List.length_eq_one_iff.mp c1
      obtain ⟨h2, h3, h4⟩ := I.end hm
      walk_at "rd"
      obtain ⟨v, hv, hd⟩ := Dts.get (i := 0) Dv rfl
      refine ⟨_, items_l et, v, atI_int (by decide) hv, q t c c' v H5 (S1.trans S5) hd ⟨h2, h3, h4⟩ ⟨hc.symm, hc'⟩⟩
/-! ### the program's trees.py, where nothing is refused -/
theorem one_ge (c d : Nat) : (!decide ([c] < [d])) = decide (d ≤ c) := by
  rw [Bool.eq_iff_iff]; simp [List.cons_lt_cons_iff]
noncomputable def spName : Sp := fun vs H Q _ => ∃ (x : Str), vs = [.str x] ∧ x.length ≤ 1000000 ∧ ∀ H', Same H H' → Q (.bl (nameOk x)) H'
theorem ok_name (T : Txt K mg) : FnOk P w K mg base CX0 1 T.f_is_name T.d_is_name ["text"] spName := by
  refine T.F_is_name.ok (k := 0) sc_is_name (fun vs H Q E h => ?_) (fun cdv A outer s H vs Q E hr h => ?_)
  · obtain ⟨x, rfl, _⟩ := h
    rfl
  obtain ⟨x, rfl, hx, q⟩ := h
  have nd := sc_is_name.nd
  refine ⟨_, (pss_one (ps_ret (pe_and (pe_chain op_le op_le pe_int (pe_callB call_len_str rfl T.z_len bt_len (pa_cons (pv 0) pa_nil)) (pe_glob (v := .int 8) rfl T.c_LONGEST_NAME ⟨_, rfl⟩)) (pe_one (pe_callB (call_all rfl) rfl T.z_all bt_all (pa_cons (pe_comp (N := ["sign"]) (caps := []) rfl ⟨rfl, rfl, rfl, rfl, by decide +kernel, rfl, rfl, rfl, rfl⟩ (pi_str (pv 0)) (fun _ _ _ _ => pif_nil) (fun _ _ _ _ => (pe_chain op_le_str op_le_str pe_str (pv 0) pe_str))) pa_nil)))))), ?_⟩
  walk_at "rd"
  have hz : x.length ≤ sizeLine := Nat.le_trans hx (by decide)
  have el : x.cps.toList.length = x.length := by simp [Str.length]
  refine ⟨hz, ite2 (fun c1 => ite2 (fun c2 => ?_) (fun c2 => ?_)) (fun c1 => ?_)⟩
  · have c1 : 1 ≤ x.length := by have := of_decide_eq_true c1; (first | (clear hx hz el c1 c2; omega) | omega)
    have c2 : x.length ≤ 8 := by have := of_decide_eq_true c2; (first | (clear hx hz el c2 c1; lia) | omega)
    refine comp_str (fun i ys H' => H' = H ∧ i ≤ x.cps.size ∧ ys = (x.cps.toList.take i).map (fun c => V.bl (decide (97 ≤ c) && decide (c ≤ 122)))) ⟨rfl, Nat.zero_le _, rfl⟩ (Nat.lt_of_le_of_lt c2 (by decide)) (fun i ys H' h => ?_) (fun i c ys H' ec h => ?_) (fun ys H' h p hp => ?_)
    · rw [h.2.2]; simp; (first | (clear hx hz el c1 c2 h; lia) | omega)
    · obtain ⟨rfl, hi, rfl⟩ := h
      walk_at "rd"
      have hlt : i < x.cps.size := (Array.getElem?_eq_some_iff.mp ec).1
      have ec' : x.cps.toList[i]? = some c := by simpa using ec
      have e : (x.cps.toList.take (i + 1)).map (fun c => V.bl (decide (97 ≤ c) && decide (c ≤ 122))) = (x.cps.toList.take i).map (fun c => V.bl (decide (97 ≤ c) && decide (c ≤ 122))) ++ [V.bl (decide (97 ≤ c) && decide (c ≤ 122))] := by
        rw [List.take_add_one, ec']; simp
      have l1 : (!decide ((Str.mk #[c]).cps.toList < (Str.ofString "a").cps.toList)) = decide (97 ≤ c) := by
        have : (Str.ofString "a").cps.toList = [97] := by decide +kernel
        rw [this]; exact one_ge c 97
      have l2 : (!decide ((Str.ofString "z").cps.toList < (Str.mk #[c]).cps.toList)) = decide (c ≤ 122) := by
        have : (Str.ofString "z").cps.toList = [122] := by decide +kernel
        rw [this]; exact one_ge 122 c
      rw [l1, l2]
      refine ite2 (fun d => ?_) (fun d => ?_)
      · refine ⟨hlt, ?_⟩
        rw [e, d]; simp
      · refine ⟨hlt, ?_⟩
        have d : decide (97 ≤ c) = false := by simpa using d
        rw [e, d]; simp
    · obtain ⟨rfl, _, rfl⟩ := h
      refine ⟨p, rfl, x.cps.toList.map (fun c => decide (97 ≤ c) && decide (c ≤ 122)), SqL.of ?_, ?_⟩
      · rw [upd_same]
        have : x.cps.toList.take x.cps.size = x.cps.toList := List.take_of_length_le (by simp)
        rw [this, List.map_map]; rfl
      · have := q _ (same_new hp (.lst ((x.cps.toList.take x.cps.size).map (fun c => V.bl (decide (97 ≤ c) && decide (c ≤ 122))))))
        unfold nameOk isName at this
        rw [el, decide_eq_true c1, decide_eq_true c2] at this
        rw [List.all_map]
        simpa using this
  · have c1 : 1 ≤ x.length := by have := of_decide_eq_true c1; (first | (clear hx hz el c1 c2; omega) | omega)
    have c2 : ¬ x.length ≤ 8 := fun z => c2 (decide_eq_true (by (first | (clear hx hz el c2 c1; lia) | omega)))
    have := q H (Same.refl H)
    unfold nameOk isName at this
    rw [el, decide_eq_false c2] at this
    simpa using this
  · have c1 : ¬ 1 ≤ x.length := fun z => c1 (decide_eq_true (by (first | (clear hx hz el c1; lia) | omega)))
    have := q H (Same.refl H)
    unfold nameOk isName at this
    rw [el, decide_eq_false c1] at this
    simpa using this
noncomputable def spLeaf : Sp := fun vs H Q _ => ∃ (t : L2.Tree) (v : V), vs = [v] ∧ Dt H (dT t) v ∧ Q (.bl t.isL) H
theorem kind_leaf (t : L2.Tree) : decide ((if t.isL = true then Str.ofString "leaf" else Str.ofString "knot") = Str.ofString "leaf") = t.isL := by
  cases t
  · show decide (Str.ofString "leaf" = Str.ofString "leaf") = true
    decide +kernel
  · show decide (Str.ofString "knot" = Str.ofString "leaf") = false
    decide +kernel
theorem ok_leaf (T : Txt K mg) : FnOk P w K mg base CX0 1 T.f_is_leaf T.d_is_leaf ["tree"] spLeaf := by
  refine T.F_is_leaf.ok (k := 0) sc_is_leaf (fun vs H Q E h => ?_) (fun cdv A outer s H vs Q E hr h => ?_)
  · obtain ⟨t, v, rfl, _⟩ := h
    rfl
  obtain ⟨t, v, rfl, ht, q⟩ := h
  obtain ⟨a, r, rfl, ea⟩ := dT_any ht
  have nd := sc_is_leaf.nd
  refine ⟨_, (pss_one (ps_ret (pe_cmpR op_eq (pe_ix ixF (pv 0) pe_int (fun _ _ => rfl)) pe_str (nomark _)))), ?_⟩
  walk_at "rd"
  refine ⟨_, items_t ea, _, atI_0, rfl, ?_⟩
  have e : decide (V.str (if t.isL = true then Str.ofString "leaf" else Str.ofString "knot") = V.str (Str.ofString "leaf")) = t.isL := by
    simp only [V.str.injEq]; exact kind_leaf t
  rw [e]
  exact q
noncomputable def spPart : Sp := fun vs H Q _ => ∃ (t u : L2.Tree) (p : List Nat) (v z : V), vs = [v, z] ∧ Dt H (dT t) v ∧ Dt H (dP p) z ∧ t.sub p = some u ∧ ∀ v', Dt H (dT u) v' → Q v' H
theorem ok_part (T : Txt K mg) : FnOk P w K mg base CX0 1 T.f_part_at T.d_part_at ["tree", "place"] spPart := by
  refine T.F_part_at.ok (k := 0) sc_part_at (fun vs H Q E h => ?_) (fun cdv A outer s H vs Q E hr h => ?_)
  · obtain ⟨t, u, p, v, z, rfl, _⟩ := h
    rfl
  obtain ⟨t, u, p, v, z, rfl, ht, hp, hu, q⟩ := h
  obtain ⟨a, rfl, ea⟩ := dP_of hp
  have nd := sc_part_at.nd
  refine ⟨_, (pss_cons (ps_let (i := 2) nd rfl (Or.inl rfl) (pv 0))
    (pss_cons (ps_for PassesOwn.never rfl (piT (pv 1)) (pg_name (i := 3) nd rfl (Or.inl rfl)) (pss_one (ps_let (i := 2) nd rfl (Or.inl rfl) (pe_ix ixF (pv 2) (pe_op op_add pe_int (pv 3)) (fun _ _ => rfl)))))
    (pss_one (ps_ret (pv 2))))), ?_⟩
  walk_at "rd"
  obtain ⟨Pv, hPv⟩ : ∃ Pv : Nat → St → Hp → Prop, ∀ i σ H', Pv i σ H' ↔ H' = H ∧ ∃ (y : L2.Tree) (vy : V) (o3 : Option V), Dt H (dT y) vy ∧ y.sub (p.drop i) = some u ∧ σ = [some v, some (.ref a), some vy, o3] := ⟨_, fun _ _ _ => Iff.rfl⟩
  refine WalkT.for ea Pv ((hPv _ _ _).mpr ⟨rfl, t, v, none, ht, by simpa using hu, rfl⟩) (fun i σ H' _ h => ((hPv _ _ _).mp h).1 ▸ ea) ?_ ?_
  · intro i x σ H' ex h
    obtain ⟨rfl, y, vy, o3, hy, hs, rfl⟩ := (hPv _ _ _).mp h
    have hi : i < p.length := by have := (List.getElem?_eq_some_iff.mp ex).1; simpa [vP] using this
    have ex' : x = .int ((p[i] : Nat) : Int) := by
      have : (vP p)[i]? = some (.int ((p[i] : Nat) : Int)) := by unfold vP; rw [List.getElem?_map, List.getElem?_eq_getElem hi]; rfl
      rw [this] at ex; exact (Option.some.inj ex).symm
    subst ex'
    rw [List.drop_eq_getElem_cons hi] at hs
    walk_at "rd"
    cases y with
    | leaf x => simp [M.Tr.sub] at hs
    | knot f l r =>
      obtain ⟨b, vl, vr, rfl, eb, hl, hr'⟩ := dT_knot hy
      simp only [M.Tr.sub] at hs
      split at hs
      · rename_i e0
        refine ⟨b, rfl, _, items_t eb, vl, by rw [e0]; exact atI_2, (hPv _ _ _).mpr ⟨rfl, l, _, _, hl, hs, rfl⟩⟩
      · split at hs
        · rename_i _ e1
          refine ⟨b, rfl, _, items_t eb, vr, by rw [e1]; exact atI_3, (hPv _ _ _).mpr ⟨rfl, r, _, _, hr', hs, rfl⟩⟩
        · cases hs
  · intro σ H' h
    obtain ⟨rfl, y, vy, o3, hy, hs, rfl⟩ := (hPv _ _ _).mp h
    walk_at "rd"
    have : (vP p).length = p.length := by simp [vP]
    rw [this, List.drop_length, M.Tr.sub_nil] at hs
    cases hs
    exact q vy hy
noncomputable def spPlaces (n : Nat) : Sp := fun vs H Q _ => ∃ (t : L2.Tree) (v : V), vs = [v] ∧ Dt H (dT t) v ∧ t.dp ≤ n ∧ t.lv.length ≤ 5000 ∧ RetL H (t.pl.map dP) Q
theorem ok_places (T : Txt K mg) : ∀ n : Nat, FnOk P w K mg base CX0 (n + 2) T.f_places T.d_places ["tree"] (spPlaces n)
  | 0 => by
    refine T.F_places.ok (k := 1) sc_places (fun vs H Q E h => ?_) (fun cdv A outer s H vs Q E hr h => ?_)
    · obtain ⟨t, v, rfl, _⟩ := h
      rfl
    · obtain ⟨t, v, rfl, _, h, _⟩ := h
      have := t.dp_pos
      omega
  | n + 1 => by
    refine T.F_places.ok (k := n + 2) sc_places (fun vs H Q E h => ?_) (fun cdv A outer s H vs Q E hr h => ?_)
    · obtain ⟨t, v, rfl, _⟩ := h
      rfl
    obtain ⟨t, v, rfl, ht, hd, hl, q⟩ := h
    have nd := sc_places.nd
    have G_is_leaf := (ok_leaf (P := P) (w := w) (base := base) T).mono (k := n + 2) (by (first | lia | omega))
    have G_places := ok_places T n
    refine ⟨_, (pss_cons (ps_let (i := 1) nd rfl (Or.inl rfl) (pe_lst (pa_cons (pe_tup pa_nil) pa_nil)))
    (pss_cons (ps_if (pt_val (pe_call G_is_leaf hr rfl T.m_is_leaf T.F_is_leaf.kp T.b_is_leaf .nil pass0 (pa_cons (pv 0) pa_nil))) (pss_one (ps_ret (pv 1))) pss_nil)
    (pss_cons (ps_for PassesOwn.never rfl (piT (pe_tup (pa_cons pe_int (pa_cons pe_int pa_nil)))) (pg_name (i := 2) nd rfl (Or.inr rfl)) (pss_one (ps_expr (pe_bm PySem.F.plainAttrs_list PySem.F.slot_list_extend PySem.F.type_list_extend mt_extend (pv 1) (pa_cons (pe_comp (N := ["place", "step"]) (caps := [2]) rfl ⟨rfl, rfl, rfl, rfl, by decide +kernel, rfl, rfl, rfl, rfl⟩ (piL (pe_call G_places hr rfl T.m_places T.F_places.kp T.b_places .nil pass0 (pa_cons (pe_ix ixF (pv 0) (pe_op op_add pe_int (pv 2)) (fun _ _ => rfl)) pa_nil))) (fun _ _ _ _ => pif_nil) (fun _ _ _ _ => (pe_op op_catD (pe_tup (pa_cons (pv 1) pa_nil)) (pv 0)))) pa_nil)))))
    (pss_one (ps_ret (pv 1)))))), ?_⟩
    walk_at "rd"
    refine ⟨by decide, NewO.mk fun p1 H1 S1 n1 e1 => ⟨by decide, NewO.mk fun p2 H2 S2 n2 e2 => ?_⟩⟩
    have ht2 := ht.same (S1.trans S2)
    refine ⟨t, v, rfl, ht2, _, rfl, ?_⟩
    have n0 : H p2 = none := S1.free n2
    have S12 := S1.trans S2
    have d0 : Dt H2 (dP []) (.ref p1) := dP_mk (S2 _ _ e1)
    cases t with
    | leaf x => exact iteT (q p2 _ H2 S12 n0 e2 (.one d0))
    | knot f l r =>
      obtain ⟨a, vl, vr, rfl, ea, hl', hr'⟩ := dT_knot ht2
      simp only [M.Tr.dp] at hd
      simp only [M.Tr.lv, List.length_append] at hl
      refine iteF ⟨by decide, NewO.mk fun p3 H3 S3 n3 e3 => ?_⟩
      have n30 : H p3 = none := S12.free n3
      have h32 : p2 ≠ p3 := ne_of_none e2 n3
      have ha2 : a ≠ p2 := ne_of ea e2 (by intro z; cases z)
      -- one turn: the son's places, the step ahead of each
      have turn : ∀ (y : L2.Tree) (vy : V) (step : Nat) (H4 : Hp) (vs : List V) (R : V → Hp → Prop), y.dp ≤ n → y.lv.length ≤ 5000 → Same H H4 → H4 p2 = some (.lst vs) → Dt H4 (dT y) vy → vs.length ≤ 20000 →
          (∀ H5 ws, Same H H5 → H5 p2 = some (.lst (vs ++ ws)) → Dts H5 (y.pl.map fun q => dP (step :: q)) ws → (∀ b, b ≠ p2 → ∀ o, H4 b = some o → H5 b = some o) → R .non H5) →
          spPlaces n [vy] H4 (fun x H1 => WalkL K x H1 fun J H1 => wComp J [2] tYes (tOp rCatD (tTup (tCons (tVar 1) tNil)) (tVar 0)) [some (V.ref a), some (V.ref p2), some (V.int step)] H1 fun x H1 => ∃ x_1, x = V.ref x_1 ∧ ∃ x, H1 p2 = some (HO.lst x) ∧ ∃ x_2, H1 x_1 = some (HO.lst x_2) ∧ x.length + x_2.length ≤ sizeLine ∧ PutO H1 p2 (HO.lst (x ++ x_2)) (R V.non)) E0 := by
        intro y vy step H4 vs R hyd hyl S4 e4 hy hvs hR
        refine ⟨y, vy, rfl, hy, hyd, hyl, fun p5 ys H5 S5 n5 e5 D5 => ?_⟩
        have l5 : ys.length = y.pl.length := by have := D5.length; simpa using this
        have l6 := M.pl_len_le y
        refine WalkL.comp e5 (fun i zs H' => i ≤ ys.length ∧ Dts H' ((y.pl.take i).map fun q => dP (step :: q)) zs) ⟨Nat.zero_le _, .nil⟩ (by (first | (clear n1 e1 n2 e2 n0 hd ea hl n3 e3 n30 h32 ha2 hyd hvs n5 e4 e5; lia) | omega)) (fun i zs H' h => by have := h.2.length; simp at this; (first | (clear n1 e1 n2 e2 n0 hd ea hl n3 e3 n30 h32 ha2 hyd hyl e4 hvs n5 e5 l5 l6 h; lia) | omega)) (fun i x zs H' ex S' h => ?_) (fun p7 zs H6 H7 S6 S7 h n7 e7 => ?_)
        · have hi : i < y.pl.length := by have := (List.getElem?_eq_some_iff.mp ex).1; (first | (clear n1 e1 n2 e2 n0 hd ea hl n3 e3 n30 h32 ha2 hyd hyl e4 hvs n5 l6 ex e5 h; lia) | omega)
          obtain ⟨v', hv', dv'⟩ := Dts.map_of D5 (List.getElem?_eq_getElem hi)
          rw [ex] at hv'; cases hv'
          obtain ⟨b, rfl, eb⟩ := dP_of (dv'.same S')
          walk_at "rd"
          refine ⟨by decide, NewO.mk fun p8 H8 S8 n8 e8 => ?_⟩
          walk_at "rd"
          refine ⟨_, e8, _, S8 _ _ eb, ?_, fun p9 H9 S9 e9 => ⟨(S'.trans S8).trans S9, by (first | (clear n1 e1 n2 e2 n0 hd ea hl n3 e3 n30 h32 ha2 hyd h eb ex n8 e8 e9 hyl e4 hvs n5 l6 e5; lia) | omega), ?_⟩⟩
          · have := M.pl_dp (List.getElem_mem hi)
            refine small_le ?_
            simp [vP]
            have := y.dp_le
            (first | (clear n1 e1 n2 e2 n0 hd ea hl n3 e3 n30 h32 ha2 hyd e5 l5 l6 h eb ex n8 hvs n5 e4 e8; lia) | omega)
          · rw [List.take_add_one, List.getElem?_eq_getElem hi]
            simp only [Option.toList_some, List.map_append, List.map_cons, List.map_nil]
            exact ((h.2.same S8).same S9).append (.one (dP_mk (p := step :: y.pl[i]) e9))
        · refine ⟨p7, rfl, vs, S7 _ _ (S6 _ _ (S5 _ _ e4)), zs, e7, ?_, PutO.mk fun H8 k8 e8 => ?_⟩
          · have := h.2.length
            simp at this
            refine small_le (by (first | (clear n1 e1 n2 e2 n0 hd ea hl n3 e3 n30 h32 ha2 n5 e5 h n7 hyd e4 e7; lia) | omega))
          · have D7 := h.2.same S7
            rw [l5, List.take_length] at D7
            refine hR H8 zs (Same.put_new (((S4.trans S5).trans S6).trans S7) n0 k8) e8 (D7.of_put (S7 _ _ (S6 _ _ (S5 _ _ e4))) k8 ?_) fun b hb o e => ?_
            · have : ∀ l : List (List Nat), D.nls (l.map fun q => dP (step :: q)) = true := fun l => by
                induction l with
                | nil => rfl
                | cons q l ih => simp only [List.map_cons, D.nls, dP_nl, ih, Bool.and_self]
              exact this _
            · rw [k8 b hb]
              exact S7 _ _ (S6 _ _ (S5 _ _ e))
      obtain ⟨Pv, hPv⟩ : ∃ Pv : Nat → St → Hp → Prop, ∀ i σ H', Pv i σ H' ↔ ∃ (o2 : Option V) (vs : List V), Same H H' ∧ H' p3 = some (.tup [.int 0, .int 1]) ∧ H' a = some (.tup [.str "knot", .str f, vl, vr]) ∧ H' p2 = some (.lst vs) ∧
        Dts H' ((([] : List Nat) :: ((if 1 ≤ i then l.pl.map (0 :: ·) else []) ++ (if 2 ≤ i then r.pl.map (1 :: ·) else []))).map dP) vs ∧ Dt H' (dT l) vl ∧ Dt H' (dT r) vr ∧ σ = [some (.ref a), some (.ref p2), o2] := ⟨_, fun _ _ _ => Iff.rfl⟩
      refine WalkT.for e3 Pv ((hPv _ _ _).mpr ⟨none, _, S12.trans S3, e3, S3 _ _ ea, S3 _ _ e2, .one (d0.same S3), hl'.same S3, hr'.same S3, rfl⟩) (fun i σ H' _ h => by obtain ⟨_, _, _, h, _⟩ := (hPv _ _ _).mp h; exact h) ?_ ?_
      · intro i x σ H4 ex h
        obtain ⟨o2, vs, S4, f3, fa, f2, D4, hl4, hr4, rfl⟩ := (hPv _ _ _).mp h
        have lvs := D4.length
        have b1 := M.pl_len_le l
        have b2 := M.pl_len_le r
        have hi : i < 2 := by have := (List.getElem?_eq_some_iff.mp ex).1; simpa using this
        have keep : ∀ {H5 : Hp} {ws : List V}, (∀ b, b ≠ p2 → ∀ o, H4 b = some o → H5 b = some o) → Tups H4 H5 := fun {H5 ws} k5 b xs e => k5 b (ne_of e f2 (by intro z; cases z)) _ e
        rcases (show i = 0 ∨ i = 1 by (first | (clear n1 e1 n2 e2 n0 hd ea hl n3 e3 n30 f3 fa f2 lvs b1 b2 ha2 ex; lia) | omega)) with rfl | rfl
        · cases ex
          walk_at "rd"
          refine ⟨ty_lst f2, _, items_t fa, _, atI_2, ?_⟩
          refine turn l vl 0 H4 vs (fun _ => Pv 1 _) (by (first | (clear n30 h32 ha2 f3 fa f2 b1 b2 lvs hi n1 e1 n2 e2 n0 n3 e3 hl ea; lia) | omega)) (by (first | (clear n30 h32 ha2 f3 fa f2 b1 b2 lvs hi n1 e1 n2 e2 n0 n3 e3 hd ea; lia) | omega)) S4 f2 hl4 (by simp at lvs; (first | (clear n1 e1 n2 e2 n0 hd ea hl n3 e3 n30 h32 ha2 f3 fa f2 b1 b2 hi; lia) | omega)) fun H5 ws S5 e5 D5 k5 => (hPv _ _ _).mpr ?_
          have U := keep (ws := ws) k5
          refine ⟨_, _, S5, U _ _ f3, U _ _ fa, e5, ?_, hl4.tups U (dT_nl l), hr4.tups U (dT_nl r), rfl⟩
          have D4' := D4.tups U (by simp [D.nls, dP_nl])
          simpa [Function.comp_def] using D4'.append D5
        · cases ex
          walk_at "rd"
          refine ⟨ty_lst f2, _, items_t fa, _, atI_3, ?_⟩
          refine turn r vr 1 H4 vs (fun _ => Pv 2 _) (by (first | (clear n30 h32 ha2 f3 fa f2 b1 b2 lvs hi n1 e1 n2 e2 n0 n3 e3 hl ea; lia) | omega)) (by (first | (clear n30 h32 ha2 f3 fa f2 b1 b2 lvs hi n1 e1 n2 e2 n0 n3 e3 hd ea; lia) | omega)) S4 f2 hr4 (by simp at lvs; (first | (clear n1 e1 n2 e2 n0 n30 h32 ha2 f3 fa n3 e3 f2 hd ea b2 hi; lia) | omega)) fun H5 ws S5 e5 D5 k5 => (hPv _ _ _).mpr ?_
          have U := keep (ws := ws) k5
          refine ⟨_, _, S5, U _ _ f3, U _ _ fa, e5, ?_, hl4.tups U (dT_nl l), hr4.tups U (dT_nl r), rfl⟩
          have nls : ∀ q : List (List Nat), D.nls (q.map dP) = true := fun q => by
            induction q with
            | nil => rfl
            | cons a q ih => simp only [List.map_cons, D.nls, dP_nl, ih, Bool.and_self]
          have D4' := D4.tups U (nls _)
          simpa [Function.comp_def] using D4'.append D5
      · intro σ H4 h
        obtain ⟨o2, vs, S4, f3, fa, f2, D4, hl4, hr4, rfl⟩ := (hPv _ _ _).mp h
        walk_at "rd"
        exact q p2 _ H4 S4 n0 f2 (by simpa [M.Tr.pl] using D4)
noncomputable def leafAt (t : L2.Tree) (p : List Nat) : Bool := match t.sub p with | some s => s.isL | none => false
noncomputable def lvp (t : L2.Tree) : List (List Nat) := t.pl.filter (leafAt t)
theorem lvp_wk (t : L2.Tree) : lvp t = ((t.wk []).filter (fun q => q.2.isL)).map (·.1) := M.pl_filter t _ fun q s h => by unfold leafAt; rw [M.Tr.sub_mem h]
noncomputable def spLeaves (n : Nat) : Sp := fun vs H Q _ => ∃ (t : L2.Tree) (v : V), vs = [v] ∧ Dt H (dT t) v ∧ t.dp ≤ n ∧ t.lv.length ≤ 5000 ∧ RetL H ((lvp t).map dP) Q
theorem ok_leaves (T : Txt K mg) (n : Nat) : FnOk P w K mg base CX0 (n + 3) T.f_leaves T.d_leaves ["tree"] (spLeaves n) := by
  refine T.F_leaves.ok (k := n + 2) sc_leaves (fun vs H Q E h => ?_) (fun cdv A outer s H vs Q E hr h => ?_)
  · obtain ⟨t, v, rfl, _⟩ := h
    rfl
  obtain ⟨t, v, rfl, ht, hd, hl, q⟩ := h
  have nd := sc_leaves.nd
  have G_is_leaf := (ok_leaf (P := P) (w := w) (base := base) T).mono (k := n + 2) (by (first | lia | omega))
  have G_part_at := (ok_part (P := P) (w := w) (base := base) T).mono (k := n + 2) (by (first | lia | omega))
  have G_places := ok_places (P := P) (w := w) (base := base) T n
  refine ⟨_, (pss_one (ps_ret (pe_comp (N := ["place", "tree"]) (caps := [0]) rfl ⟨rfl, rfl, rfl, rfl, by decide +kernel, rfl, rfl, rfl, rfl⟩ (piL (pe_call G_places hr rfl T.m_places T.F_places.kp T.b_places .nil pass0 (pa_cons (pv 0) pa_nil))) (fun _ _ _ _ => pif_one (pt_val (pe_call G_is_leaf hr rfl T.m_is_leaf T.F_is_leaf.kp T.b_is_leaf .nil pass0 (pa_cons (pe_call G_part_at hr rfl T.m_part_at T.F_part_at.kp T.b_part_at .nil pass0 (pa_cons (pv 1) (pa_cons (pv 0) pa_nil))) pa_nil)))) (fun _ _ _ _ => (pv 0))))), ?_⟩
  walk_at "rd"
  refine ⟨t, v, rfl, ht, hd, hl, fun p5 ys H5 S5 n5 e5 D5 => ?_⟩
  have l5 : ys.length = t.pl.length := by have := D5.length; simpa using this
  have l6 := M.pl_len_le t
  refine WalkL.comp e5 (fun i zs H' => H' = H5 ∧ zs.length ≤ i ∧ Dts H' (((t.pl.take i).filter (leafAt t)).map dP) zs) ⟨rfl, Nat.zero_le _, .nil⟩ (by (first | (clear n5 e5 hd; lia) | omega)) (fun i zs H' h => h.2.1) (fun i x zs H' ex S' h => ?_) (fun p7 zs H6 H7 S6 S7 h n7 e7 => ?_)
  · obtain ⟨rfl, hz, D6⟩ := h
    have hi : i < t.pl.length := by have := (List.getElem?_eq_some_iff.mp ex).1; (first | (clear hd hl n5 ex e5 l6 hz; lia) | omega)
    obtain ⟨v', hv', dv'⟩ := Dts.map_of D5 (List.getElem?_eq_getElem hi)
    rw [ex] at hv'; cases hv'
    obtain ⟨u, hu, _⟩ := M.pl_sub (List.getElem_mem hi)
    have hg : leafAt t t.pl[i] = u.isL := by unfold leafAt; rw [hu]
    walk_at "rd"
    refine ⟨t, u, _, v, x, rfl, ht.same S5, dv', hu, fun w' hw' => ⟨u, w', rfl, hw', _, rfl, ite2 (fun c => ?_) (fun c => ?_)⟩⟩
    · refine ⟨S', rfl, by simp; omega, ?_⟩
      rw [List.take_add_one, List.getElem?_eq_getElem hi, List.filter_append]
      simp only [Option.toList_some, List.filter_cons, List.filter_nil, hg, c, if_true, List.map_append, List.map_cons, List.map_nil]
      exact D6.append (.one dv')
    · have c : u.isL = false := by simpa using c
      refine ⟨S', rfl, by (first | (clear hd hl n5 l5 l6 ex hu hg c e5; lia) | omega), ?_⟩
      rw [List.take_add_one, List.getElem?_eq_getElem hi, List.filter_append]
      simp only [Option.toList_some, List.filter_cons, List.filter_nil, hg, c, Bool.false_eq_true, if_false, List.append_nil]
      exact D6
  · obtain ⟨rfl, hz, D6⟩ := h
    rw [l5, List.take_length] at D6
    exact q p7 zs H7 (S5.trans S7) (S5.free n7) e7 (D6.same S7)
noncomputable def spDeeper (n : Nat) : Sp := fun vs H Q _ => ∃ (t : L2.Tree) (v : V) (b : Nat), vs = [v, .int b] ∧ Dt H (dT t) v ∧ b ≤ n ∧ Q (.bl (decide (b < t.dp))) H
theorem ok_deeper (T : Txt K mg) : ∀ n : Nat, FnOk P w K mg base CX0 (n + 2) T.f_deeper_than T.d_deeper_than ["tree", "bound"] (spDeeper n) := by
  have main : ∀ n : Nat, (∀ m, n = m + 1 → FnOk P w K mg base CX0 (n + 1) T.f_deeper_than T.d_deeper_than ["tree", "bound"] (spDeeper m)) → FnOk P w K mg base CX0 (n + 2) T.f_deeper_than T.d_deeper_than ["tree", "bound"] (spDeeper n) := by
    intro n ih
    refine T.F_deeper_than.ok (k := n + 1) sc_deeper_than (fun vs H Q E h => ?_) (fun cdv A outer s H vs Q E hr h => ?_)
    · obtain ⟨t, v, b, rfl, _⟩ := h
      rfl
    obtain ⟨t, v, b, rfl, ht, hb, q⟩ := h
    have nd := sc_deeper_than.nd
    have G_is_leaf := (ok_leaf (P := P) (w := w) (base := base) T).mono (k := n + 1) (by (first | lia | omega))
    obtain ⟨sp, G_deeper_than, hsp⟩ : ∃ sp : Sp, FnOk P w K mg base CX0 (n + 1) T.f_deeper_than T.d_deeper_than ["tree", "bound"] sp ∧ ∀ m, n = m + 1 → sp = spDeeper m := by
      cases n with
      | zero => exact ⟨fun _ _ _ _ => False, ⟨fun _ _ _ _ h => h.elim, fun _ _ _ _ _ _ _ _ _ _ _ _ _ h => h.elim⟩, fun m h => by (first | lia | omega)⟩
      | succ m => exact ⟨_, ih m rfl, fun k h => by rw [show m = k by (first | lia | omega)]⟩
    refine ⟨_, (pss_cons (ps_if (pt_cmpR op_eq (pv 1) pe_int (nomark _)) (pss_one (ps_ret pe_bl)) pss_nil)
    (pss_cons (ps_if (pt_val (pe_call G_is_leaf hr rfl T.m_is_leaf T.F_is_leaf.kp T.b_is_leaf .nil pass0 (pa_cons (pv 0) pa_nil))) (pss_one (ps_ret pe_bl)) pss_nil)
    (pss_one (ps_ret (pe_or (pe_call G_deeper_than hr rfl T.m_deeper_than T.F_deeper_than.kp T.b_deeper_than .nil pass0 (pa_cons (pe_ix ixF (pv 0) pe_int (fun _ _ => rfl)) (pa_cons (pe_op op_sub (pv 1) pe_int) pa_nil))) (pe_one (pe_call G_deeper_than hr rfl T.m_deeper_than T.F_deeper_than.kp T.b_deeper_than .nil pass0 (pa_cons (pe_ix ixF (pv 0) pe_int (fun _ _ => rfl)) (pa_cons (pe_op op_sub (pv 1) pe_int) pa_nil))))))))), ?_⟩
    walk_at "rd"
    have hdp := t.dp_pos
    refine ite2 (fun c => ?_) (fun c => ?_)
    · have c : b = 0 := by have := of_decide_eq_true c; (first | lia | omega)
      rw [decide_eq_true (show b < t.dp by (first | lia | omega))] at q
      exact q
    have c : 0 < b := by have : ¬ b = 0 := fun z => c (by simp [z]); (first | lia | omega)
    refine ⟨t, v, rfl, ht, _, rfl, ?_⟩
    cases t with
    | leaf x =>
      refine iteT ?_
      rw [decide_eq_false (show ¬ b < (M.Tr.leaf x).dp by simp [M.Tr.dp]; omega)] at q
      exact q
    | knot f l r =>
      obtain ⟨a, vl, vr, rfl, ea, hl, hr'⟩ := dT_knot ht
      refine iteF ?_
      obtain ⟨m, rfl⟩ : ∃ m, n = m + 1 := ⟨n - 1, by (first | (clear hdp ea; lia) | omega)⟩
      rw [hsp m rfl]
      have hk : (M.Tr.knot f l r).dp = max l.dp r.dp + 1 := rfl
      have hb1 : ((b - 1 : Nat) : Int) = (b : Int) - 1 := by (first | (clear hb hk ea hdp; omega) | omega)
      refine ⟨a, rfl, _, items_t ea, vl, atI_2, l, vl, b - 1, by rw [hb1], hl, by (first | (clear c hdp ea hk; lia) | omega), _, rfl, ite2 (fun d => ?_) (fun d => ?_)⟩
      · have d := of_decide_eq_true d
        rw [decide_eq_true (show b < (M.Tr.knot f l r).dp by rw [hk]; (first | (clear c hdp ea hb hk hb1; lia) | omega))] at q
        exact q
      · have d : ¬ b - 1 < l.dp := fun z => d (decide_eq_true z)
        refine ⟨a, rfl, _, items_t ea, vr, atI_3, r, vr, b - 1, by rw [hb1], hr', by (first | (clear c hdp d ea hk; lia) | omega), ?_⟩
        have : decide (b < (M.Tr.knot f l r).dp) = decide (b - 1 < r.dp) := by rw [Bool.eq_iff_iff]; simp only [decide_eq_true_eq, hk]; (first | (clear c hdp ea hb hk; lia) | omega)
        rw [this] at q
        exact q
  intro n
  induction n with
  | zero => exact main 0 fun m h => by (first | lia | omega)
  | succ n ih => exact main (n + 1) (fun m h => by rw [show m = n by (first | lia | omega)]; exact ih)
/-! ### a formula is given, or refused -/
noncomputable def okN (x : Str) : Prop := x.length ≤ 2000 ∧ ∀ c ∈ x.cps.toList, c < 16 ^ 8
noncomputable def AN : L2.Tree → Prop
  | .leaf x => okN x
  | .knot f l r => okN f ∧ AN l ∧ AN r
theorem AN.wk : ∀ {t : L2.Tree} {p q : List Nat} {s : L2.Tree}, AN t → (q, s) ∈ t.wk p → okN s.name
  | .leaf x, p, q, s, h, m => by
    simp only [M.Tr.wk, List.mem_singleton, Prod.mk.injEq] at m
    rw [m.2]; exact h
  | .knot f l r, p, q, s, h, m => by
    simp only [M.Tr.wk, List.mem_cons, List.mem_append, Prod.mk.injEq] at m
    rcases m with m | m | m
    · rw [m.2]; exact h.1
    · exact AN.wk h.2.1 m
    · exact AN.wk h.2.2 m
/-- what is wrong first, of places in a row: 1 no name, 2 a name twice, 3 nothing -/
noncomputable def scan (seen : List Str) : List (List Nat × L2.Tree) → Nat
  | [] => 3
  | q :: qs => if nameOk q.2.name = true then (if q.2.isL = true then (if q.2.name ∈ seen then 2 else scan (seen ++ [q.2.name]) qs) else scan seen qs) else 1
theorem scan_at {l : List (List Nat × L2.Tree)} {i : Nat} {q : List Nat × L2.Tree} (h : l[i]? = some q) (seen : List Str) :
    scan seen (l.drop i) = if nameOk q.2.name = true then (if q.2.isL = true then (if q.2.name ∈ seen then 2 else scan (seen ++ [q.2.name]) (l.drop (i + 1))) else scan seen (l.drop (i + 1))) else 1 := by
  obtain ⟨hi, e⟩ := List.getElem?_eq_some_iff.mp h
  rw [List.drop_eq_getElem_cons hi, e, scan]
noncomputable def due (t : L2.Tree) : Nat := if 24 < t.dp ∨ 32 < t.lv.length then 0 else scan [] (t.wk [])
theorem dP_shw (p : List Nat) (h : ∀ i ∈ p, i < 2) : (dP p).shw := by
  simp only [dP, D.shw]
  induction p with
  | nil => trivial
  | cons i p ih =>
    simp only [List.map_cons, D.shws, D.shw]
    refine ⟨?_, ih fun j hj => h j (List.mem_cons_of_mem _ hj)⟩
    have := h i (List.mem_cons_self ..)
    rcases (show i = 0 ∨ i = 1 by (first | lia | omega)) with rfl | rfl <;> decide +kernel
theorem dP_wd (p : List Nat) : (dP p).wd = 1923 * p.length + 3 := by
  simp only [dP, D.wd]
  congr 1
  induction p with
  | nil => rfl
  | cons i p ih => simp only [List.map_cons, D.wds, D.wd, ih, List.length_cons]; (first | lia | omega)
theorem wk_bits : ∀ {t : L2.Tree} {p q : List Nat} {s : L2.Tree}, (∀ i ∈ p, i < 2) → (q, s) ∈ t.wk p → ∀ i ∈ q, i < 2
  | .leaf x, p, q, s, h, m => by
    simp only [M.Tr.wk, List.mem_singleton, Prod.mk.injEq] at m
    rw [m.1]; exact h
  | .knot f l r, p, q, s, h, m => by
    simp only [M.Tr.wk, List.mem_cons, List.mem_append, Prod.mk.injEq] at m
    rcases m with m | m | m
    · rw [m.1]; exact h
    · exact wk_bits (fun i hi => by rcases List.mem_append.mp hi with z | z; exact h i z; rw [List.mem_singleton.mp z]; decide) m
    · exact wk_bits (fun i hi => by rcases List.mem_append.mp hi with z | z; exact h i z; rw [List.mem_singleton.mp z]; decide) m
theorem slen (a b : Str) : (a ++ b).length = a.length + b.length := by simp only [len_cps, cps_append, List.length_append]
theorem len_nil : Str.empty.length = 0 := by decide +kernel
noncomputable def spSizeE (T : Txt K mg) : Sp := fun vs H Q E => ∃ (t : L2.Tree) (v : V), vs = [v] ∧ Dt H (dT t) v ∧ t.lv.length ≤ 5000 ∧ (t.dp ≤ 24 → t.lv.length ≤ 32 → ∀ H', Same H H' → Q .non H') ∧ (24 < t.dp ∨ 32 < t.lv.length → ∀ H', Same H H' → E (.ref T.C_TooBig) none H')
theorem ok_sizeE (T : Txt K mg) : FnOk P w K mg base (CXE P w) 28 T.f_check_size T.d_check_size ["tree"] (spSizeE T) := by
  refine T.F_check_size.okE (k := 27) sc_check_size (fun vs H Q E h => ?_) (fun cdv A outer s H vs Q E hr h L => ?_)
  · obtain ⟨t, v, rfl, _⟩ := h
    rfl
  obtain ⟨t, v, rfl, ht, hl, q, qe⟩ := h
  have nd := sc_check_size.nd
  have G_deeper_than := (ok_deeper (P := P) (w := w) (base := base) T 24).mono (k := 27) (by omega)
  have G_leaves := (ok_leaves (P := P) (w := w) (base := base) T 24).mono (k := 27) (by omega)
  refine ⟨_, (pss_cons (ps_if (pt_val (pe_call G_deeper_than hr rfl T.m_deeper_than T.F_deeper_than.kp T.b_deeper_than .nil pass0 (pa_cons (pv 0) (pa_cons (pe_glob (v := .int 24) rfl T.c_MOST_DEEP ⟨_, rfl⟩) pa_nil)))) (pss_one (ps_raise L rfl T.m_TooBig T.x_TooBig rfl (pa_cons (pe_js (.cons pe_str (.cons (pe_fmtI (pe_glob (v := .int 24) rfl T.c_MOST_DEEP ⟨_, rfl⟩)) (.cons pe_str .nil)))) pa_nil))) pss_nil)
    (pss_one (ps_if (pt_cmpR op_gt (pe_callB lenG rfl T.z_len bt_len (pa_cons (pe_call G_leaves hr rfl T.m_leaves T.F_leaves.kp T.b_leaves .nil pass0 (pa_cons (pv 0) pa_nil)) pa_nil)) (pe_glob (v := .int 32) rfl T.c_MOST_LEAVES ⟨_, rfl⟩) (nomark _)) (pss_one (ps_raise L rfl T.m_TooBig T.x_TooBig rfl (pa_cons (pe_js (.cons pe_str (.cons (pe_fmtI (pe_glob (v := .int 32) rfl T.c_MOST_LEAVES ⟨_, rfl⟩)) (.cons pe_str .nil)))) pa_nil))) pss_nil))), ?_⟩
  walk_at "rd"
  have zl : ∀ y : Nat, y ≤ 50000 → y ≤ sizeLine := fun y hy => small_le (by (first | lia | omega))
  have ln1 : (Str.ofString "the tree is more than ").length = 22 := by decide +kernel
  have ln2 : (Str.ofString " deep").length = 5 := by decide +kernel
  have ln3 : (Str.ofString "the tree has more than ").length = 23 := by decide +kernel
  have ln4 : (Str.ofString " leaves").length = 7 := by decide +kernel
  refine ⟨t, v, 24, rfl, ht, by omega, _, rfl, ite2 (fun c => ?_) (fun c => ?_)⟩
  · have c := of_decide_eq_true c
    refine ⟨zl _ ?_, by decide +kernel, fun z hz => ⟨zl _ ?_, zl _ ?_, zl _ ?_, by decide, qe (.inl c) H (Same.refl _)⟩⟩
    all_goals (simp only [slen, len_nil, ln1, ln2]; (first | (clear hl q qe ln1 ln2 ln3 ln4 c; lia) | omega))
  have c : ¬ 24 < t.dp := fun z => c (decide_eq_true z)
  refine ⟨t, v, rfl, ht, by (first | (clear hl q qe ln1 ln2 ln3 ln4; lia) | omega), by omega, fun p1 ys H1 S1 n1 e1 D1 => ?_⟩
  try (walk_at "rd")
  refine ⟨_, items_l e1, ?_⟩
  have l1 := D1.length
  have : ys.length = t.lv.length := by
    rw [l1, List.length_map, lvp_wk, List.length_map, ← M.Tr.wk_lv t [], List.length_map]
  refine ite2 (fun d => ?_) (fun d => ?_)
  · have d : 32 < t.lv.length := by have := of_decide_eq_true d; (first | (clear hl q qe ln1 ln2 ln3 ln4 c n1 e1 l1 d; omega) | omega)
    refine ⟨zl _ ?_, by decide +kernel, fun z hz => ⟨zl _ ?_, zl _ ?_, zl _ ?_, by decide, qe (.inr d) H1 S1⟩⟩
    all_goals (simp only [slen, len_nil, ln3, ln4]; omega)
  · have d : ¬ 32 < t.lv.length := fun z => d (decide_eq_true (by (first | (clear hl q qe ln1 ln2 ln3 ln4 c n1 e1 l1 d; omega) | omega)))
    exact q (by (first | (clear hl q qe ln1 ln2 ln3 ln4 this d e1; lia) | omega)) (by (first | (clear hl q qe ln1 ln2 ln3 ln4 c n1 e1 l1 this; lia) | omega)) H1 S1
noncomputable def spNamesE (T : Txt K mg) : Sp := fun vs H Q E => ∃ (t : L2.Tree) (v : V), vs = [v] ∧ Dt H (dT t) v ∧ t.dp ≤ 24 ∧ t.lv.length ≤ 32 ∧ AN t ∧ (scan [] (t.wk []) = 3 → ∀ H', Same H H' → Q .non H') ∧
  (scan [] (t.wk []) = 1 → ∀ H', Same H H' → E (.ref T.C_NoName) none H') ∧ (scan [] (t.wk []) = 2 → ∀ H', Same H H' → E (.ref T.C_Twice) none H')
theorem ok_namesE (T : Txt K mg) : FnOk P w K mg base (CXE P w) 28 T.f_check_names T.d_check_names ["tree"] (spNamesE T) := by
  refine T.F_check_names.okE (k := 27) sc_check_names (fun vs H Q E h => ?_) (fun cdv A outer s H vs Q E hr h L => ?_)
  · obtain ⟨t, v, rfl, _⟩ := h
    rfl
  obtain ⟨t, v, rfl, ht, hd, hl, hn, q, q1, q2⟩ := h
  have nd := sc_check_names.nd
  have G_is_leaf := (ok_leaf (P := P) (w := w) (base := base) T).mono (k := 27) (by omega)
  have G_is_name := (ok_name (P := P) (w := w) (base := base) T).mono (k := 27) (by omega)
  have G_part_at := (ok_part (P := P) (w := w) (base := base) T).mono (k := 27) (by omega)
  have G_places := (ok_places (P := P) (w := w) (base := base) T 24).mono (k := 27) (by omega)
  refine ⟨_, (pss_cons (ps_let (i := 1) nd rfl (Or.inl rfl) pe_dnewK)
    (pss_one (ps_for PassesOwn.leaving rfl (piL (pe_call G_places hr rfl T.m_places T.F_places.kp T.b_places .nil pass0 (pa_cons (pv 0) pa_nil))) (pg_name (i := 2) nd rfl (Or.inl rfl)) (pss_cons (ps_let (i := 3) nd rfl (Or.inl rfl) (pe_call G_part_at hr rfl T.m_part_at T.F_part_at.kp T.b_part_at .nil pass0 (pa_cons (pv 0) (pa_cons (pv 2) pa_nil))))
      (pss_cons (ps_let (i := 4) nd rfl (Or.inl rfl) (pe_ix ixF (pv 3) pe_int (fun _ _ => rfl)))
      (pss_cons (ps_if (pt_not (pt_val (pe_call G_is_name hr rfl T.m_is_name T.F_is_name.kp T.b_is_name .nil pass0 (pa_cons (pv 4) pa_nil)))) (pss_one (ps_raise L rfl T.m_NoName T.x_NoName rfl (pa_cons (pe_js (.cons (pe_fmtR (pv 4)) (.cons pe_str (.cons (pe_fmtD hr (pv 2)) (.cons pe_str .nil))))) pa_nil))) pss_nil)
      (pss_one (ps_if (pt_val (pe_call G_is_leaf hr rfl T.m_is_leaf T.F_is_leaf.kp T.b_is_leaf .nil pass0 (pa_cons (pv 3) pa_nil))) (pss_cons (ps_if (pt_cmp (pc_din (hu_of hr) (pv 4) (pv 1))) (pss_one (ps_raise L rfl T.m_Twice T.x_Twice rfl (pa_cons (pe_js (.cons pe_str (.cons (pe_fmtD hr (pv 2)) (.cons pe_str (.cons (pe_fmtR (pv 4)) (.cons pe_str .nil)))))) pa_nil))) pss_nil)
        (pss_one (ps_dput (hu_of hr) (pv 1) (pv 4) pe_bl rfl))) pss_nil)))))))), ?_⟩
  walk_at "rd"
  refine NewO.mk fun pd H1 S1 n1 e1 => ?_
  refine ⟨t, v, rfl, ht.same S1, hd, by (first | lia | omega), fun p2 ys H2 S2 n2 e2 D2 => ?_⟩
  have l2 : ys.length = t.pl.length := by have := D2.length; simpa using this
  have pll := M.pl_len_le t
  have wl : t.pl.length = (t.wk []).length := by rw [M.Tr.pl_wk, List.length_map]
  have zl : ∀ y : Nat, y ≤ 90000 → y ≤ sizeLine := fun y hy => small_le (by (first | (clear hd hl q q1 q2 n1 e1 n2 e2 l2 pll wl; lia) | omega))
  obtain ⟨Pv, hPv⟩ : ∃ Pv : Nat → St → Hp → Prop, ∀ i σ H', Pv i σ H' ↔ ∃ (kvs : List (Key × V)) (o2 o3 o4 : Option V), Same H H' ∧ H' pd = some (.dK kvs) ∧ H' p2 = some (.lst ys) ∧ Dt H' (dT t) v ∧ Dts H' (t.pl.map dP) ys ∧ kvs.length ≤ i ∧
    scan [] (t.wk []) = scan ((((t.wk []).take i).filter (fun q => q.2.isL)).map (fun q => q.2.name)) ((t.wk []).drop i) ∧
    (∀ x : Str, (valV kvs (Sum.inr x)).isSome = true ↔ x ∈ (((t.wk []).take i).filter (fun q => q.2.isL)).map (fun q => q.2.name)) ∧ σ = [some v, some (.ref pd), o2, o3, o4] := ⟨_, fun _ _ _ => Iff.rfl⟩
  refine WalkL.for e2 Pv ((hPv _ _ _).mpr ⟨[], none, none, none, S1.trans S2, S2 _ _ e1, e2, ht.same (S1.trans S2), D2, Nat.zero_le _, rfl, by simp [valV_nil], rfl⟩) (fun i σ H' _ h => by obtain ⟨_, _, _, _, _, _, h, _⟩ := (hPv _ _ _).mp h; exact h) ?_ ?_
  · intro i y σ H3 ey h
    obtain ⟨kvs, o2, o3, o4, S3, ed, e3, ht3, D3, hk, hsc, hv, rfl⟩ := (hPv _ _ _).mp h
    have hi : i < t.pl.length := by have := (List.getElem?_eq_some_iff.mp ey).1; (first | (clear hd hl q q1 q2 n1 e1 n2 e2 ey ed e3 wl hk pll hsc; lia) | omega)
    obtain ⟨q0, hq0⟩ : ∃ q0, (t.wk [])[i]? = some q0 := ⟨_, List.getElem?_eq_getElem (by (first | (clear hd hl q q1 q2 n1 e1 n2 e2 ey ed e3 l2 pll hsc; lia) | omega))⟩
    have hpl : t.pl[i]? = some q0.1 := by rw [M.Tr.pl_wk, List.getElem?_map, hq0]; rfl
    obtain ⟨v', hv', dv'⟩ := Dts.map_of D3 hpl
    rw [ey] at hv'; cases hv'
    rw [scan_at hq0] at hsc
    obtain ⟨qp, qs⟩ := q0
    have hm := List.mem_of_getElem? hq0
    have hsub := M.Tr.sub_mem hm
    have hbits := wk_bits (p := []) (by simp) hm
    have hplen := t.wk_plen [] _ _ hm
    simp only [List.length_nil, Nat.zero_add] at hplen
    have okn := hn.wk hm
    obtain ⟨yp, rfl, eyp⟩ := dP_of dv'
    walk_at "rd"
    refine ⟨t, qs, qp, v, .ref yp, rfl, ht3, dv', hsub, fun w' hw' => ?_⟩
    obtain ⟨a, r, rfl, ea⟩ := dT_any hw'
    walk_at "rd"
    refine ⟨_, items_t ea, _, atI_1, ?_⟩
    refine ⟨_, rfl, Nat.le_trans okn.1 (by decide), fun H4 S4 => ?_⟩
    walk_at "rd"
    have tk : (((t.wk []).take (i + 1)).filter (fun q => q.2.isL)).map (fun q => q.2.name) = (((t.wk []).take i).filter (fun q => q.2.isL)).map (fun q => q.2.name) ++ (if qs.isL = true then [qs.name] else []) := by
      rw [List.take_add_one, hq0, List.filter_append, List.map_append]
      congr 1
      simp only [Option.toList_some, List.filter_cons, List.filter_nil]
      split <;> rfl
    have U4 : ∀ {b o}, H3 b = some o → H4 b = some o := fun h => S4 _ _ h
    have dy4 := dv'.same S4
    have wd4 : (dP qp).wd ≤ 60000 := by rw [dP_wd]; (first | (clear n2 e2 l2 pll wl ed e3 eyp ey ea tk q2 n1 e1 hk hi hsc hq0 hpl q q1 hl hsub; lia) | omega)
    have okl := okn.1
    have lna : (Str.ofString " at ").length = 4 := by decide +kernel
    have lnb : (Str.ofString " is no name").length = 11 := by decide +kernel
    have lnc : (Str.ofString "the leaf at ").length = 12 := by decide +kernel
    have lnd : (Str.ofString " is called ").length = 11 := by decide +kernel
    have lne : (Str.ofString " like one ahead of it").length = 21 := by decide +kernel
    cases c0 : nameOk qs.name with
    | false =>
      rw [c0, if_neg (by simp)] at hsc
      refine iteT ⟨okn.2, by (first | (clear hd hl q q1 q2 n1 e1 n2 e2 l2 pll wl ed e3 hk hi hsc hq0 hpl hsub hplen eyp ey ea tk wd4 lne c0 lnc lnd lnb lna; lia) | omega), fun z hz => ⟨zl _ ?_, zl _ ?_, ⟨_, rfl⟩, dP qp, dy4, dP_shw _ hbits, by rw [dP_dp]; (first | (clear hd hl q q1 q2 n1 e1 n2 e2 l2 pll wl ed e3 hk hi hsc hq0 hpl hsub hplen eyp ey ea tk wd4 okl lna lnb lnc lnd lne c0 hz; omega) | omega), by (first | (clear hd hl q q1 q2 n1 e1 n2 e2 l2 pll wl ed e3 hk hi hsc okl lna lnb lnc lnd lne c0 hz hq0 hpl hsub hplen eyp ey ea tk; lia) | omega), fun z2 hz2 => ⟨zl _ ?_, zl _ ?_, zl _ ?_, by decide, q1 hsc H4 (S3.trans S4)⟩⟩⟩
      all_goals (simp only [slen, len_nil, lna, lnb]; (first | (clear hd hl q q1 q2 n1 e1 n2 e2 l2 pll wl ed e3 hk hi hsc hq0 hpl hsub hplen eyp ey tk lnc lnd lne lnb c0 lna; lia) | omega))
    | true =>
    rw [c0, if_pos rfl] at hsc
    refine iteF ⟨qs, .ref a, rfl, hw'.same S4, _, rfl, ite2 (fun c => ?_) (fun c => ?_)⟩
    · rw [if_pos c] at tk hsc
      refine ⟨_, DGet.k (k := Sum.inr qs.name) (U4 ed), ?_⟩
      cases vn : valV kvs (Sum.inr qs.name) with
      | some y0 =>
        have hin := (hv qs.name).mp (by rw [vn]; rfl)
        rw [if_pos hin] at hsc
        refine iteT ⟨zl _ ?_, ⟨_, rfl⟩, dP qp, dy4, dP_shw _ hbits, by rw [dP_dp]; (first | (clear hd hl q q1 q2 n1 e1 n2 e2 l2 pll wl ed e3 hk hi hsc hq0 hpl hsub hplen eyp ey ea tk wd4 okl lna lnb lnc lnd lne c0 c vn; omega) | omega), by (first | (clear hd hl q q1 q2 n1 e1 n2 e2 l2 pll wl ed e3 hk hi hsc hq0 lna lnb lnc lnd lne c0 c vn hpl hsub hplen eyp ey okl ea tk; lia) | omega), fun z hz => ⟨zl _ ?_, zl _ ?_, okn.2, by (first | (clear hd hl q q1 q2 n1 e1 n2 e2 l2 pll wl ed e3 hk hi hsc hq0 lna lnb lnc lnd lne c0 c vn hz hpl hsub hplen eyp ey ea tk wd4; lia) | omega), fun z2 hz2 => ⟨zl _ ?_, zl _ ?_, zl _ ?_, by decide, q2 hsc H4 (S3.trans S4)⟩⟩⟩
        all_goals (simp only [slen, len_nil, lnc, lnd, lne]; (first | (clear hd hl q q1 q2 n1 e1 n2 e2 l2 pll wl ed e3 hk hi hsc hq0 hpl hsub hplen eyp ey ea tk lna lnb lnc lnd lne c0 c vn; omega) | omega))
      | none =>
      have nin : qs.name ∉ (((t.wk []).take i).filter (fun q => q.2.isL)).map (fun q => q.2.name) := fun z => by
        have := (hv qs.name).mpr z
        rw [vn] at this
        cases this
      rw [if_neg nin] at hsc
      refine iteF ⟨_, DPut.k (k := Sum.inr qs.name) (U4 ed) (small_size (by (first | (clear hpl hsub hplen eyp ey ea tk wd4 okl lna lnb lnc lnd lne c0 c vn nin n1 e1 n2 e2 l2 wl ed e3 hq0 q q1 hsc hd q2; lia) | omega))), (hPv _ _ _).mpr ?_⟩
      have Ut : Tups H4 (upd H4 pd (.dK (putK kvs (Sum.inr qs.name) (V.bl true)))) := fun b xs e => by rw [upd_ne (ne_of e (U4 ed) (by intro z; cases z))]; exact e
      refine ⟨_, _, _, _, (S3.trans S4).put n1 _, upd_same, by rw [upd_ne (ne_of (U4 e3) (U4 ed) (by intro z; cases z))]; exact U4 e3, (ht3.same S4).tups Ut (dT_nl t), (D3.same S4).tups Ut ?_, ?_, by rw [tk]; exact hsc, fun x => ?_, rfl⟩
      · have : ∀ l : List (List Nat), D.nls (l.map dP) = true := fun l => by
          induction l with
          | nil => rfl
          | cons q l ih => simp only [List.map_cons, D.nls, dP_nl, ih, Bool.and_self]
        exact this _
      · have := length_putK kvs (Sum.inr qs.name) (V.bl true)
        (first | (clear hd hl q q1 q2 n1 e1 n2 e2 l2 hplen eyp ey ea tk wd4 okl lna lnb lnc hi hsc hq0 hpl hsub lnd lne c0 c vn pll wl ed e3 nin; lia) | omega)
      · rw [tk, valV_put, List.mem_append, List.mem_singleton, ← hv x]
        by_cases z : x = qs.name
        · rw [if_pos (by rw [z])]; simp [z]
        · rw [if_neg (fun e => z (Sum.inr.inj e))]; simp [z]
    · rw [if_neg c] at tk hsc
      rw [List.append_nil] at tk
      exact (hPv _ _ _).mpr ⟨kvs, _, _, _, S3.trans S4, U4 ed, U4 e3, ht3.same S4, D3.same S4, by (first | (clear hq0 hpl hsub hplen eyp ey ea tk wd4 okl lna lnb lnc lnd lne c0 c hd hl q q1 q2 n1 e1 n2 e2 l2 pll wl ed e3 hsc hi; lia) | omega), by rw [tk]; exact hsc, fun x => by rw [tk]; exact hv x, rfl⟩
  · intro σ H' h
    obtain ⟨kvs, o2, o3, o4, S3, ed, e3, ht3, D3, hk, hsc, hv, rfl⟩ := (hPv _ _ _).mp h
    rw [show ys.length = (t.wk []).length by (first | (clear hd hl q q1 q2 n1 e1 n2 ed e3 hk hsc e2 pll; lia) | omega), List.drop_length] at hsc
    exact q hsc H' S3
noncomputable def spFormulaE (T : Txt K mg) : Sp := fun vs H Q E => ∃ (t : L2.Tree) (v : V), vs = [v] ∧ Dt H (dT t) v ∧ t.lv.length ≤ 5000 ∧ AN t ∧ (due t = 3 → ∀ H', Same H H' → Q v H') ∧
  (due t = 0 → ∀ H', Same H H' → E (.ref T.C_TooBig) none H') ∧ (due t = 1 → ∀ H', Same H H' → E (.ref T.C_NoName) none H') ∧ (due t = 2 → ∀ H', Same H H' → E (.ref T.C_Twice) none H')
theorem ok_formulaE (T : Txt K mg) : FnOk P w K mg base (CXE P w) 29 T.f_formula T.d_formula ["tree"] (spFormulaE T) := by
  refine T.F_formula.okE (k := 28) sc_formula (fun vs H Q E h => ?_) (fun cdv A outer s H vs Q E hr h L => ?_)
  · obtain ⟨t, v, rfl, _⟩ := h
    rfl
  obtain ⟨t, v, rfl, ht, hl, hn, q3, q0, q1, q2⟩ := h
  have nd := sc_formula.nd
  have G_check_size := ok_sizeE (P := P) (w := w) (base := base) T
  have G_check_names := ok_namesE (P := P) (w := w) (base := base) T
  refine ⟨_, (pss_cons (ps_expr (pe_call G_check_size hr rfl T.m_check_size T.F_check_size.kp T.b_check_size .nil (passE L) (pa_cons (pv 0) pa_nil)))
    (pss_cons (ps_expr (pe_call G_check_names hr rfl T.m_check_names T.F_check_names.kp T.b_check_names .nil (passE L) (pa_cons (pv 0) pa_nil)))
    (pss_one (ps_ret (pv 0))))), ?_⟩
  walk_at "rd"
  refine ⟨t, v, rfl, ht, hl, fun c1 c2 H1 S1 => ?_, fun c => q0 (by unfold due; rw [if_pos c])⟩
  have dd : due t = scan [] (t.wk []) := by unfold due; rw [if_neg (by (first | (clear hl q3 q0 q1; lia) | omega))]
  rw [dd] at q3 q1 q2
  exact ⟨t, v, rfl, ht.same S1, c1, c2, hn, fun z H2 S2 => q3 z H2 (S1.trans S2), fun z H2 S2 => q1 z H2 (S1.trans S2), fun z H2 S2 => q2 z H2 (S1.trans S2)⟩
/-! ### the end of a name -/
noncomputable def spNameEnd : Sp := fun vs H Q _ => ∃ (z : Str) (s : Nat), vs = [.str z, .int s] ∧ z.length ≤ 50000 ∧ s ≤ z.length ∧ Q (.int (nameEnd z.cps.toList s)) H
theorem ok_nameend (T : Txt K mg) : FnOk P w K mg base CX0 1 T.f_name_end T.d_name_end ["text", "start"] spNameEnd := by
  refine T.F_name_end.ok (k := 0) sc_name_end (fun vs H Q E h => ?_) (fun cdv A outer s H vs Q E hr h => ?_)
  · obtain ⟨z, s, rfl, _⟩ := h
    rfl
  obtain ⟨z, st, rfl, hz, hs, q⟩ := h
  have nd := sc_name_end.nd
  refine ⟨_, (pss_cons (ps_let (i := 2) nd rfl (Or.inl rfl) (pv 1))
    (pss_cons (ps_while PassesOwn.never (PW.pt (pw_and (pt_cmpR op_lt (pv 2) (pe_callB call_len_str rfl T.z_len bt_len (pa_cons (pv 0) pa_nil)) (nomark _)) (pw_and1 (pt_cmpR op_notin_str (pe_ix ix_str (pv 0) (pv 2) (fun _ _ => rfl)) pe_str (by with_unfolding_all rfl))))) (pss_one (ps_aug (i := 2) nd rfl (Or.inl rfl) pe_int ip_add)))
    (pss_one (ps_ret (pv 2))))), ?_⟩
  walk_at "rd"
  have zl : z.length ≤ sizeLine := small_le (by (first | lia | omega))
  have lz := len_cps z
  obtain ⟨W, hW⟩ : ∃ W : Nat → St → Hp → Prop, ∀ m σ H', W m σ H' ↔ H' = H ∧ ∃ e : Nat, m = z.length - e ∧ st ≤ e ∧ e ≤ z.length ∧ nameEnd z.cps.toList e = nameEnd z.cps.toList st ∧ σ = [some (V.str z), some (V.int st), some (V.int e)] := ⟨_, fun _ _ _ => Iff.rfl⟩
  refine ⟨W, ⟨_, (hW _ _ _).mpr ⟨rfl, st, rfl, Nat.le_refl _, hs, rfl, rfl⟩⟩, ?_⟩
  intro m σ H' h
  obtain ⟨rfl, e, rfl, h1, h2, h3, rfl⟩ := (hW _ _ _).mp h
  have step : ∀ c, z.cps.toList[e]? = some c → nameEnd z.cps.toList e = if isSign c = true then e else nameEnd z.cps.toList (e + 1) := fun c hc => by
    obtain ⟨hi, e2⟩ := List.getElem?_eq_some_iff.mp hc
    unfold nameEnd
    rw [List.drop_eq_getElem_cons hi, e2, List.takeWhile_cons]
    cases isSign c
    · simp; (first | (clear hz hs zl lz h1 h2 h3 hc hi e2; lia) | omega)
    · simp
  walk_at "rd"
  refine ⟨zl, ite2 (fun c => ?_) (fun c => ?_)⟩
  · have c : e < z.length := by have := of_decide_eq_true c; (first | (clear hz hs zl lz h1 h2 h3 c; omega) | omega)
    obtain ⟨ch, hc⟩ : ∃ ch, z.cps.toList[e]? = some ch := ⟨_, List.getElem?_eq_getElem (by (first | (clear hz hs zl h1 h3; omega) | omega))⟩
    have sc := step ch hc
    refine ⟨zl, ch, atI_nat hc, ?_⟩
    rw [sign_in]
    cases hsg : isSign ch with
    | true =>
      rw [hsg, if_pos rfl] at sc
      refine iteF ?_
      rw [← h3, sc] at q
      exact q
    | false =>
      rw [hsg, if_neg (by simp)] at sc
      refine iteT ⟨fun σ' H' => ∃ m', m' < z.length - e ∧ W m' σ' H', fun _ _ z => z, ?_⟩
      exact ⟨z.length - (e + 1), by (first | (clear hz hs zl lz h1 h2 sc hsg hc h3; omega) | omega), (hW _ _ _).mpr ⟨rfl, e + 1, rfl, by (first | (clear h3 c hc sc hsg hz hs zl h2 lz; lia) | omega), by (first | (clear hz hs zl lz h1 h2 sc hsg hc h3; omega) | omega), by rw [← sc]; exact h3, by push_cast; rfl⟩⟩
  · have c : e = z.length := by have : ¬ e < z.length := fun y => c (decide_eq_true (by (first | (clear hz hs zl lz h1 h2 h3 c; omega) | omega))); (first | (clear hz hs zl lz h1 h3 c; lia) | omega)
    have : nameEnd z.cps.toList e = e := by
      unfold nameEnd
      rw [List.drop_eq_nil_of_le (by (first | (clear hz hs zl h1 h3; lia) | omega))]; simp
    rw [← h3, this] at q
    exact q
/-! ### reading, with refusals -/
noncomputable def lowT (n : Nat) (x : Str) : Prop := x.length ≤ n ∧ ∀ c ∈ x.cps.toList, c < 16 ^ 8
theorem line_le {n : Nat} (h : n ≤ 1000000) : n ≤ sizeLine := Nat.le_trans h (by decide)
noncomputable def spPastE (C : Addr) : Sp := fun vs H Q E => ∃ (z : Str) (m c : Nat), vs = [.str z, .int m, .str ⟨#[c]⟩] ∧ lowT 1900 z ∧ m ≤ z.length ∧ c < 16 ^ 8 ∧ (z.cps.toList[m]? = some c → Q (.int (m + 1 : Nat)) H) ∧ (¬ z.cps.toList[m]? = some c → ∀ H', Same H H' → E (.ref C) none H')
seal PSs PS PE PT PA PI PIfs in
theorem ok_pastE (T : Txt K mg) : FnOk P w K mg base (CXE P w) 1 T.f_past T.d_past ["text", "at", "sign"] (spPastE T.C_NoText) := by
  refine T.F_past.okE (k := 0) sc_past (fun vs H Q E h => ?_) (fun cdv A outer s H vs Q E hr h L => ?_)
  · obtain ⟨z, m, c, rfl, _⟩ := h
    rfl
  obtain ⟨z, m, c, rfl, hz, hm, hc, q, qE⟩ := h
  have nd := sc_past.nd
  have lz := len_cps z
  have hzl := hz.1
  refine ⟨_, (pss_cons (ps_if (pt_cmpR op_ne (pe_slice sl_str (pv 0) (po_some (pv 1)) (po_some (pe_op op_add (pv 1) pe_int))) (pv 2) (nomark _)) (pss_one (ps_raise L rfl T.m_NoText T.x_NoText rfl (pa_cons (pe_js (.cons pe_str (.cons (pe_fmtR (pv 2)) (.cons pe_str (.cons (pe_fmtI (pv 1)) (.cons pe_str (.cons (pe_fmtR (pv 0)) .nil))))))) pa_nil))) pss_nil)
    (pss_one (ps_ret (pe_op op_add (pv 1) pe_int)))), ?_⟩
  walk_at "rd"
  refine ⟨line_le (by (first | (clear hm hc q qE lz; lia) | omega)), ?_⟩
  rw [slice_is' z hm]
  by_cases h : z.cps.toList[m]? = some c
  · rw [decide_eq_true h]
    exact iteF (by simpa using q h)
  · rw [decide_eq_false h]
    have l1 : (Str.ofString "no ").length = 3 := by decide +kernel
    have l2 : (Str.ofString " at sign ").length = 9 := by decide +kernel
    have l3 : (Str.ofString " of ").length = 4 := by decide +kernel
    have l0 := len_nil
    have lc : (⟨#[c]⟩ : Str).length = 1 := rfl
    have lm : ((m : Int)).natAbs.log2 < 1920 := Nat.lt_of_le_of_lt (Nat.log2_le_self _) (by (first | (clear h l1 l2 l3 l0 lc q qE hc lz; lia) | omega))
    refine iteT ⟨line_le (by rw [slen]; (first | (clear hm hc q qE lz hzl h l2 l3 lc; lia) | omega)), fun d hd => by rw [List.mem_singleton.mp hd]; exact hc, by rw [lc]; decide, fun z1 h1 => ⟨line_le (by rw [slen, slen]; (first | (clear hm hc q qE lz hzl h l2 l3 lm; lia) | omega)), line_le (by rw [slen, slen, slen]; (first | (clear hm hc q qE lz hzl h l3 lm; lia) | omega)), lm, fun z2 h2 => ⟨line_le (by rw [slen, slen, slen, slen]; (first | (clear hm hc q qE lz hzl h l3 lm; lia) | omega)), line_le (by rw [slen, slen, slen, slen, slen]; (first | (clear hm hc q qE lz hzl h lm; lia) | omega)), hz.2, by (first | (clear l2 l3 l0 lc lm h1 h2 hm hc q qE h l1 lz; lia) | omega), fun z3 h3 => ⟨line_le (by rw [slen, slen, slen, slen, slen, slen]; (first | (clear hm hc q qE lz h lm; lia) | omega)), line_le (by rw [slen, slen, slen, slen, slen, slen]; (first | (clear hm hc q qE lz h lm; lia) | omega)), by decide, qE h H (Same.refl _)⟩⟩⟩⟩
noncomputable def dF (r : L2.Tree × Nat) : D := .tup [dT r.1, .int (r.2 : Int)]
noncomputable def spFromE (C : Addr) (n : Nat) : Sp := fun vs H Q E => ∃ (z : Str) (s m : Nat), vs = [.str z, .int s, .int m] ∧ lowT 1900 z ∧ s ≤ z.length ∧ 1 ≤ m ∧ m + n = 25 ∧ (∀ r, tf z.cps.toList n s = some r → RetD H (dF r) Q) ∧ (tf z.cps.toList n s = none → ∀ H', Same H H' → E (.ref C) none H')
seal PSs PS PE PT PA PI PIfs in
theorem ok_fromE (T : Txt K mg) : ∀ n : Nat, FnOk P w K mg base (CXE P w) (n + 2) T.f_tree_from T.d_tree_from ["text", "start", "level"] (spFromE T.C_NoText n)
  | 0 => by
    refine T.F_tree_from.okE (k := 1) sc_tree_from (fun vs H Q E h => ?_) (fun cdv A outer s H vs Q E hr h L => ?_)
    · obtain ⟨z, s, m, rfl, _⟩ := h
      rfl
    obtain ⟨z, st, m, rfl, hz, hs, hm1, hm, q, qE⟩ := h
    have nd := sc_tree_from.nd
    have hzl := hz.1
    have G_name_end := (ok_nameend (P := P) (w := w) (base := base) T).mono (k := 1) (by omega)
    have G_past := (ok_pastE (P := P) (w := w) (base := base) T).mono (k := 1) (by omega)
    have G_tree_from : FnOk P w K mg base (CXE P w) 1 T.f_tree_from T.d_tree_from ["text", "start", "level"] (fun _ _ _ _ => False) := ⟨fun _ _ _ _ h => h.elim, fun _ _ _ _ _ _ _ _ _ _ _ _ _ h => h.elim⟩
    refine ⟨_, (pss_cons (ps_if (pt_cmpR op_gt (pv 2) (pe_glob (v := .int 24) rfl T.c_MOST_DEEP ⟨_, rfl⟩) (nomark _)) (pss_one (ps_raise L rfl T.m_NoText T.x_NoText rfl (pa_cons (pe_js (.cons pe_str (.cons (pe_fmtI (pe_glob (v := .int 24) rfl T.c_MOST_DEEP ⟨_, rfl⟩)) (.cons pe_str (.cons (pe_fmtR (pv 0)) .nil))))) pa_nil))) pss_nil)
    (pss_cons (ps_let (i := 3) nd rfl (Or.inl rfl) (pe_call G_name_end hr rfl T.m_name_end T.F_name_end.kp T.b_name_end .nil pass0 (pa_cons (pv 0) (pa_cons (pv 1) pa_nil))))
    (pss_cons (ps_let (i := 4) nd rfl (Or.inl rfl) (pe_slice sl_str (pv 0) (po_some (pv 1)) (po_some (pv 3))))
    (pss_cons (ps_if (pt_cmpR op_ne (pe_slice sl_str (pv 0) (po_some (pv 3)) (po_some (pe_op op_add (pv 3) pe_int))) pe_str (nomark _)) (pss_one (ps_ret (pe_tup (pa_cons (pe_tup (pa_cons pe_str (pa_cons (pv 4) pa_nil))) (pa_cons (pv 3) pa_nil))))) pss_nil)
    (pss_cons (ps_let (i := 5) nd rfl (Or.inl rfl) (pe_call G_tree_from hr rfl T.m_tree_from T.F_tree_from.kp T.b_tree_from .nil (passE L) (pa_cons (pv 0) (pa_cons (pe_op op_add (pv 3) pe_int) (pa_cons (pe_op op_add (pv 2) pe_int) pa_nil)))))
    (pss_cons (ps_let (i := 6) nd rfl (Or.inl rfl) (pe_call G_tree_from hr rfl T.m_tree_from T.F_tree_from.kp T.b_tree_from .nil (passE L) (pa_cons (pv 0) (pa_cons (pe_call G_past hr rfl T.m_past T.F_past.kp T.b_past .nil (passE L) (pa_cons (pv 0) (pa_cons (pe_ix ixF (pv 5) pe_int (fun _ _ => rfl)) (pa_cons pe_str pa_nil)))) (pa_cons (pe_op op_add (pv 2) pe_int) pa_nil)))))
    (pss_one (ps_ret (pe_tup (pa_cons (pe_tup (pa_cons pe_str (pa_cons (pv 4) (pa_cons (pe_ix ixF (pv 5) pe_int (fun _ _ => rfl)) (pa_cons (pe_ix ixF (pv 6) pe_int (fun _ _ => rfl)) pa_nil))))) (pa_cons (pe_call G_past hr rfl T.m_past T.F_past.kp T.b_past .nil (passE L) (pa_cons (pv 0) (pa_cons (pe_ix ixF (pv 6) pe_int (fun _ _ => rfl)) (pa_cons pe_str pa_nil)))) pa_nil))))))))))), ?_⟩
    refine cutC1 fun C hC => ?_
    rw [a_tSeq]
    simp only [a_tLenS, a_tFor, a_tSet, a_tSetC, a_tVar, a_tC, a_tB, a_tAnd, a_tOr, a_tNot, a_tAndV, a_tOrV, a_tNext, a_tDrop, a_tRet, a_tIfS, a_gName, a_gNil, a_gCons, a_gTup, a_gSub, a_tAsg, a_tAug, a_iRng1, a_tOp, a_rI, a_rI0, a_rEq, a_rNe, a_tTest, a_tChain, a_tNil, a_tCons, b_tTup, b_tLst, a_tCall, a_tCB, a_tNoPart, a_tPart, a_tSl, a_rIxL, a_rIxS, b_rSetL, a_tBM, b_rAppend, b_rExtend, b_rCat, b_rRep, a_tDIn, a_sDPut, b_tDNewK, a_tYes, a_tComp, a_iStr, a_rSlS, a_rJoin, a_rMulS, a_rEqD, a_rCatD, a_rIxF, a_rSlLF, a_rLenF, a_rIntB, ty_str, tJs, a_tFmtD, a_tFmtR, a_tFmtI, a_tRaise, a_tTry, a_tCallJ, a_rIsE, a_rMaxS, a_ipI, a_iL, a_iT, L2.start, blkSt, cxOf_K, blk_K, List.getElem?_cons_zero, List.getElem?_cons_succ, Option.some.injEq, Option.join_some, exists_eq_left', exists_eq_left, exists_eq_right, V.int.injEq, V.ref.injEq, V.str.injEq, V.bl.injEq, V.ty.injEq, and_true, true_and, List.set_cons_zero, List.set_cons_succ, List.cons.injEq, List.cons_append, List.nil_append, List.append_nil, List.map_cons, List.map_nil, List.length_cons, List.length_nil, List.replicate, exists_and_left, exists_and_right, Nat.reduceAdd, Nat.reduceSub, atI_0, atI_1, atI_2, atI_3, atI_4, if_true, if_false, Bool.false_eq_true, scal_ii, scal_ss, scal_bb]
    rw [decide_eq_true (show (24 : Int) < (m : Int) by (first | (clear qE hzl hC hs hm1; omega) | omega))]
    have l1 : (Str.ofString "more than ").length = 10 := by decide +kernel
    have l2 : (Str.ofString " deep: ").length = 7 := by decide +kernel
    have l0 := len_nil
    exact iteT ⟨line_le (by rw [slen]; (first | (clear hs hm1 hm qE hzl hC l2; lia) | omega)), by decide, fun z1 h1 => ⟨line_le (by rw [slen, slen]; (first | (clear hs hm1 hm qE hzl hC l2; lia) | omega)), line_le (by rw [slen, slen, slen]; (first | (clear hs hm1 hm qE hzl hC; lia) | omega)), hz.2, by (first | lia | omega), fun z2 h2 => ⟨line_le (by rw [slen, slen, slen, slen]; (first | (clear hs hm1 hm qE hC; lia) | omega)), line_le (by rw [slen, slen, slen, slen]; (first | (clear hs hm1 hm qE hC; lia) | omega)), by decide, qE rfl H (Same.refl _)⟩⟩⟩
  | n + 1 => by
    refine T.F_tree_from.okE (k := n + 2) sc_tree_from (fun vs H Q E h => ?_) (fun cdv A outer s H vs Q E hr h L => ?_)
    · obtain ⟨z, s, m, rfl, _⟩ := h
      rfl
    obtain ⟨z, st, m, rfl, hz, hs, hm1, hm, q, qE⟩ := h
    have nd := sc_tree_from.nd
    have hzl := hz.1
    have G_name_end := (ok_nameend (P := P) (w := w) (base := base) T).mono (k := n + 2) (by (first | (clear hs hm1 hm qE hzl; lia) | omega))
    have G_past := (ok_pastE (P := P) (w := w) (base := base) T).mono (k := n + 2) (by (first | (clear hs hm1 hm qE hzl; lia) | omega))
    have G_tree_from := ok_fromE T n
    refine ⟨_, (pss_cons (ps_if (pt_cmpR op_gt (pv 2) (pe_glob (v := .int 24) rfl T.c_MOST_DEEP ⟨_, rfl⟩) (nomark _)) (pss_one (ps_raise L rfl T.m_NoText T.x_NoText rfl (pa_cons (pe_js (.cons pe_str (.cons (pe_fmtI (pe_glob (v := .int 24) rfl T.c_MOST_DEEP ⟨_, rfl⟩)) (.cons pe_str (.cons (pe_fmtR (pv 0)) .nil))))) pa_nil))) pss_nil)
    (pss_cons (ps_let (i := 3) nd rfl (Or.inl rfl) (pe_call G_name_end hr rfl T.m_name_end T.F_name_end.kp T.b_name_end .nil pass0 (pa_cons (pv 0) (pa_cons (pv 1) pa_nil))))
    (pss_cons (ps_let (i := 4) nd rfl (Or.inl rfl) (pe_slice sl_str (pv 0) (po_some (pv 1)) (po_some (pv 3))))
    (pss_cons (ps_if (pt_cmpR op_ne (pe_slice sl_str (pv 0) (po_some (pv 3)) (po_some (pe_op op_add (pv 3) pe_int))) pe_str (nomark _)) (pss_one (ps_ret (pe_tup (pa_cons (pe_tup (pa_cons pe_str (pa_cons (pv 4) pa_nil))) (pa_cons (pv 3) pa_nil))))) pss_nil)
    (pss_cons (ps_let (i := 5) nd rfl (Or.inl rfl) (pe_call G_tree_from hr rfl T.m_tree_from T.F_tree_from.kp T.b_tree_from .nil (passE L) (pa_cons (pv 0) (pa_cons (pe_op op_add (pv 3) pe_int) (pa_cons (pe_op op_add (pv 2) pe_int) pa_nil)))))
    (pss_cons (ps_let (i := 6) nd rfl (Or.inl rfl) (pe_call G_tree_from hr rfl T.m_tree_from T.F_tree_from.kp T.b_tree_from .nil (passE L) (pa_cons (pv 0) (pa_cons (pe_call G_past hr rfl T.m_past T.F_past.kp T.b_past .nil (passE L) (pa_cons (pv 0) (pa_cons (pe_ix ixF (pv 5) pe_int (fun _ _ => rfl)) (pa_cons pe_str pa_nil)))) (pa_cons (pe_op op_add (pv 2) pe_int) pa_nil)))))
    (pss_one (ps_ret (pe_tup (pa_cons (pe_tup (pa_cons pe_str (pa_cons (pv 4) (pa_cons (pe_ix ixF (pv 5) pe_int (fun _ _ => rfl)) (pa_cons (pe_ix ixF (pv 6) pe_int (fun _ _ => rfl)) pa_nil))))) (pa_cons (pe_call G_past hr rfl T.m_past T.F_past.kp T.b_past .nil (passE L) (pa_cons (pv 0) (pa_cons (pe_ix ixF (pv 6) pe_int (fun _ _ => rfl)) (pa_cons pe_str pa_nil)))) pa_nil))))))))))), ?_⟩
    refine cutC1 fun C hC => ?_
    rw [a_tSeq]
    simp only [a_tLenS, a_tFor, a_tSet, a_tSetC, a_tVar, a_tC, a_tB, a_tAnd, a_tOr, a_tNot, a_tAndV, a_tOrV, a_tNext, a_tDrop, a_tRet, a_tIfS, a_gName, a_gNil, a_gCons, a_gTup, a_gSub, a_tAsg, a_tAug, a_iRng1, a_tOp, a_rI, a_rI0, a_rEq, a_rNe, a_tTest, a_tChain, a_tNil, a_tCons, b_tTup, b_tLst, a_tCall, a_tCB, a_tNoPart, a_tPart, a_tSl, a_rIxL, a_rIxS, b_rSetL, a_tBM, b_rAppend, b_rExtend, b_rCat, b_rRep, a_tDIn, a_sDPut, b_tDNewK, a_tYes, a_tComp, a_iStr, a_rSlS, a_rJoin, a_rMulS, a_rEqD, a_rCatD, a_rIxF, a_rSlLF, a_rLenF, a_rIntB, ty_str, tJs, a_tFmtD, a_tFmtR, a_tFmtI, a_tRaise, a_tTry, a_tCallJ, a_rIsE, a_rMaxS, a_ipI, a_iL, a_iT, L2.start, blkSt, cxOf_K, blk_K, List.getElem?_cons_zero, List.getElem?_cons_succ, Option.some.injEq, Option.join_some, exists_eq_left', exists_eq_left, exists_eq_right, V.int.injEq, V.ref.injEq, V.str.injEq, V.bl.injEq, V.ty.injEq, and_true, true_and, List.set_cons_zero, List.set_cons_succ, List.cons.injEq, List.cons_append, List.nil_append, List.append_nil, List.map_cons, List.map_nil, List.length_cons, List.length_nil, List.replicate, exists_and_left, exists_and_right, Nat.reduceAdd, Nat.reduceSub, atI_0, atI_1, atI_2, atI_3, atI_4, if_true, if_false, Bool.false_eq_true, scal_ii, scal_ss, scal_bb]
    rw [decide_eq_false (show ¬ (24 : Int) < (m : Int) by (first | (clear qE hzl hC hs hm1; lia) | omega))]
    refine iteF ?_
    rw [hC]
    clear hC C
    walk_at "rd"
    have lz := len_cps z
    have zl : z.length ≤ sizeLine := line_le (by (first | (clear hs hm1 hm lz qE; lia) | omega))
    refine ⟨z, st, rfl, by (first | (clear hs hm1 hm qE zl lz; lia) | omega), hs, ?_⟩
    have e1 := nameEnd_ge z.cps.toList st
    have e2 : nameEnd z.cps.toList st ≤ z.length := by rw [lz]; exact nameEnd_le (by (first | (clear hm qE zl e1 hm1 hzl; lia) | omega))
    have tf1 : tf z.cps.toList (n + 1) st = if z.cps.toList[nameEnd z.cps.toList st]? = some 40 then
      match tf z.cps.toList n (nameEnd z.cps.toList st + 1) with
      | none => none
      | some (a, m) => if z.cps.toList[m]? = some 32 then (match tf z.cps.toList n (m + 1) with
        | none => none
        | some (b, y) => if z.cps.toList[y]? = some 41 then some (.knot ⟨((z.cps.toList.drop st).take (nameEnd z.cps.toList st - st)).toArray⟩ a b, y + 1) else none) else none
      else some (.leaf ⟨((z.cps.toList.drop st).take (nameEnd z.cps.toList st - st)).toArray⟩, nameEnd z.cps.toList st) := rfl
    rw [tf1] at q qE
    generalize nameEnd z.cps.toList st = en at q qE e1 e2
    walk_at "rd"
    refine ⟨zl, zl, ?_⟩
    rw [slice_mk z e1 e2]
    generalize (⟨((z.cps.toList.drop st).take (en - st)).toArray⟩ : Str) = nm at q qE
    rw [s_op, slice_is' z e2]
    by_cases h40 : z.cps.toList[en]? = some 40
    · rw [if_pos h40] at q qE
      rw [decide_eq_true h40]
      have hlt := (List.getElem?_eq_some_iff.mp h40).1
      refine iteF ?_
      refine ⟨z, en + 1, m + 1, rfl, hz, by (first | (clear hs hm1 hm tf1 e1 e2 zl qE hzl h40; lia) | omega), by (first | (clear hs hm1 hm hzl lz zl tf1 e1 e2 qE h40 hlt; lia) | omega), by (first | (clear tf1 e1 e2 qE h40 hlt hzl lz zl hs hm1; lia) | omega), fun r ha va H1 S1 da => ?_, fun ha H' S' => qE (by rw [ha]) H' S'⟩
      obtain ⟨ta, ma⟩ := r
      rw [ha] at q qE
      dsimp only at q qE
      have hle := tf_le (by (first | (clear hs hm1 hm hzl lz zl tf1 qE ha e1 e2 h40; lia) | omega)) ha
      obtain ⟨pa, vsa, rfl, ea, Da⟩ := isD_tup.mp da
      obtain ⟨v1, ra, rfl, d1, Da⟩ := isDs_cons.mp Da
      obtain ⟨v2, ra, rfl, d2, Da⟩ := isDs_cons.mp Da
      rw [isDs_nil.mp Da, isD_int.mp d2] at ea
      try (walk_at "rd")
      refine ⟨_, items_t ea, _, atI_1, z, ma, 32, by rw [s_bl], hz, by (first | (clear hs hm1 hm hzl e2 h40 hlt qE tf1 e1 ea zl ha; lia) | omega), by decide, fun h32 => ?_, fun h32 H' S' => qE (by rw [if_neg h32]) H' (S1.trans S')⟩
      rw [if_pos h32] at q qE
      have hlt2 := (List.getElem?_eq_some_iff.mp h32).1
      refine ⟨z, ma + 1, m + 1, rfl, hz, by (first | (clear zl tf1 e1 e2 h40 hlt qE ha hle ea hs hm1 hm hzl h32; lia) | omega), by (first | (clear hs hm1 hm hzl lz zl tf1 e1 e2 h40 hlt qE ha hle ea h32 hlt2; lia) | omega), by (first | (clear h40 hlt qE ha hle ea h32 hlt2 hzl lz zl tf1 e1 e2 hs hm1; lia) | omega), fun r hb vb H2 S2 db => ?_, fun hb H' S' => qE (by rw [hb]) H' (S1.trans S')⟩
      obtain ⟨tb, mb⟩ := r
      rw [hb] at q qE
      dsimp only at q qE
      have hle2 := tf_le (by (first | (clear hs hm1 hm hzl lz zl tf1 e1 e2 h40 hlt ha hle ea hb qE h32; lia) | omega)) hb
      obtain ⟨pb, vsb, rfl, eb, Db⟩ := isD_tup.mp db
      obtain ⟨w1, rb, rfl, f1, Db⟩ := isDs_cons.mp Db
      obtain ⟨w2, rb, rfl, f2, Db⟩ := isDs_cons.mp Db
      rw [isDs_nil.mp Db, isD_int.mp f2] at eb
      try (walk_at "rd")
      refine ⟨_, items_t (S2 _ _ ea), _, atI_0, _, items_t eb, _, atI_0, by decide, NewO.mk fun p3 H3 S3 n3 e3 => ?_⟩
      refine ⟨_, items_t (S3 _ _ eb), _, atI_1, z, mb, 41, by rw [s_cl], hz, by (first | (clear tf1 e1 e2 h40 hlt ha hle ea h32 hlt2 qE hb hs hm1 hm e3 eb n3 hzl zl; lia) | omega), by decide, fun h41 => ⟨by decide, NewO.mk fun p4 H4 S4 n4 e4 => ?_⟩, fun h41 H' S' => qE (by rw [if_neg h41]) H' (((S1.trans S2).trans S3).trans S')⟩
      rw [if_pos h41] at q
      have S34 := S3.trans S4
      exact q _ rfl _ H4 ((S1.trans S2).trans S34) (Dt.tup e4 (.cons (knot_mk (S4 _ _ e3) (d1.same (S2.trans S34)) (f1.same S34)) (.cons (isD_int.mpr rfl) .nil)))
    · rw [if_neg h40] at q
      rw [decide_eq_false h40]
      refine iteT ⟨by decide, NewO.mk fun p1 H1 S1 n1 e3 => ⟨by decide, NewO.mk fun p2 H2 S2 n2 e4 => ?_⟩⟩
      exact q _ rfl _ H2 (S1.trans S2) (Dt.tup e4 (.cons (leaf_mk (S2 _ _ e3)) (.cons (isD_int.mpr rfl) .nil)))
/-- what is read of a text, if it is a formula's -/
noncomputable def rdT (z : Str) : Option L2.Tree := match tf z.cps.toList 24 0 with
  | some (t, e) => if e = z.length ∧ due t = 3 then some t else none
  | none => none
/-- the names and leaves of what is read are no longer than the text -/
theorem tf_low {z : Str} (hz : lowT 1900 z) : ∀ {n s : Nat} {t : L2.Tree} {e : Nat}, s ≤ z.length → tf z.cps.toList n s = some (t, e) → AN t ∧ t.lv.length + s ≤ e + 1 ∧ e ≤ z.length
  | 0, _, _, _, _, h => by simp [tf] at h
  | n + 1, s, t, e, hs, h => by
    have lz := len_cps z
    have e1 := nameEnd_ge z.cps.toList s
    have e2 : nameEnd z.cps.toList s ≤ z.length := by rw [lz]; exact nameEnd_le (by (first | lia | omega))
    have okn : okN ⟨((z.cps.toList.drop s).take (nameEnd z.cps.toList s - s)).toArray⟩ := by
      refine ⟨?_, fun c hc => hz.2 c ?_⟩
      · have : (⟨((z.cps.toList.drop s).take (nameEnd z.cps.toList s - s)).toArray⟩ : Str).length = ((z.cps.toList.drop s).take (nameEnd z.cps.toList s - s)).length := by simp [Str.length]
        rw [this, List.length_take, List.length_drop]
        have := hz.1
        (first | (clear hs h; lia) | omega)
      · simp only at hc
        exact List.mem_of_mem_drop (List.mem_of_mem_take hc)
    simp only [tf] at h
    split at h
    · rename_i h40
      have hlt := (List.getElem?_eq_some_iff.mp h40).1
      split at h
      · cases h
      · rename_i a m ha
        obtain ⟨A1, A2, A3⟩ := tf_low hz (by (first | lia | omega)) ha
        split at h
        · rename_i h32
          have hlt2 := (List.getElem?_eq_some_iff.mp h32).1
          split at h
          · cases h
          · rename_i b y hb
            obtain ⟨B1, B2, B3⟩ := tf_low hz (by (first | (clear h40 hlt ha A2 h e1 e2 A3 h32 hs hb; lia) | omega)) hb
            split at h
            · rename_i h41
              have hlt3 := (List.getElem?_eq_some_iff.mp h41).1
              cases h
              refine ⟨⟨okn, A1, B1⟩, ?_, by (first | (clear h40 hlt ha A2 A3 h32 hlt2 hb e1 e2 B2 B3 hs h41; lia) | omega)⟩
              simp only [M.Tr.lv, List.length_append]
              (first | (clear hs lz h40 hlt hlt2 hb h41 hlt3 e2 ha A3 h32 B3; lia) | omega)
            · cases h
        · cases h
    · cases h
      exact ⟨okn, by simp only [M.Tr.lv, List.length_singleton]; (first | (clear hs lz e2; lia) | omega), e2⟩
noncomputable def spReadE (C : Addr) : Sp := fun vs H Q E => ∃ (z : Str), vs = [.str z] ∧ lowT 1900 z ∧ (∀ t, rdT z = some t → RetD H (dT t) Q) ∧ (rdT z = none → ∀ fl H', Same H H' → E (.ref C) fl H')
seal PSs PS PE PT PA PI PIfs in
theorem ok_readE (T : Txt K mg) : FnOk P w K mg base (CXE P w) 30 T.f_read T.d_read ["text"] (spReadE T.C_NoText) := by
  refine T.F_read.okE (k := 29) sc_read (fun vs H Q E h => ?_) (fun cdv A outer s H vs Q E hr h L => ?_)
  · obtain ⟨z, rfl, _⟩ := h
    rfl
  obtain ⟨z, rfl, hz, q, qE⟩ := h
  have nd := sc_read.nd
  have hzl := hz.1
  have G_tree_from := (ok_fromE (P := P) (w := w) (base := base) T 24).mono (k := 29) (by omega)
  have G_formula := (ok_formulaE (P := P) (w := w) (base := base) T)
  refine ⟨_, (pss_cons (ps_let (i := 1) nd rfl (Or.inl rfl) (pe_call G_tree_from hr rfl T.m_tree_from T.F_tree_from.kp T.b_tree_from .nil (passE L) (pa_cons (pv 0) (pa_cons pe_int (pa_cons pe_int pa_nil)))))
    (pss_cons (ps_if (pt_cmpR op_ne (pe_ix ixF (pv 1) pe_int (fun _ _ => rfl)) (pe_callB call_len_str rfl T.z_len bt_len (pa_cons (pv 0) pa_nil)) (nomark _)) (pss_one (ps_raise L rfl T.m_NoText T.x_NoText rfl (pa_cons (pe_js (.cons pe_str (.cons (pe_fmtR (pv 0)) .nil))) pa_nil))) pss_nil)
    (pss_one (ps_tryR (i := 2) (J := fun σ0 σ1 => σ1 = σ0) L rfl T.m_FewError T.x_FewError nd rfl rfl rfl T.m_NoText T.x_NoText (fun _ _ _ => (pss_one (ps_ret (pe_callJ G_formula hr rfl T.m_formula T.F_formula.kp T.b_formula .nil passJ (pa_cons (pe_ix ixF (pv 1) pe_int (fun _ _ => rfl)) pa_nil))))) (fun _ => (pa_cons (pe_js (.cons pe_str (.cons (pe_fmtR (pv 0)) .nil))) pa_nil)))))), ?_⟩
  walk_at "rd"
  refine ⟨z, 0, 1, rfl, hz, by (first | (clear qE hzl; lia) | omega), by omega, by omega, fun r hr v H1 S1 dv => ?_, fun hn H' S' => qE (by unfold rdT; rw [hn]) _ H' S'⟩
  obtain ⟨t, e⟩ := r
  obtain ⟨tl1, tl2, tl3⟩ := tf_low hz (by (first | (clear qE hzl hr; lia) | omega)) hr
  have erd : rdT z = if e = z.length ∧ due t = 3 then some t else none := by unfold rdT; rw [hr]
  rw [erd] at q qE
  obtain ⟨pa, vsa, rfl, ea, Da⟩ := isD_tup.mp dv
  obtain ⟨v1, ra, rfl, d1, Da⟩ := isDs_cons.mp Da
  obtain ⟨v2, ra, rfl, d2, Da⟩ := isDs_cons.mp Da
  rw [isDs_nil.mp Da, isD_int.mp d2] at ea
  try (walk_at "rd")
  have l0 := len_nil
  have l1 : (Str.ofString "signs behind the end of a formula: ").length = 35 := by decide +kernel
  have l2 : (Str.ofString "no formula's text: ").length = 19 := by decide +kernel
  refine ⟨_, items_t ea, _, atI_1, line_le (by (first | lia | omega)), rfl, ?_⟩
  by_cases he : e = z.length
  · rw [decide_eq_true (show V.int ((e : Nat) : Int) = V.int ((z.length : Nat) : Int) by rw [he])]
    refine iteF ⟨_, items_t ea, _, atI_0, t, v1, rfl, d1, by (first | lia | omega), tl1, fun d3 H' S' => q t (if_pos ⟨he, d3⟩) v1 H' (S1.trans S') (d1.same S'), fun d0 H' S' => ⟨rfl, T.C_TooBig, rfl, T.x_TooBig, T.u_TooBig_FewError, ?_⟩, fun d0 H' S' => ⟨rfl, T.C_NoName, rfl, T.x_NoName, T.u_NoName_FewError, ?_⟩, fun d0 H' S' => ⟨rfl, T.C_Twice, rfl, T.x_Twice, T.u_Twice_FewError, ?_⟩⟩
    all_goals
      intro σ' e2 hσ hne
      subst hσ
      have nd3 : ¬ (e = z.length ∧ due t = 3) := fun y => by rw [d0] at y; cases y.2
      try (walk_at "rd")
      refine ⟨line_le (by rw [slen]; (first | (clear hzl qE hr tl2 tl3 erd ea d0 hne nd3 l1; lia) | omega)), hz.2, by (first | (clear l0 l1 l2 he d0 hne nd3 tl3 erd ea hr tl2 qE; lia) | omega), fun z2 h2 => ⟨line_le (by rw [slen, slen]; (first | (clear hr tl2 he d0 hne nd3 qE tl3 erd ea l1; lia) | omega)), line_le (by rw [slen, slen]; (first | (clear hr tl2 tl3 erd he d0 hne nd3 qE ea l1; lia) | omega)), by decide, upd_same, qE (if_neg nd3) _ _ ((S1.trans S').trans (same_new hne _))⟩⟩
  · rw [decide_eq_false (show ¬ V.int ((e : Nat) : Int) = V.int ((z.length : Nat) : Int) from fun y => he (by have := V.int.inj y; (first | lia | omega)))]
    exact iteT ⟨line_le (by rw [slen]; (first | (clear hzl qE hr tl2 tl3 erd l2 he ea; lia) | omega)), hz.2, by (first | lia | omega), fun z2 h2 => ⟨line_le (by rw [slen, slen]; (first | (clear tl2 tl3 erd hr ea l2 he qE; lia) | omega)), line_le (by rw [slen, slen]; (first | (clear tl2 tl3 erd hr ea l2 he qE; lia) | omega)), by decide, qE (if_neg fun y => he y.1) none H1 S1⟩⟩
/-! ### the law's own reading -/
noncomputable def isAz (c : Nat) : Bool := decide (97 ≤ c) && decide (c ≤ 122)
noncomputable def azEnd (l : List Nat) (s : Nat) : Nat := s + ((l.drop s).takeWhile isAz).length
theorem azEnd_ge (l : List Nat) (s : Nat) : s ≤ azEnd l s := Nat.le_add_right _ _
theorem azEnd_le {l : List Nat} {s : Nat} (h : s ≤ l.length) : azEnd l s ≤ l.length := by
  unfold azEnd
  have h1 : ((l.drop s).takeWhile isAz).length ≤ (l.drop s).length := by
    have := List.takeWhile_append_dropWhile (p := isAz) (l := l.drop s)
    have := congrArg List.length this
    rw [List.length_append] at this; (first | (clear h; lia) | omega)
  rw [List.length_drop] at h1
  (first | lia | omega)
theorem azEnd_step {l : List Nat} {s c : Nat} (h : l[s]? = some c) : azEnd l s = if isAz c = true then azEnd l (s + 1) else s := by
  obtain ⟨hi, e2⟩ := List.getElem?_eq_some_iff.mp h
  unfold azEnd
  rw [List.drop_eq_getElem_cons hi, e2, List.takeWhile_cons]
  cases isAz c
  · simp
  · simp; (first | (clear h hi e2; lia) | omega)
theorem azEnd_end {l : List Nat} {s : Nat} (h : l.length ≤ s) : azEnd l s = s := by
  unfold azEnd
  rw [List.drop_eq_nil_of_le h]; simp
/-- what the law reads, n deeper at most -/
noncomputable def lr (l : List Nat) : Nat → Nat → L2.Tree × Nat
  | 0, s => (.leaf ⟨((l.drop s).take (azEnd l s - s)).toArray⟩, azEnd l s)
  | n + 1, s =>
    if l[azEnd l s]? = some 40 then
      (if l[(lr l n (azEnd l s + 1)).2]? = some 32 then
        (if l[(lr l n ((lr l n (azEnd l s + 1)).2 + 1)).2]? = some 41 then (.knot ⟨((l.drop s).take (azEnd l s - s)).toArray⟩ (lr l n (azEnd l s + 1)).1 (lr l n ((lr l n (azEnd l s + 1)).2 + 1)).1, (lr l n ((lr l n (azEnd l s + 1)).2 + 1)).2 + 1)
        else (.leaf (Str.ofString ""), (lr l n ((lr l n (azEnd l s + 1)).2 + 1)).2))
      else (.leaf (Str.ofString ""), (lr l n (azEnd l s + 1)).2))
    else (.leaf ⟨((l.drop s).take (azEnd l s - s)).toArray⟩, azEnd l s)
theorem lr_le (l : List Nat) : ∀ n s, s ≤ l.length → s ≤ (lr l n s).2 ∧ (lr l n s).2 ≤ l.length
  | 0, s, h => ⟨azEnd_ge l s, azEnd_le h⟩
  | n + 1, s, h => by
    have h1 := azEnd_ge l s
    have h2 := azEnd_le h
    simp only [lr]
    split
    · rename_i c
      have c1 := (List.getElem?_eq_some_iff.mp c).1
      have A := lr_le l n (azEnd l s + 1) (by (first | lia | omega))
      split
      · rename_i d
        have d1 := (List.getElem?_eq_some_iff.mp d).1
        have B := lr_le l n ((lr l n (azEnd l s + 1)).2 + 1) (by (first | lia | omega))
        split
        · rename_i e
          have e1 := (List.getElem?_eq_some_iff.mp e).1
          exact ⟨by dsimp only; (first | lia | omega), by dsimp only; (first | (clear h h1 h2 c c1 A d d1 B e; lia) | omega)⟩
        · exact ⟨by dsimp only; (first | lia | omega), by dsimp only; (first | lia | omega)⟩
      · exact ⟨by dsimp only; (first | lia | omega), by dsimp only; (first | lia | omega)⟩
    · exact ⟨h1, h2⟩
noncomputable def spLawRead (n : Nat) : Sp := fun vs H Q _ => ∃ (z : Str) (s m : Nat), vs = [.str z, .int s, .int m] ∧ z.length ≤ 2000 ∧ s ≤ z.length ∧ 1 ≤ m ∧ m + n = 31 ∧ RetD H (dF (lr z.cps.toList n s)) Q
theorem az_in (c : Nat) : decide (c ∈ (Str.ofString "abcdefghijklmnopqrstuvwxyz").cps.toList) = isAz c := by
  have e : (Str.ofString "abcdefghijklmnopqrstuvwxyz").cps.toList = List.range' 97 26 := by decide +kernel
  rw [e, Bool.eq_iff_iff]
  simp only [isAz, decide_eq_true_eq, List.mem_range'_1, Bool.and_eq_true]
  (first | lia | omega)
noncomputable def spPrev : Nat → Sp
  | 0 => fun _ _ _ _ => False
  | n + 1 => spLawRead n
seal PSs PS PE PT PA PI PIfs in
theorem lawread_step (T : Txt K mg) (n : Nat) (G__law_read : FnOk P w K mg base CX0 n T.f__law_read T.d__law_read ["text", "at", "deep"] (spPrev n)) : FnOk P w K mg base CX0 (n + 1) T.f__law_read T.d__law_read ["text", "at", "deep"] (spLawRead n) := by
  refine T.F__law_read.ok (k := n) sc__law_read (fun vs H Q E h => ?_) (fun cdv A outer s H vs Q E hr h => ?_)
  · obtain ⟨z, s, m, rfl, _⟩ := h
    rfl
  obtain ⟨z, st, m, rfl, hz, hs, hm1, hm, q⟩ := h
  have nd := sc__law_read.nd
  refine ⟨_, (pss_cons (ps_let (i := 3) nd rfl (Or.inl rfl) (pv 1))
    (pss_cons (ps_while PassesOwn.never (PW.pt (pw_and (pt_cmpR op_lt (pv 3) (pe_callB call_len_str rfl T.z_len bt_len (pa_cons (pv 0) pa_nil)) (nomark _)) (pw_and1 (pt_cmpR op_in_str (pe_ix ix_str (pv 0) (pv 3) (fun _ _ => rfl)) pe_str (by with_unfolding_all rfl))))) (pss_one (ps_let (i := 3) nd rfl (Or.inl rfl) (pe_op op_add (pv 3) pe_int))))
    (pss_cons (ps_if (PW.pt (pw_or (pt_cmpR op_ne (pe_slice sl_str (pv 0) (po_some (pv 3)) (po_some (pe_op op_add (pv 3) pe_int))) pe_str (nomark _)) (pw_or1 (pt_cmpR op_gt (pv 2) pe_int (nomark _))))) (pss_one (ps_ret (pe_tup (pa_cons (pe_tup (pa_cons pe_str (pa_cons (pe_slice sl_str (pv 0) (po_some (pv 1)) (po_some (pv 3))) pa_nil))) (pa_cons (pv 3) pa_nil))))) pss_nil)
    (pss_cons (ps_asg (pe_call G__law_read hr rfl T.m__law_read T.F__law_read.kp T.b__law_read .nil pass0 (pa_cons (pv 0) (pa_cons (pe_op op_add (pv 3) pe_int) (pa_cons (pe_op op_add (pv 2) pe_int) pa_nil)))) (pg_tup rfl (pgs_cons (pg_name (i := 4) nd rfl (Or.inl rfl)) (pgs_cons (pg_name (i := 5) nd rfl (Or.inl rfl)) pgs_nil))))
    (pss_cons (ps_if (pt_cmpR op_ne (pe_slice sl_str (pv 0) (po_some (pv 5)) (po_some (pe_op op_add (pv 5) pe_int))) pe_str (nomark _)) (pss_one (ps_ret (pe_tup (pa_cons (pe_tup (pa_cons pe_str (pa_cons pe_str pa_nil))) (pa_cons (pv 5) pa_nil))))) pss_nil)
    (pss_cons (ps_asg (pe_call G__law_read hr rfl T.m__law_read T.F__law_read.kp T.b__law_read .nil pass0 (pa_cons (pv 0) (pa_cons (pe_op op_add (pv 5) pe_int) (pa_cons (pe_op op_add (pv 2) pe_int) pa_nil)))) (pg_tup rfl (pgs_cons (pg_name (i := 6) nd rfl (Or.inl rfl)) (pgs_cons (pg_name (i := 7) nd rfl (Or.inl rfl)) pgs_nil))))
    (pss_cons (ps_if (pt_cmpR op_ne (pe_slice sl_str (pv 0) (po_some (pv 7)) (po_some (pe_op op_add (pv 7) pe_int))) pe_str (nomark _)) (pss_one (ps_ret (pe_tup (pa_cons (pe_tup (pa_cons pe_str (pa_cons pe_str pa_nil))) (pa_cons (pv 7) pa_nil))))) pss_nil)
    (pss_one (ps_ret (pe_tup (pa_cons (pe_tup (pa_cons pe_str (pa_cons (pe_slice sl_str (pv 0) (po_some (pv 1)) (po_some (pv 3))) (pa_cons (pv 4) (pa_cons (pv 6) pa_nil))))) (pa_cons (pe_op op_add (pv 7) pe_int) pa_nil)))))))))))), ?_⟩
  refine cutC2 fun C hC => ?_
  walk_at "rd"
  have zl : z.length ≤ sizeLine := line_le (by (first | lia | omega))
  have lz := len_cps z
  have fin : C [some (V.str z), some (V.int st), some (V.int m), some (V.int (azEnd z.cps.toList st)), none, none, none, none] H := by
    rw [hC]
    clear hC C
    refine cutC1 fun C hC => ?_
    rw [a_tSeq]
    simp only [a_tLenS, a_tFor, a_tSet, a_tSetC, a_tVar, a_tC, a_tB, a_tAnd, a_tOr, a_tNot, a_tAndV, a_tOrV, a_tNext, a_tDrop, a_tRet, a_tIfS, a_gName, a_gNil, a_gCons, a_gTup, a_gSub, a_tAsg, a_tAug, a_iRng1, a_tOp, a_rI, a_rI0, a_rEq, a_rNe, a_tTest, a_tChain, a_tNil, a_tCons, b_tTup, b_tLst, a_tCall, a_tCB, a_tNoPart, a_tPart, a_tSl, a_rIxL, a_rIxS, b_rSetL, a_tBM, b_rAppend, b_rExtend, b_rCat, b_rRep, a_tDIn, a_sDPut, b_tDNewK, a_tYes, a_tComp, a_iStr, a_rSlS, a_rJoin, a_rMulS, a_rEqD, a_rCatD, a_rIxF, a_rSlLF, a_rLenF, a_rIntB, ty_str, tJs, a_tFmtD, a_tFmtR, a_tFmtI, a_tRaise, a_tTry, a_tCallJ, a_rIsE, a_rMaxS, a_ipI, a_iL, a_iT, L2.start, blkSt, cxOf_K, blk_K, List.getElem?_cons_zero, List.getElem?_cons_succ, Option.some.injEq, Option.join_some, exists_eq_left', exists_eq_left, exists_eq_right, V.int.injEq, V.ref.injEq, V.str.injEq, V.bl.injEq, V.ty.injEq, and_true, true_and, List.set_cons_zero, List.set_cons_succ, List.cons.injEq, List.cons_append, List.nil_append, List.append_nil, List.map_cons, List.map_nil, List.length_cons, List.length_nil, List.replicate, exists_and_left, exists_and_right, Nat.reduceAdd, Nat.reduceSub, atI_0, atI_1, atI_2, atI_3, atI_4, if_true, if_false, Bool.false_eq_true, scal_ii, scal_ss, scal_bb]
    have e1 := azEnd_ge z.cps.toList st
    have e2 : azEnd z.cps.toList st ≤ z.length := by rw [lz]; exact azEnd_le (by (first | (clear hm1 hm hC e1 hz zl; lia) | omega))
    rw [s_op, slice_is' z e2, slice_mk z e1 e2]
    have lf : ∀ (x : Str) (e : Nat) (H0 : Hp), Same H H0 → lr z.cps.toList n st = (.leaf x, e) → 2 ≤ sizeLine ∧ NewO H0 (HO.tup [V.str (Str.ofString "leaf"), V.str x]) fun y H1 => 2 ≤ sizeLine ∧ NewO H1 (HO.tup [y, V.int e]) Q := by
      intro x e H0 S0 hl
      rw [hl] at q
      refine ⟨by decide, NewO.mk fun p1 H1 S1 n1 e3 => ⟨by decide, NewO.mk fun p2 H2 S2 n2 e4 => ?_⟩⟩
      exact q _ H2 ((S0.trans S1).trans S2) (Dt.tup e4 (.cons (leaf_mk (S2 _ _ e3)) (.cons (isD_int.mpr rfl) .nil)))
    refine ⟨zl, ?_⟩
    by_cases h40 : z.cps.toList[azEnd z.cps.toList st]? = some 40
    · rw [decide_eq_true h40]
      cases n with
      | zero =>
        rw [decide_eq_true (show (30 : Int) < (m : Int) by (first | (clear zl lz e1 hC hz hs hm1 e2 h40; omega) | omega))]
        exact iteF (iteT ⟨zl, lf _ _ H (Same.refl _) rfl⟩)
      | succ n =>
        rw [decide_eq_false (show ¬ (30 : Int) < (m : Int) by (first | (clear hz hs hm1 zl lz e1 e2 h40 hC; lia) | omega))]
        refine iteF (iteF ?_)
        have hlt := (List.getElem?_eq_some_iff.mp h40).1
        have lr1 : lr z.cps.toList (n + 1) st = if z.cps.toList[(lr z.cps.toList n (azEnd z.cps.toList st + 1)).2]? = some 32 then
            (if z.cps.toList[(lr z.cps.toList n ((lr z.cps.toList n (azEnd z.cps.toList st + 1)).2 + 1)).2]? = some 41 then (.knot ⟨((z.cps.toList.drop st).take (azEnd z.cps.toList st - st)).toArray⟩ (lr z.cps.toList n (azEnd z.cps.toList st + 1)).1 (lr z.cps.toList n ((lr z.cps.toList n (azEnd z.cps.toList st + 1)).2 + 1)).1, (lr z.cps.toList n ((lr z.cps.toList n (azEnd z.cps.toList st + 1)).2 + 1)).2 + 1)
            else (.leaf (Str.ofString ""), (lr z.cps.toList n ((lr z.cps.toList n (azEnd z.cps.toList st + 1)).2 + 1)).2))
          else (.leaf (Str.ofString ""), (lr z.cps.toList n (azEnd z.cps.toList st + 1)).2) := by
          rw [lr, if_pos h40]
        generalize hen : azEnd z.cps.toList st = en at *
        have La := lr_le z.cps.toList n (en + 1) (by (first | (clear hz hs hm1 zl lz hm hC hen e1 e2 h40 lr1; lia) | omega))
        rw [hC]
        clear hC C
        refine cutC2 fun C hC => ?_
        walk_at "rd"
        refine ⟨z, en + 1, m + 1, rfl, hz, by (first | (clear hz hs hm1 zl La hC hen e1 e2 h40 hm lr1; lia) | omega), by (first | (clear hz hs hm1 zl lz hm hen e1 e2 h40 hlt lr1 La hC; lia) | omega), by (first | (clear e1 e2 h40 hlt lr1 La hC hz hs hm1 zl hen lz; lia) | omega), fun va H1 S1 da => ?_⟩
        generalize lr z.cps.toList n (en + 1) = ra at *
        obtain ⟨ta, ma⟩ := ra
        dsimp only at La lr1
        obtain ⟨pa, vsa, rfl, ea, Da⟩ := isD_tup.mp da
        obtain ⟨v1, ra, rfl, d1, Da⟩ := isDs_cons.mp Da
        obtain ⟨v2, ra, rfl, d2, Da⟩ := isDs_cons.mp Da
        rw [isDs_nil.mp Da, isD_int.mp d2] at ea
        try (walk_at "rd")
        refine ⟨_, SqT.of ea, rfl, _, _, rfl, _, _, rfl, rfl, _, rfl, _, rfl, zl, ?_⟩
        rw [s_bl, slice_is' z (by (first | (clear hz hs hm1 zl e2 h40 hlt hC hen e1 ea hm lr1; lia) | omega))]
        by_cases h32 : z.cps.toList[ma]? = some 32
        · rw [decide_eq_true h32]
          rw [if_pos h32] at lr1
          have hlt2 := (List.getElem?_eq_some_iff.mp h32).1
          have Lb := lr_le z.cps.toList n (ma + 1) (by (first | (clear hz hs hm1 zl lz hm hen e1 e2 h40 hlt hC lr1 La ea h32; lia) | omega))
          refine iteF ?_
          rw [hC]
          clear hC C
          walk_at "rd"
          refine ⟨z, ma + 1, m + 1, rfl, hz, by (first | (clear hm hen e1 e2 h40 hz hs hm1 lr1 La ea hlt h32 zl Lb; lia) | omega), by (first | (clear hz hs hm1 zl lz hm hen e1 e2 h40 hlt lr1 La ea h32 hlt2 Lb; lia) | omega), by (first | (clear h40 hlt lr1 La ea h32 hlt2 Lb hz hs hm1 zl lz e2 e1 hen; lia) | omega), fun vb H2 S2 db => ?_⟩
          generalize lr z.cps.toList n (ma + 1) = rb at *
          obtain ⟨tb, mb⟩ := rb
          dsimp only at Lb lr1
          obtain ⟨pb, vsb, rfl, eb, Db⟩ := isD_tup.mp db
          obtain ⟨w1, rb, rfl, f1, Db⟩ := isDs_cons.mp Db
          obtain ⟨w2, rb, rfl, f2, Db⟩ := isDs_cons.mp Db
          rw [isDs_nil.mp Db, isD_int.mp f2] at eb
          try (walk_at "rd")
          refine ⟨_, SqT.of eb, rfl, _, _, rfl, _, _, rfl, rfl, _, rfl, _, rfl, zl, ?_⟩
          rw [s_cl, slice_is' z (by (first | (clear hm hen e1 e2 h40 hlt La ea h32 hlt2 hz hs hm1 eb zl lr1; lia) | omega))]
          by_cases h41 : z.cps.toList[mb]? = some 41
          · rw [decide_eq_true h41]
            rw [if_pos h41] at lr1
            rw [lr1] at q
            refine iteF ⟨zl, ?_⟩
            rw [slice_mk z e1 e2]
            refine ⟨by decide, NewO.mk fun p3 H3 S3 n3 e3 => ⟨_, rfl, by decide, NewO.mk fun p4 H4 S4 n4 e4 => ?_⟩⟩
            have S34 := S3.trans S4
            exact q _ H4 ((S1.trans S2).trans S34) (Dt.tup e4 (.cons (knot_mk (S4 _ _ e3) (d1.same (S2.trans S34)) (f1.same S34)) (.cons (isD_int.mpr (by push_cast; rfl)) .nil)))
          · rw [decide_eq_false h41]
            rw [if_neg h41] at lr1
            exact iteT (lf _ _ H2 (S1.trans S2) lr1)
        · rw [decide_eq_false h32]
          rw [if_neg h32] at lr1
          exact iteT (lf _ _ H1 S1 lr1)
    · rw [decide_eq_false h40]
      refine iteT ⟨zl, lf _ _ H (Same.refl _) ?_⟩
      cases n with
      | zero => rfl
      | succ n => rw [lr, if_neg h40]
  obtain ⟨W, hW⟩ : ∃ W : Nat → St → Hp → Prop, ∀ m' σ H', W m' σ H' ↔ H' = H ∧ ∃ e : Nat, m' = z.length - e ∧ st ≤ e ∧ e ≤ z.length ∧ azEnd z.cps.toList e = azEnd z.cps.toList st ∧ σ = [some (V.str z), some (V.int st), some (V.int m), some (V.int e), none, none, none, none] := ⟨_, fun _ _ _ => Iff.rfl⟩
  refine ⟨W, ⟨_, (hW _ _ _).mpr ⟨rfl, st, rfl, Nat.le_refl _, hs, rfl, rfl⟩⟩, ?_⟩
  intro m' σ H' h
  obtain ⟨rfl, e, rfl, h1, h2, h3, rfl⟩ := (hW _ _ _).mp h
  walk_at "rd"
  refine ⟨zl, ite2 (fun c => ?_) (fun c => ?_)⟩
  · have c : e < z.length := by have := of_decide_eq_true c; (first | (clear hz hs hm1 hm zl lz hC h1 h2 h3 c; omega) | omega)
    obtain ⟨ch, hc⟩ : ∃ ch, z.cps.toList[e]? = some ch := ⟨_, List.getElem?_eq_getElem (by (first | (clear hz hs hm1 hm zl hC h1 h3; omega) | omega))⟩
    have sc := azEnd_step hc
    refine ⟨zl, ch, atI_nat hc, ?_⟩
    rw [PySem.StrLaws.found_one, az_in]
    cases hsg : isAz ch with
    | false =>
      rw [hsg, if_neg (by simp)] at sc
      refine iteF ?_
      rw [← h3, sc] at fin
      exact fin
    | true =>
      rw [hsg, if_pos rfl] at sc
      refine iteT ⟨fun σ' H' => ∃ m', m' < z.length - e ∧ W m' σ' H', fun _ _ z => z, ?_⟩
      exact ⟨z.length - (e + 1), by (first | (clear hz hs hm1 hm zl lz hC hc sc hsg h1 h3; omega) | omega), (hW _ _ _).mpr ⟨rfl, e + 1, rfl, by (first | (clear hz hs hm1 hm zl lz hC hc sc hsg h3 c h2; lia) | omega), by (first | (clear hz hs hm1 hm zl lz hC hc sc hsg h1 h3; omega) | omega), by rw [← sc]; exact h3, by push_cast; rfl⟩⟩
  · have c : e = z.length := by have : ¬ e < z.length := fun y => c (decide_eq_true (by (first | (clear hz hs hm1 hm zl lz hC h1 h2 h3 c; omega) | omega))); (first | (clear hz hs hm1 hm zl lz hC h1 h3 c; lia) | omega)
    have := azEnd_end (l := z.cps.toList) (s := e) (by (first | (clear hz hs hm1 hm zl hC h1 h3; lia) | omega))
    rw [← h3, this] at fin
    exact fin
theorem ok_lawread (T : Txt K mg) : ∀ n : Nat, FnOk P w K mg base CX0 (n + 1) T.f__law_read T.d__law_read ["text", "at", "deep"] (spLawRead n)
  | 0 => lawread_step T 0 ⟨fun _ _ _ _ h => h.elim, fun _ _ _ _ _ _ _ _ _ _ _ _ _ h => h.elim⟩
  | n + 1 => lawread_step T (n + 1) (ok_lawread T n)
/-! ### the law: texts, parts, what is good -/
noncomputable def spText (n : Nat) : Sp := fun vs H Q _ => ∃ (t : L2.Tree) (v : V), vs = [v] ∧ Dt H (dT t) v ∧ t.dp ≤ n ∧ (txL t).length ≤ 50000 ∧ Q (.str ⟨(txL t).toArray⟩) H
theorem ok_text (T : Txt K mg) : ∀ n : Nat, FnOk P w K mg base CX0 (n + 1) T.f__law_text T.d__law_text ["tree"] (spText n)
  | 0 => by
    refine T.F__law_text.ok (k := 0) sc__law_text (fun vs H Q E h => ?_) (fun cdv A outer s H vs Q E hr h => ?_)
    · obtain ⟨t, v, rfl, _⟩ := h
      rfl
    · obtain ⟨t, v, rfl, _, h, _⟩ := h
      have := t.dp_pos
      omega
  | n + 1 => by
    refine T.F__law_text.ok (k := n + 1) sc__law_text (fun vs H Q E h => ?_) (fun cdv A outer s H vs Q E hr h => ?_)
    · obtain ⟨t, v, rfl, _⟩ := h
      rfl
    obtain ⟨t, v, rfl, ht, hd, hl, q⟩ := h
    have nd := sc__law_text.nd
    have G__law_text := ok_text T n
    refine ⟨_, (pss_cons (ps_if (pt_cmpR op_eq (pe_ix ixF (pv 0) pe_int (fun _ _ => rfl)) pe_str (nomark _)) (pss_one (ps_ret (pe_ix ixF (pv 0) pe_int (fun _ _ => rfl)))) pss_nil)
    (pss_one (ps_ret (pe_op op_add_str (pe_op op_add_str (pe_op op_add_str (pe_op op_add_str (pe_op op_add_str (pe_ix ixF (pv 0) pe_int (fun _ _ => rfl)) pe_str) (pe_call G__law_text hr rfl T.m__law_text T.F__law_text.kp T.b__law_text .nil pass0 (pa_cons (pe_ix ixF (pv 0) pe_int (fun _ _ => rfl)) pa_nil))) pe_str) (pe_call G__law_text hr rfl T.m__law_text T.F__law_text.kp T.b__law_text .nil pass0 (pa_cons (pe_ix ixF (pv 0) pe_int (fun _ _ => rfl)) pa_nil))) pe_str)))), ?_⟩
    cases t with
    | leaf x =>
      obtain ⟨a, rfl, ea⟩ := dT_leaf ht
      walk_at "rd"
      refine ⟨_, items_t ea, _, atI_0, rfl, ?_⟩
      rw [decide_eq_true rfl]
      refine iteT ⟨_, items_t ea, _, atI_1, ?_⟩
      have : (⟨(txL (.leaf x)).toArray⟩ : Str) = x := str_ext (by simp [txL])
      rw [this] at q
      exact q
    | knot f l r =>
      obtain ⟨a, vl, vr, rfl, ea, hl', hr'⟩ := dT_knot ht
      simp only [M.Tr.dp] at hd
      have ln : f.cps.toList.length + (txL l).length + (txL r).length + 3 ≤ 50000 := by
        have : (txL (.knot f l r)).length = f.cps.toList.length + 1 + (txL l).length + 1 + (txL r).length + 1 := by simp [txL]; (first | (clear hd hl ea; lia) | omega)
        (first | (clear hd ea; lia) | omega)
      walk_at "rd"
      refine ⟨_, items_t ea, _, atI_0, rfl, ?_⟩
      rw [decide_eq_false (by simp only [V.str.injEq]; decide +kernel)]
      refine iteF ⟨_, items_t ea, _, atI_1, ?_⟩
      try (walk_at "rd")
      have zl : ∀ y : Nat, y ≤ 50000 → y ≤ sizeLine := fun y hy => small_le (by (first | (clear hd hl ea ln; lia) | omega))
      have k1 : (Str.ofString "(").cps.toList = [40] := by decide +kernel
      have k2 : (Str.ofString " ").cps.toList = [32] := by decide +kernel
      have k3 : (Str.ofString ")").cps.toList = [41] := by decide +kernel
      refine ⟨zl _ ?_, _, items_t ea, _, atI_2, l, _, rfl, hl', by (first | (clear k1 k2 k3 ea ln hl; lia) | omega), by (first | (clear k1 k2 k3 hd hl ea; lia) | omega), _, rfl, zl _ ?_, zl _ ?_, _, items_t ea, _, atI_3, r, _, rfl, hr', by (first | (clear k1 k2 k3 ea ln hl; lia) | omega), by (first | (clear k1 k2 k3 hd hl ea; lia) | omega), _, rfl, zl _ ?_, zl _ ?_, ?_⟩
      all_goals try (simp only [len_cps, cps_append, k1, k2, k3, cps_mk, List.length_append, List.length_cons, List.length_nil]; (first | (clear k1 k2 k3 hd hl ea; lia) | omega))
      have : (⟨(txL (.knot f l r)).toArray⟩ : Str) = f ++ Str.ofString "(" ++ ⟨(txL l).toArray⟩ ++ Str.ofString " " ++ ⟨(txL r).toArray⟩ ++ Str.ofString ")" := str_ext (by
        simp only [cps_append, k1, k2, k3, cps_mk, txL]; simp)
      rw [this] at q
      exact q
noncomputable def partsL : L2.Tree → Nat → List (Str × Bool × Nat)
  | .leaf x, d => [(x, true, d)]
  | .knot f l r, d => (f, false, d) :: (partsL l (d + 1) ++ partsL r (d + 1))
noncomputable def dPt (q : Str × Bool × Nat) : D := .tup [.str q.1, .bl q.2.1, .int (q.2.2 : Int)]
theorem dPt_of {H : Hp} {q : Str × Bool × Nat} {v : V} (h : Dt H (dPt q) v) : ∃ a, v = .ref a ∧ H a = some (.tup [.str q.1, .bl q.2.1, .int (q.2.2 : Int)]) := by
  obtain ⟨a, vs, rfl, e, h⟩ := isD_tup.mp h
  obtain ⟨v1, r, rfl, h1, h⟩ := isDs_cons.mp h
  obtain ⟨v2, r, rfl, h2, h⟩ := isDs_cons.mp h
  obtain ⟨v3, r, rfl, h3, h⟩ := isDs_cons.mp h
  rw [isDs_nil.mp h, isD_str.mp h1, isD_bl.mp h2, isD_int.mp h3] at e
  exact ⟨a, rfl, e⟩
theorem partsL_len : ∀ (t : L2.Tree) (d : Nat), (partsL t d).length + 1 = 2 * t.lv.length
  | .leaf x, d => by simp [partsL, M.Tr.lv]
  | .knot f l r, d => by
    have h1 := partsL_len l (d + 1)
    have h2 := partsL_len r (d + 1)
    simp only [partsL, M.Tr.lv, List.length_cons, List.length_append]; (first | lia | omega)
noncomputable def spParts (n : Nat) : Sp := fun vs H Q _ => ∃ (t : L2.Tree) (d : Nat) (v : V), vs = [v, .int d] ∧ Dt H (dT t) v ∧ t.dp ≤ n ∧ t.lv.length ≤ 5000 ∧ RetL H ((partsL t d).map dPt) Q
seal PSs PS PE PT PA PI PIfs in
theorem ok_parts (T : Txt K mg) : ∀ n : Nat, FnOk P w K mg base CX0 (n + 1) T.f__law_parts T.d__law_parts ["tree", "deep"] (spParts n)
  | 0 => by
    refine T.F__law_parts.ok (k := 0) sc__law_parts (fun vs H Q E h => ?_) (fun cdv A outer s H vs Q E hr h => ?_)
    · obtain ⟨t, d, v, rfl, _⟩ := h
      rfl
    · obtain ⟨t, d, v, rfl, _, h, _⟩ := h
      have := t.dp_pos
      omega
  | n + 1 => by
    refine T.F__law_parts.ok (k := n + 1) sc__law_parts (fun vs H Q E h => ?_) (fun cdv A outer s H vs Q E hr h => ?_)
    · obtain ⟨t, d, v, rfl, _⟩ := h
      rfl
    obtain ⟨t, d, v, rfl, ht, hd, hl, q⟩ := h
    have nd := sc__law_parts.nd
    have G__law_parts := ok_parts T n
    refine ⟨_, (pss_cons (ps_if (pt_cmpR op_eq (pe_ix ixF (pv 0) pe_int (fun _ _ => rfl)) pe_str (nomark _)) (pss_one (ps_ret (pe_lst (pa_cons (pe_tup (pa_cons (pe_ix ixF (pv 0) pe_int (fun _ _ => rfl)) (pa_cons pe_bl (pa_cons (pv 1) pa_nil)))) pa_nil)))) pss_nil)
    (pss_one (ps_ret (pe_op op_cat (pe_op op_cat (pe_lst (pa_cons (pe_tup (pa_cons (pe_ix ixF (pv 0) pe_int (fun _ _ => rfl)) (pa_cons pe_bl (pa_cons (pv 1) pa_nil)))) pa_nil)) (pe_call G__law_parts hr rfl T.m__law_parts T.F__law_parts.kp T.b__law_parts .nil pass0 (pa_cons (pe_ix ixF (pv 0) pe_int (fun _ _ => rfl)) (pa_cons (pe_op op_add (pv 1) pe_int) pa_nil)))) (pe_call G__law_parts hr rfl T.m__law_parts T.F__law_parts.kp T.b__law_parts .nil pass0 (pa_cons (pe_ix ixF (pv 0) pe_int (fun _ _ => rfl)) (pa_cons (pe_op op_add (pv 1) pe_int) pa_nil))))))), ?_⟩
    cases t with
    | leaf x =>
      obtain ⟨a, rfl, ea⟩ := dT_leaf ht
      walk_at "rd"
      refine ⟨_, items_t ea, _, atI_0, rfl, ?_⟩
      rw [decide_eq_true rfl]
      refine iteT ⟨_, items_t ea, _, atI_1, by decide, NewO.mk fun p1 H1 S1 n1 e1 => ⟨by decide, NewO.mk fun p2 H2 S2 n2 e2 => ?_⟩⟩
      exact q p2 _ H2 (S1.trans S2) (S1.free n2) e2 (.one (Dt.tup (S2 _ _ e1) (.cons (isD_str.mpr rfl) (.cons (isD_bl.mpr rfl) (.cons (isD_int.mpr rfl) .nil)))))
    | knot f l r =>
      obtain ⟨a, vl, vr, rfl, ea, hl', hr'⟩ := dT_knot ht
      simp only [M.Tr.dp] at hd
      simp only [M.Tr.lv, List.length_append] at hl
      have b1 := partsL_len l (d + 1)
      have b2 := partsL_len r (d + 1)
      walk_at "rd"
      refine ⟨_, items_t ea, _, atI_0, rfl, ?_⟩
      rw [decide_eq_false (by simp only [V.str.injEq]; decide +kernel)]
      refine iteF ⟨_, items_t ea, _, atI_1, by decide, NewO.mk fun p1 H1 S1 n1 e1 => ⟨by decide, NewO.mk fun p2 H2 S2 n2 e2 => ?_⟩⟩
      have S12 := S1.trans S2
      have d1 : Dt H2 (dPt (f, false, d)) (.ref p1) := Dt.tup (S2 _ _ e1) (.cons (isD_str.mpr rfl) (.cons (isD_bl.mpr rfl) (.cons (isD_int.mpr rfl) .nil)))
      try (walk_at "rd")
      refine ⟨_, items_t (S12 _ _ ea), _, atI_2, ?_⟩
      refine ⟨l, d + 1, vl, rfl, hl'.same S12, by (first | (clear n1 e1 n2 e2 b1 b2 hl ea; lia) | omega), by (first | (clear n1 e1 n2 e2 b1 b2 hd ea; lia) | omega), fun p5 ys H5 S5 n5 e5 D5 => ?_⟩
      have l5 := D5.length
      rw [List.length_map] at l5
      try (walk_at "rd")
      refine ⟨_, S5 _ _ e2, _, e5, small_le (by simp only [List.length_cons, List.length_nil]; (first | (clear e1 n2 e2 hd ea b2 n1 n5 e5; lia) | omega)), NewO.mk fun p6 H6 S6 n6 e6 => ⟨_, items_t (S6 _ _ (S5 _ _ (S12 _ _ ea))), _, atI_3, ?_⟩⟩
      have S26 := S5.trans S6
      refine ⟨r, d + 1, vr, rfl, hr'.same (S12.trans S26), by (first | (clear n2 e2 n5 e5 l5 n6 e6 b2 n1 e1 hl b1 ea; lia) | omega), by (first | (clear n2 e2 n5 e5 l5 n6 e6 hd ea e1 b1 b2 n1; lia) | omega), fun p9 zs H9 S9 n9 e9 D9 => ?_⟩
      have l9 := D9.length
      rw [List.length_map] at l9
      refine ⟨p6, rfl, p9, rfl, _, S9 _ _ e6, _, e9, small_le (by simp only [List.length_cons, List.length_nil, List.length_append]; (first | (clear n1 e1 n2 e2 n5 hd ea e6 n9 e5 n6 e9; lia) | omega)), NewO.mk fun pA HA SA nA eA => ?_⟩
      have S29 := S26.trans S9
      refine q pA _ HA (S12.trans (S29.trans SA)) ((S12.trans S29).free nA) eA ?_
      have S6A := S9.trans SA
      simp only [partsL, List.map_cons, List.map_append]
      rw [List.singleton_append]
      exact .cons (d1.same (S26.trans S6A)) (((D5.same S6).same S6A).append (D9.same SA))
theorem partsL_lv : ∀ (t : L2.Tree) (d : Nat), ((partsL t d).filter (·.2.1)).map (·.1) = t.lv
  | .leaf x, d => rfl
  | .knot f l r, d => by
    simp only [partsL, M.Tr.lv, List.filter_cons, List.filter_append, List.map_append, Bool.false_eq_true, if_false]
    rw [partsL_lv l, partsL_lv r]
theorem partsL_max : ∀ (t : L2.Tree) (d : Nat), (∀ q ∈ partsL t d, q.2.2 + 1 ≤ d + t.dp) ∧ ∃ q ∈ partsL t d, q.2.2 + 1 = d + t.dp
  | .leaf x, d => ⟨fun q hq => by rw [List.mem_singleton.mp hq]; simp [M.Tr.dp], _, List.mem_singleton.mpr rfl, by simp [M.Tr.dp]⟩
  | .knot f l r, d => by
    obtain ⟨a1, q1, a2, a3⟩ := partsL_max l (d + 1)
    obtain ⟨b1, q2, b2, b3⟩ := partsL_max r (d + 1)
    have e : (M.Tr.knot f l r).dp = 1 + max l.dp r.dp := by simp only [M.Tr.dp]; (first | (clear a3 b3; lia) | omega)
    have lp := l.dp_pos
    refine ⟨fun q hq => ?_, ?_⟩
    · simp only [partsL, List.mem_cons, List.mem_append] at hq
      rcases hq with rfl | hq | hq
      · rw [e]; dsimp only; (first | (clear a3 b3 e lp; lia) | omega)
      · have := a1 q hq; rw [e]; (first | (clear a3 b3 e lp; lia) | omega)
      · have := b1 q hq; rw [e]; (first | (clear a3 b3 e lp; lia) | omega)
    · by_cases c : r.dp ≤ l.dp
      · exact ⟨q1, by simp [partsL, a2], by rw [e]; (first | (clear e lp b3; lia) | omega)⟩
      · exact ⟨q2, by simp [partsL, b2], by rw [e]; (first | (clear e lp a3; lia) | omega)⟩
noncomputable def allN : L2.Tree → List Str := fun t => (t.wk []).map fun q => q.2.name
theorem partsL_nm : ∀ (t : L2.Tree) (d : Nat) (p : List Nat), (partsL t d).map (·.1) = (t.wk p).map fun q => q.2.name
  | .leaf x, d, p => rfl
  | .knot f l r, d, p => by
    simp only [partsL, M.Tr.wk, List.map_cons, List.map_append]
    rw [partsL_nm l (d + 1) (p ++ [0]), partsL_nm r (d + 1) (p ++ [1])]
    rfl
noncomputable def goodB (t : L2.Tree) : Bool := decide (t.lv.Nodup) && (decide (t.lv.length ≤ 32) && (decide (t.dp ≤ 24) && (allN t).all nameOk))
noncomputable def spGood : Sp := fun vs H Q _ => ∃ (t : L2.Tree) (v : V), vs = [v] ∧ Dt H (dT t) v ∧ t.dp ≤ 31 ∧ t.lv.length ≤ 2001 ∧ (∀ x ∈ allN t, x.length ≤ 2000) ∧ ∀ H', Same H H' → Q (.bl (goodB t)) H'
seal PSs PS PE PT PA PI PIfs in
theorem ok_good (T : Txt K mg) : FnOk P w K mg base CX0 40 T.f__law_good T.d__law_good ["tree"] spGood := by
  refine T.F__law_good.ok (k := 39) sc__law_good (fun vs H Q E h => ?_) (fun cdv A outer s H vs Q E hr h => ?_)
  · obtain ⟨t, v, rfl, _⟩ := h
    rfl
  obtain ⟨t, v, rfl, ht, hd, hl, hn, q⟩ := h
  have nd := sc__law_good.nd
  have G__law_parts := (ok_parts (P := P) (w := w) (base := base) T 31).mono (k := 39) (by omega)
  refine ⟨_, (pss_cons (ps_let (i := 1) nd rfl (Or.inl rfl) (pe_call G__law_parts hr rfl T.m__law_parts T.F__law_parts.kp T.b__law_parts .nil pass0 (pa_cons (pv 0) (pa_cons pe_int pa_nil))))
    (pss_cons (ps_letC (i := 2) (N := ["one"]) (caps := []) rfl ⟨rfl, rfl, rfl, rfl, by decide +kernel, rfl, rfl, rfl, rfl⟩ (piL (pv 1)) (fun _ _ _ _ => pif_one (pt_val (pe_ix ixF (pv 0) pe_int (fun _ _ => rfl)))) (fun _ _ _ _ => (pe_ix ixF (pv 0) pe_int (fun _ _ => rfl))) nd rfl rfl rfl)
    (pss_cons (ps_if (PW.pt (pw_or (pt_cmpR op_ne (pe_lenS rfl rfl T.z_len rfl T.z_set (pv 2)) (pe_callB lenG rfl T.z_len bt_len (pa_cons (pv 2) pa_nil)) (nomark _)) (pw_or (pt_cmpR op_gt (pe_callB lenG rfl T.z_len bt_len (pa_cons (pv 2) pa_nil)) pe_int (nomark _)) (pw_or1 (pt_cmpR op_gt (pe_callB (call_maxS rfl) rfl T.z_max bt_max (pa_cons (pe_comp (N := ["one"]) (caps := []) rfl ⟨rfl, rfl, rfl, rfl, by decide +kernel, rfl, rfl, rfl, rfl⟩ (piL (pv 1)) (fun _ _ _ _ => pif_nil) (fun _ _ _ _ => (pe_ix ixF (pv 0) pe_int (fun _ _ => rfl)))) pa_nil)) pe_int (nomark _)))))) (pss_one (ps_ret pe_bl)) pss_nil)
    (pss_cons (ps_for PassesOwn.never rfl (piL (pv 1)) (pg_tup rfl (pgs_cons (pg_name (i := 3) nd rfl (Or.inl rfl)) (pgs_cons (pg_name (i := 4) nd rfl (Or.inl rfl)) (pgs_cons (pg_name (i := 5) nd rfl (Or.inl rfl)) pgs_nil)))) (pss_cons (ps_letC (i := 6) (N := ["sign"]) (caps := []) rfl ⟨rfl, rfl, rfl, rfl, by decide +kernel, rfl, rfl, rfl, rfl⟩ (pi_str (pv 3)) (fun _ _ _ _ => pif_one (pt_cmpR op_in_str (pv 0) pe_str (by with_unfolding_all rfl))) (fun _ _ _ _ => (pv 0)) nd rfl rfl rfl)
      (pss_one (ps_if (PW.pt (pw_or (pt_cmpR op_ne (pe_callB lenG rfl T.z_len bt_len (pa_cons (pv 6) pa_nil)) (pe_callB call_len_str rfl T.z_len bt_len (pa_cons (pv 3) pa_nil)) (nomark _)) (pw_or1 (pt_not (pt_chain op_le op_le pe_int (pe_callB call_len_str rfl T.z_len bt_len (pa_cons (pv 3) pa_nil)) pe_int))))) (pss_one (ps_ret pe_bl)) pss_nil))))
    (pss_one (ps_ret pe_bl)))))), ?_⟩
  refine cutC2 fun C hC => ?_
  walk_at "rd"
  refine ⟨t, 1, v, rfl, ht, hd, by (first | lia | omega), fun pp ps H1 S1 n1 e1 D1 => ?_⟩
  have lp := partsL_len t 1
  have l1 := D1.length
  rw [List.length_map] at l1
  have at_ : ∀ (i : Nat) (y : V) (H' : Hp), ps[i]? = some y → Same H1 H' → ∃ q, (partsL t 1)[i]? = some q ∧ ∃ a, y = .ref a ∧ H' a = some (.tup [.str q.1, .bl q.2.1, .int (q.2.2 : Int)]) := fun i y H' ey S' => by
    have hi : i < (partsL t 1).length := by have := (List.getElem?_eq_some_iff.mp ey).1; (first | (clear hd hl hC n1 e1 lp ey; lia) | omega)
    obtain ⟨v', hv', dv'⟩ := Dts.map_of (D1.same S') (List.getElem?_eq_getElem hi)
    rw [ey] at hv'; cases hv'
    obtain ⟨a, rfl, ea⟩ := dPt_of dv'
    exact ⟨_, List.getElem?_eq_getElem hi, a, rfl, ea⟩
  refine WalkL.comp e1 (fun i ys H' => ys = (((partsL t 1).take i).filter (·.2.1)).map fun q => V.str q.1) rfl (by (first | (clear hC n1 hd e1; lia) | omega)) (fun i ys H' h => by rw [h, List.length_map]; exact Nat.le_trans (List.length_filter_le ..) (List.length_take_le ..)) (fun i y ys H' ey S' h => ?_) (fun pn ys H2 H3 S2 S3 h n3 e3 => ?_)
  · obtain ⟨qq, eq, a, rfl, ea⟩ := at_ i y H' ey S'
    walk_at "rd"
    refine ⟨_, items_t ea, _, atI_1, _, rfl, ite2 (fun c => ⟨_, items_t ea, _, atI_0, S', ?_⟩) (fun c => ⟨S', ?_⟩)⟩
    · rw [h, List.take_add_one, eq]; simp [List.filter_append, c]
    · rw [h, List.take_add_one, eq]; simp [List.filter_append, c]
  rw [l1, List.take_length] at h
  have hys : ys = t.lv.map V.str := by rw [h, ← partsL_lv t 1, List.map_map]; rfl
  rw [hys] at e3
  have S23 := S2.trans S3
  have S13 := S1.trans S23
  clear hys h n3
  rw [hC]
  clear hC C
  refine cutC1 fun C hC => ?_
  rw [a_tSeq]
  simp only [a_tLenS, a_tFor, a_tSet, a_tSetC, a_tVar, a_tC, a_tB, a_tAnd, a_tOr, a_tNot, a_tAndV, a_tOrV, a_tNext, a_tDrop, a_tRet, a_tIfS, a_gName, a_gNil, a_gCons, a_gTup, a_gSub, a_tAsg, a_tAug, a_iRng1, a_tOp, a_rI, a_rI0, a_rEq, a_rNe, a_tTest, a_tChain, a_tNil, a_tCons, b_tTup, b_tLst, a_tCall, a_tCB, a_tNoPart, a_tPart, a_tSl, a_rIxL, a_rIxS, b_rSetL, a_tBM, b_rAppend, b_rExtend, b_rCat, b_rRep, a_tDIn, a_sDPut, b_tDNewK, a_tYes, a_tComp, a_iStr, a_rSlS, a_rJoin, a_rMulS, a_rEqD, a_rCatD, a_rIxF, a_rSlLF, a_rLenF, a_rIntB, ty_str, tJs, a_tFmtD, a_tFmtR, a_tFmtI, a_tRaise, a_tTry, a_tCallJ, a_rIsE, a_rMaxS, a_ipI, a_iL, a_iT, L2.start, blkSt, cxOf_K, blk_K, List.getElem?_cons_zero, List.getElem?_cons_succ, Option.some.injEq, Option.join_some, exists_eq_left', exists_eq_left, exists_eq_right, V.int.injEq, V.ref.injEq, V.str.injEq, V.bl.injEq, V.ty.injEq, and_true, true_and, List.set_cons_zero, List.set_cons_succ, List.cons.injEq, List.cons_append, List.nil_append, List.append_nil, List.map_cons, List.map_nil, List.length_cons, List.length_nil, List.replicate, exists_and_left, exists_and_right, Nat.reduceAdd, Nat.reduceSub, atI_0, atI_1, atI_2, atI_3, atI_4, if_true, if_false, Bool.false_eq_true, scal_ii, scal_ss, scal_bb]
  have dl := ddS_len t.lv
  have eq1 : decide (((ddS t.lv).length : Int) = ((t.lv.map V.str).length : Int)) = decide (t.lv.Nodup) := by
    rw [List.length_map, Bool.eq_iff_iff]
    simp only [decide_eq_true_eq]
    rw [← dl.2]
    (first | (clear hd hl n1 e1 lp l1 e3 hC dl; lia) | omega)
  refine ⟨t.lv, e3, by (first | lia | omega), _, items_l e3, ?_⟩
  rw [eq1]
  have gd : goodB t = (decide (t.lv.Nodup) && (decide (t.lv.length ≤ 32) && (decide (t.dp ≤ 24) && (allN t).all nameOk))) := rfl
  rw [gd] at q
  by_cases c1 : t.lv.Nodup
  rotate_left
  · rw [decide_eq_false c1] at q ⊢
    exact iteT (q H3 S13)
  rw [decide_eq_true c1, Bool.true_and] at q
  rw [decide_eq_true c1]
  refine iteF ⟨_, items_l e3, ?_⟩
  by_cases c2 : t.lv.length ≤ 32
  rotate_left
  · rw [decide_eq_false c2] at q
    rw [decide_eq_true (show (32 : Int) < ((t.lv.map V.str).length : Int) by rw [List.length_map]; (first | (clear hd hl n1 e1 lp l1 e3 hC dl eq1 gd; omega) | omega))]
    exact iteT (q H3 S13)
  rw [decide_eq_true c2, Bool.true_and] at q
  rw [decide_eq_false (show ¬ (32 : Int) < ((t.lv.map V.str).length : Int) by rw [List.length_map]; (first | (clear hd hl n1 e1 lp l1 e3 hC dl eq1 gd; lia) | omega))]
  refine iteF ?_
  refine WalkL.comp (S23 _ _ e1) (fun i ys H' => ys = (((partsL t 1).take i).map fun q => (q.2.2 : Int)).map V.int) rfl (by (first | (clear e3 hC dl eq1 gd c2 n1 e1 hd; lia) | omega)) (fun i ys H' h => by rw [h, List.length_map, List.length_map]; exact List.length_take_le ..) (fun i y ys H' ey S' h => ?_) (fun pm ms H4 H5 S4 S5 h n5 e5 => ?_)
  · obtain ⟨qq, eq, a, rfl, ea⟩ := at_ i y H' ey (S23.trans S')
    walk_at "rd"
    refine ⟨_, items_t ea, _, atI_2, S', ?_⟩
    rw [h, List.take_add_one, eq]; simp
  rw [l1, List.take_length] at h
  rw [h] at e5
  obtain ⟨mx1, qm, mx2, mx3⟩ := partsL_max t 1
  have S15 := (S13.trans S4).trans S5
  refine ⟨pm, rfl, _, items_l e5, fun y => ?_, fun m hm hmax => ?_⟩
  · have := congrArg List.length y
    rw [List.length_map, List.length_nil] at this
    have := t.lv_pos
    (first | (clear eq1 gd c2 h n5 e5 mx3 y this l1 e3 hC dl hd hl n1 e1; lia) | omega)
  obtain ⟨q1, hq1, rfl⟩ := List.mem_map.mp hm
  have k1 := mx1 q1 hq1
  have k2 := hmax _ (List.mem_map.mpr ⟨qm, mx2, rfl⟩)
  have em : q1.2.2 = t.dp := by (first | (clear hd hl n1 e1 lp l1 e3 hC dl eq1 gd c2 h n5 e5; lia) | omega)
  rw [em]
  by_cases c3 : t.dp ≤ 24
  rotate_left
  · rw [decide_eq_false c3] at q
    rw [decide_eq_true (show (24 : Int) < ((t.dp : Nat) : Int) by (first | (clear hd hl n1 e1 lp l1 e3 hC dl eq1 gd c2 h n5 e5 mx3 k1 k2 em; omega) | omega))]
    exact iteT (q H5 S15)
  rw [decide_eq_true c3, Bool.true_and] at q
  rw [decide_eq_false (show ¬ (24 : Int) < ((t.dp : Nat) : Int) by (first | (clear hd hl n1 e1 lp l1 e3 hC dl eq1 gd c2 h n5 e5 mx3 k1 k2 em; lia) | omega))]
  refine iteF ?_
  rw [hC]
  clear hC C
  refine cutC1 fun C hC => ?_
  walk_at "rd"
  have e1' := S5 _ _ (S4 _ _ (S23 _ _ e1))
  have alle : allN t = (partsL t 1).map (·.1) := (partsL_nm t 1 []).symm
  obtain ⟨Pv, hPv⟩ : ∃ Pv : Nat → St → Hp → Prop, ∀ i σ H', Pv i σ H' ↔ Same H5 H' ∧ (∀ x ∈ (allN t).take i, nameOk x = true) ∧ ∃ o3 o4 o5 o6 : Option V, σ = [some v, some (V.ref pp), some (V.ref pn), o3, o4, o5, o6] := ⟨_, fun _ _ _ => Iff.rfl⟩
  refine WalkL.for e1' Pv ((hPv _ _ _).mpr ⟨Same.refl _, by simp, none, none, none, none, rfl⟩) (fun i σ H' _ h => ((hPv _ _ _).mp h).1 _ _ e1') ?_ ?_
  · intro i y σ H' ey h
    obtain ⟨U1, hok, o3, o4, o5, o6, rfl⟩ := (hPv _ _ _).mp h
    obtain ⟨qq, eq, a, rfl, ea⟩ := at_ i y H' ey (((S23.trans S4).trans S5).trans U1)
    have ex : (allN t)[i]? = some qq.1 := by rw [alle, List.getElem?_map, eq]; rfl
    have hx := hn _ (List.mem_of_getElem? ex)
    walk_at "rd"
    generalize hxx : qq.1 = x at ex hx ea
    have zl : x.length ≤ sizeLine := line_le (by (first | (clear hd hl n1 e1 lp l1 e3 dl eq1 gd c2 n5 e5 mx3 k1 k2 em c3 hC e1' alle eq ey hxx ex ea; lia) | omega))
    have el : x.cps.toList.length = x.length := by simp [Str.length]
    have bad : nameOk x = false → ∀ H'', Same H' H'' → Q (.bl false) H'' := fun hb H'' S'' => by
      have : (allN t).all nameOk = false := by
        cases hh : (allN t).all nameOk with
        | false => rfl
        | true => have := List.all_eq_true.mp hh x (List.mem_of_getElem? ex); rw [hb] at this; cases this
      rw [this] at q
      exact q H'' ((S15.trans U1).trans S'')
    have nk : nameOk x = (decide (1 ≤ x.length) && (decide (x.length ≤ 8) && x.cps.toList.all isAz)) := by
      unfold nameOk isName
      rw [el]
      rfl
    refine ⟨_, SqT.of ea, rfl, _, _, rfl, _, _, rfl, _, _, rfl, rfl, _, rfl, comp_str (fun j ys H'' => H'' = H' ∧ j ≤ x.cps.size ∧ ys = ((x.cps.toList.take j).filter isAz).map (fun c => V.str ⟨#[c]⟩)) ⟨rfl, Nat.zero_le _, rfl⟩ (Nat.lt_of_le_of_lt hx (by decide)) (fun j ys H'' h => ?_) (fun j c ys H'' ec h => ?_) (fun ys H'' h p hp => ?_)⟩
    · rw [h.2.2, List.length_map]
      have := List.length_filter_le isAz (x.cps.toList.take j)
      rw [List.length_take] at this
      (first | (clear hd hl n1 e1 lp l1 e3 dl eq1 gd c2 n5 e5 mx3 k1 k2 em c3 hC e1' alle eq ey hxx ex hx ea zl el bad nk h; lia) | omega)
    · obtain ⟨rfl, hj, rfl⟩ := h
      walk_at "rd"
      rw [PySem.StrLaws.found_one, az_in c]
      have hlt : j < x.cps.size := (Array.getElem?_eq_some_iff.mp ec).1
      have ec' : x.cps.toList[j]? = some c := by simpa using ec
      refine ite2 (fun d => ⟨hlt, ?_⟩) (fun d => ⟨hlt, ?_⟩)
      · rw [List.take_add_one, ec']
        simp [List.filter_append, d]
      · rw [List.take_add_one, ec']
        simp [List.filter_append, d]
    · obtain ⟨rfl, _, rfl⟩ := h
      have ew : x.cps.toList.take x.cps.size = x.cps.toList := List.take_of_length_le (by simp)
      rw [ew]
      have S2' := same_new hp (.lst ((x.cps.toList.filter isAz).map (fun c => V.str ⟨#[c]⟩)))
      have e2' := @upd_same H'' p (.lst ((x.cps.toList.filter isAz).map (fun c => V.str ⟨#[c]⟩)))
      generalize upd H'' p (.lst ((x.cps.toList.filter isAz).map (fun c => V.str ⟨#[c]⟩))) = H7 at S2' e2'
      refine ⟨p, rfl, _, items_l e2', x, rfl, zl, ?_⟩
      rw [List.length_map]
      by_cases c1 : x.cps.toList.all isAz = true
      · have lf : (x.cps.toList.filter isAz).length = x.length := by rw [List.filter_eq_self.mpr (List.all_eq_true.mp c1), el]
        rw [decide_eq_true (show (((x.cps.toList.filter isAz).length : Nat) : Int) = (x.length : Int) by rw [lf])]
        refine iteF ⟨x, rfl, zl, ?_⟩
        by_cases c2 : 1 ≤ x.length
        · rw [decide_eq_true (show (1 : Int) ≤ (x.length : Int) by (first | (clear hd hl n1 e1 lp l1 e3 dl eq1 gd n5 e5 mx3 k1 k2 em c3 hC e1' alle eq ey hxx ex hx zl el nk hp ea bad ew e2' c1 lf; lia) | omega))]
          refine iteT ?_
          by_cases c3 : x.length ≤ 8
          · rw [decide_eq_true (show (x.length : Int) ≤ 8 by (first | (clear hd hl n1 e1 lp l1 e3 dl eq1 gd n5 e5 mx3 k1 k2 em hC e1' alle eq ey hxx ex hx zl el nk hp ea bad ew e2' c1 lf c2; lia) | omega))]
            refine iteF ((hPv _ _ _).mpr ⟨U1.trans S2', fun y hy => ?_, _, _, _, _, rfl⟩)
            rw [List.take_add_one, ex] at hy
            rcases List.mem_append.mp hy with hy | hy
            · exact hok y hy
            · have hy : y = x := by simpa using hy
              rw [hy, nk, decide_eq_true c2, decide_eq_true c3, c1]; rfl
          · rw [decide_eq_false (show ¬ (x.length : Int) ≤ 8 by (first | (clear hd hl n1 e1 lp l1 e3 dl eq1 gd n5 e5 mx3 k1 k2 em hC e1' alle eq ey hxx ex hx zl el nk hp ea bad ew e2' c1 lf c2; lia) | omega))]
            exact iteT (bad (by rw [nk, decide_eq_false c3]; simp) _ S2')
        · rw [decide_eq_false (show ¬ (1 : Int) ≤ (x.length : Int) by (first | (clear hd hl n1 e1 lp l1 e3 dl eq1 gd n5 e5 mx3 k1 k2 em c3 hC e1' alle eq ey hxx ex hx zl el nk hp ea bad ew e2' c1 lf; lia) | omega))]
          exact iteF (iteT (bad (by rw [nk, decide_eq_false c2]; rfl) _ S2'))
      · have lf : ¬ (x.cps.toList.filter isAz).length = x.length := fun y => c1 (by
          rw [← el] at y
          exact List.all_eq_true.mpr (List.filter_eq_self.mp ((List.filter_sublist).eq_of_length y)))
        rw [decide_eq_false (show ¬ (((x.cps.toList.filter isAz).length : Nat) : Int) = (x.length : Int) by (first | (clear hd hl n1 e1 lp l1 e3 dl eq1 gd c2 n5 e5 mx3 k1 k2 em c3 hC e1' alle eq ey hxx ex hx zl el nk hp ea bad ew e2' c1; lia) | omega))]
        exact iteT (bad (by rw [nk]; simp at c1 ⊢; intro _ _; exact c1) _ S2')
  · intro σ H' h
    obtain ⟨U1, hok, o3, o4, o5, o6, rfl⟩ := (hPv _ _ _).mp h
    have ll : ps.length = (allN t).length := by rw [alle, List.length_map]; omega
    rw [ll, List.take_length] at hok
    dsimp only
    rw [hC]
    walk_at "rd"
    rw [List.all_eq_true.mpr hok] at q
    exact q H' (S15.trans U1)
/-! ### the two readings come to the same -/
theorem tw_take {α : Type} (p : α → Bool) : ∀ m : List α, m.take (m.takeWhile p).length = m.takeWhile p
  | [] => rfl
  | a :: m => by
    rw [List.takeWhile_cons]
    split
    · rw [List.length_cons, List.take_succ_cons, tw_take p m]
    · rfl
theorem tw_less {α : Type} {p q : α → Bool} (h : ∀ c, q c = true → p c = true) : ∀ m : List α, (∀ c ∈ m.takeWhile p, q c = true) → m.takeWhile q = m.takeWhile p
  | [], _ => rfl
  | a :: m, k => by
    rw [List.takeWhile_cons, List.takeWhile_cons]
    by_cases c : p a = true
    · have qa := k a (by rw [List.takeWhile_cons, if_pos c]; simp)
      rw [if_pos c, if_pos qa, tw_less h m fun c' hc' => k c' (by rw [List.takeWhile_cons, if_pos c]; simp [hc'])]
    · rw [if_neg c, if_neg fun y => c (h a y)]
theorem tw_stop {α : Type} {p q : α → Bool} (h : ∀ c, q c = true → p c = true) : ∀ m : List α, (∀ c, m[(m.takeWhile q).length]? = some c → p c = false) → m.takeWhile p = m.takeWhile q
  | [], _ => rfl
  | a :: m, k => by
    rw [List.takeWhile_cons, List.takeWhile_cons]
    by_cases c : q a = true
    · rw [if_pos c, if_pos (h a c), tw_stop h m fun c' hc' => k c' (by rw [List.takeWhile_cons, if_pos c, List.length_cons, List.getElem?_cons_succ]; exact hc')]
    · have := k a (by rw [List.takeWhile_cons, if_neg c]; rfl)
      rw [if_neg c, this]; rfl
theorem az_sign (c : Nat) (h : isAz c = true) : (!isSign c) = true := by
  simp only [isAz, Bool.and_eq_true, decide_eq_true_eq] at h
  simp only [isSign, Bool.not_eq_true', Bool.or_eq_false_iff, beq_eq_false_iff_ne]
  (first | lia | omega)
noncomputable def azL (x : Str) : Prop := ∀ c ∈ x.cps.toList, isAz c = true
noncomputable def azT : L2.Tree → Prop
  | .leaf x => azL x ∧ x.cps.toList ≠ []
  | .knot f l r => (azL f ∧ f.cps.toList ≠ []) ∧ azT l ∧ azT r
theorem end_az {l : List Nat} {s : Nat} (h : azL ⟨((l.drop s).take (nameEnd l s - s)).toArray⟩) : azEnd l s = nameEnd l s := by
  have e : nameEnd l s - s = ((l.drop s).takeWhile fun c => !isSign c).length := by unfold nameEnd; (first | lia | omega)
  have h' : ∀ c ∈ (l.drop s).takeWhile (fun c => !isSign c), isAz c = true := fun c hc => h c (by
    show c ∈ ((l.drop s).take (nameEnd l s - s)).toArray.toList
    rw [e, tw_take]; exact hc)
  unfold azEnd nameEnd
  rw [tw_less az_sign _ h']
theorem end_sign {l : List Nat} {s : Nat} (h : ∀ c, l[azEnd l s]? = some c → isSign c = true) : nameEnd l s = azEnd l s := by
  have h' : ∀ c, (l.drop s)[((l.drop s).takeWhile isAz).length]? = some c → (!isSign c) = false := fun c hc => by
    rw [List.getElem?_drop] at hc
    rw [h c hc]; rfl
  unfold azEnd nameEnd
  rw [tw_stop az_sign _ h']
theorem lr_tf {l : List Nat} : ∀ {n s : Nat} {t : L2.Tree} {e : Nat}, tf l n s = some (t, e) → azT t → ∀ k, n ≤ k → lr l k s = (t, e)
  | 0, _, _, _, h, _, _, _ => by simp [tf] at h
  | n + 1, s, t, e, h, ha, k, hk => by
    obtain ⟨k, rfl⟩ : ∃ j, k = j + 1 := ⟨k - 1, by (first | lia | omega)⟩
    simp only [tf] at h
    split at h
    · rename_i h40
      split at h
      · cases h
      · rename_i a m hA
        split at h
        · rename_i h32
          split at h
          · cases h
          · rename_i b y hB
            split at h
            · rename_i h41
              cases h
              obtain ⟨⟨f1, f2⟩, a1, b1⟩ := ha
              have ee := end_az f1
              rw [lr, ee, if_pos h40, lr_tf hA a1 k (by (first | lia | omega))]
              dsimp only
              rw [if_pos h32, lr_tf hB b1 k (by (first | lia | omega))]
              dsimp only
              rw [if_pos h41]
            · cases h
        · cases h
    · rename_i h40
      cases h
      have ee := end_az ha.1
      rw [lr, ee, if_neg h40]
theorem tf_lr {l : List Nat} : ∀ (k : Nat) {n s : Nat} {t : L2.Tree} {e : Nat}, lr l k s = (t, e) → azT t → t.dp ≤ n → n ≤ k → (e = l.length ∨ l[e]? = some 32 ∨ l[e]? = some 41) → tf l n s = some (t, e)
  | 0, n, s, t, e, h, ha, hd, hk, he => by have := t.dp_pos; (first | lia | omega)
  | k + 1, n, s, t, e, h, ha, hd, hk, he => by
    obtain ⟨n, rfl⟩ : ∃ j, n = j + 1 := ⟨n - 1, by have := t.dp_pos; (first | lia | omega)⟩
    have emp : ¬ azT (.leaf (Str.ofString "")) := fun y => y.2 (by decide +kernel)
    rw [lr] at h
    split at h
    · rename_i h40
      have en : nameEnd l s = azEnd l s := end_sign fun c hc => by rw [h40] at hc; cases hc; rfl
      split at h
      · rename_i h32
        split at h
        · rename_i h41
          cases h
          obtain ⟨⟨f1, f2⟩, a1, b1⟩ := ha
          simp only [M.Tr.dp] at hd
          have A := tf_lr k (n := n) rfl a1 (by (first | (clear hk emp h40 en h32 f2 he h41; lia) | omega)) (by (first | lia | omega)) (.inr (.inl h32))
          have B := tf_lr k (n := n) rfl b1 (by (first | (clear hk emp h40 en h32 f2 A he h41; lia) | omega)) (by (first | lia | omega)) (.inr (.inr h41))
          simp only [tf]
          rw [en, if_pos h40, A]
          dsimp only
          rw [if_pos h32, B]
          dsimp only
          rw [if_pos h41]
        · cases h; exact absurd ha emp
      · cases h; exact absurd ha emp
    · rename_i h40
      cases h
      have en : nameEnd l s = azEnd l s := end_sign fun c hc => by
        rcases he with y | y | y
        · rw [List.getElem?_eq_none (by (first | (clear hk emp h40 hd hc; lia) | omega))] at hc; cases hc
        · rw [y] at hc; cases hc; rfl
        · rw [y] at hc; cases hc; rfl
      simp only [tf]
      rw [en, if_neg h40]
theorem nameOk_az {x : Str} (h : nameOk x = true) : azL x ∧ x.cps.toList ≠ [] := by
  unfold nameOk isName at h
  simp only [Bool.and_eq_true, decide_eq_true_eq, List.all_eq_true] at h
  refine ⟨fun c hc => ?_, fun y => by rw [y] at h; simp at h⟩
  have := h.2.2 c hc
  simpa [isAz] using this
theorem azT_of : ∀ (t : L2.Tree) (p : List Nat), (∀ q ∈ t.wk p, nameOk q.2.name = true) → azT t
  | .leaf x, p, h => nameOk_az (h (p, .leaf x) (by simp [M.Tr.wk]))
  | .knot f l r, p, h => ⟨nameOk_az (h (p, .knot f l r) (by simp [M.Tr.wk])), azT_of l (p ++ [0]) fun q hq => h q (by simp [M.Tr.wk, hq]), azT_of r (p ++ [1]) fun q hq => h q (by simp [M.Tr.wk, hq])⟩
theorem scan_three : ∀ (l : List (List Nat × L2.Tree)) (seen : List Str), scan seen l = 3 ↔ (∀ q ∈ l, nameOk q.2.name = true) ∧ ((l.filter fun q => q.2.isL).map fun q => q.2.name).Nodup ∧ ∀ x ∈ (l.filter fun q => q.2.isL).map fun q => q.2.name, x ∉ seen
  | [], seen => by simp [scan]
  | q :: l, seen => by
    simp only [scan]
    by_cases c1 : nameOk q.2.name = true
    · rw [if_pos c1]
      by_cases c2 : q.2.isL = true
      · rw [if_pos c2, List.filter_cons, if_pos c2, List.map_cons, List.nodup_cons]
        by_cases c3 : q.2.name ∈ seen
        · rw [if_pos c3]
          constructor
          · intro y; cases y
          · intro y; exact absurd c3 (y.2.2 _ (by simp))
        · rw [if_neg c3, scan_three l]
          constructor
          · rintro ⟨a1, a2, a3⟩
            refine ⟨fun y hy => ?_, ⟨fun y => ?_, a2⟩, fun x hx => ?_⟩
            · rcases List.mem_cons.mp hy with rfl | hy
              · exact c1
              · exact a1 y hy
            · exact a3 _ y (by simp)
            · rcases List.mem_cons.mp hx with rfl | hx
              · exact c3
              · exact fun y => a3 x hx (List.mem_append_left _ y)
          · rintro ⟨a1, ⟨a2, a3⟩, a4⟩
            refine ⟨fun y hy => a1 y (List.mem_cons_of_mem _ hy), a3, fun x hx y => ?_⟩
            rcases List.mem_append.mp y with y | y
            · exact a4 x (List.mem_cons_of_mem _ hx) y
            · rw [List.mem_singleton.mp y] at hx; exact a2 hx
      · rw [if_neg c2, List.filter_cons, if_neg c2, scan_three l]
        constructor
        · rintro ⟨a1, a2, a3⟩
          exact ⟨fun y hy => (List.mem_cons.mp hy).elim (fun z => z ▸ c1) (a1 y), a2, a3⟩
        · rintro ⟨a1, a2, a3⟩
          exact ⟨fun y hy => a1 y (List.mem_cons_of_mem _ hy), a2, a3⟩
    · rw [if_neg c1]
      constructor
      · intro y; cases y
      · intro y; exact absurd (y.1 q (by simp)) c1
theorem due_good (t : L2.Tree) : due t = 3 ↔ goodB t = true := by
  have e := M.Tr.wk_lv t []
  unfold due goodB
  simp only [Bool.and_eq_true, decide_eq_true_eq]
  by_cases c : 24 < t.dp ∨ 32 < t.lv.length
  · rw [if_pos c]
    constructor
    · intro y; cases y
    · intro y; (first | lia | omega)
  · rw [if_neg c, scan_three]
    rw [e]
    have al : (allN t).all nameOk = true ↔ ∀ q ∈ t.wk [], nameOk q.2.name = true := by
      rw [List.all_eq_true]
      unfold allN
      constructor
      · intro h q hq; exact h _ (List.mem_map.mpr ⟨q, hq, rfl⟩)
      · intro h x hx
        obtain ⟨q, hq, rfl⟩ := List.mem_map.mp hx
        exact h q hq
    rw [al]
    constructor
    · rintro ⟨a1, a2, _⟩
      exact ⟨a2, by omega, by omega, a1⟩
    · rintro ⟨a1, _, _, a2⟩
      exact ⟨a2, a1, fun x _ y => by cases y⟩
theorem good_az {t : L2.Tree} (h : goodB t = true) : azT t ∧ t.dp ≤ 24 := by
  unfold goodB at h
  simp only [Bool.and_eq_true, decide_eq_true_eq, List.all_eq_true] at h
  exact ⟨azT_of t [] fun q hq => h.2.2.2 _ (List.mem_map.mpr ⟨q, hq, rfl⟩), h.2.2.1⟩
theorem read_eq (z : Str) : rdT z = if (lr z.cps.toList 30 0).2 = z.length ∧ goodB (lr z.cps.toList 30 0).1 = true then some (lr z.cps.toList 30 0).1 else none := by
  have lz := len_cps z
  generalize hlr : lr z.cps.toList 30 0 = r0
  obtain ⟨t0, e0⟩ := r0
  dsimp only
  by_cases c : e0 = z.length ∧ goodB t0 = true
  · rw [if_pos c]
    obtain ⟨a1, a2⟩ := good_az c.2
    have h := tf_lr 30 (n := 24) hlr a1 a2 (by omega) (.inl (by rw [c.1]; exact lz))
    unfold rdT
    rw [h]
    dsimp only
    rw [if_pos ⟨c.1, (due_good _).mpr c.2⟩]
  · rw [if_neg c]
    unfold rdT
    cases h : tf z.cps.toList 24 0 with
    | none => rfl
    | some r =>
      obtain ⟨t, e⟩ := r
      dsimp only
      by_cases d : e = z.length ∧ due t = 3
      · have g := (due_good t).mp d.2
        have := lr_tf h (good_az g).1 30 (by omega)
        rw [hlr] at this
        cases this
        exact absurd ⟨d.1, g⟩ c
      · rw [if_neg d]
theorem lr_low {z : Str} (hz : z.length ≤ 1900) : ∀ (n s : Nat), s ≤ z.length → (lr z.cps.toList n s).1.dp ≤ n + 1 ∧ (lr z.cps.toList n s).1.lv.length + s ≤ (lr z.cps.toList n s).2 + 1 ∧ ∀ p, ∀ q ∈ (lr z.cps.toList n s).1.wk p, q.2.name.length ≤ 2000 := by
  have lz := len_cps z
  have nm : ∀ s e, (⟨((z.cps.toList.drop s).take e).toArray⟩ : Str).length ≤ 2000 := fun s e => by
    have : (⟨((z.cps.toList.drop s).take e).toArray⟩ : Str).length = ((z.cps.toList.drop s).take e).length := by simp [Str.length]
    rw [this, List.length_take, List.length_drop]; (first | (clear this; lia) | omega)
  have em : (Str.ofString "").length ≤ 2000 := by decide +kernel
  have leafc : ∀ (n s e : Nat) (x : Str), s ≤ e → x.length ≤ 2000 → ((M.Tr.leaf x : L2.Tree), e).1.dp ≤ n + 1 ∧ ((M.Tr.leaf x : L2.Tree), e).1.lv.length + s ≤ ((M.Tr.leaf x : L2.Tree), e).2 + 1 ∧ ∀ p, ∀ q ∈ ((M.Tr.leaf x : L2.Tree), e).1.wk p, q.2.name.length ≤ 2000 := fun n s e x h1 h2 => by
    refine ⟨by simp [M.Tr.dp], by simp [M.Tr.lv]; (first | (clear hz lz em h2; lia) | omega), fun p q hq => ?_⟩
    simp only [M.Tr.wk, List.mem_singleton] at hq
    rw [hq]; exact h2
  intro n
  induction n with
  | zero => intro s hs; exact leafc 0 s _ _ (azEnd_ge _ _) (nm _ _)
  | succ n ih =>
    intro s hs
    have h1 := azEnd_ge z.cps.toList s
    have h2 : azEnd z.cps.toList s ≤ z.length := by rw [lz]; exact azEnd_le (by (first | lia | omega))
    simp only [lr]
    split
    · rename_i c
      have c1 := (List.getElem?_eq_some_iff.mp c).1
      have A := lr_le z.cps.toList n (azEnd z.cps.toList s + 1) (by (first | (clear hz lz em hs h1 h2 c; lia) | omega))
      obtain ⟨A1, A2, A3⟩ := ih (azEnd z.cps.toList s + 1) (by (first | (clear hs h1 h2 em c hz A; lia) | omega))
      split
      · rename_i d
        have d1 := (List.getElem?_eq_some_iff.mp d).1
        have B := lr_le z.cps.toList n ((lr z.cps.toList n (azEnd z.cps.toList s + 1)).2 + 1) (by (first | (clear hz lz em hs h1 h2 c c1 A A1 A2 d; lia) | omega))
        obtain ⟨B1, B2, B3⟩ := ih ((lr z.cps.toList n (azEnd z.cps.toList s + 1)).2 + 1) (by (first | (clear h1 h2 c c1 A A1 A2 d em hs hz B; lia) | omega))
        split
        · refine ⟨?_, ?_, fun p q hq => ?_⟩
          · simp only [M.Tr.dp]; (first | (clear hz lz em hs h1 h2 c c1 A2 d d1 B A B2; lia) | omega)
          · simp only [M.Tr.lv, List.length_append]; (first | (clear hz lz em hs c c1 A A1 d1 B h2 d B1; lia) | omega)
          · simp only [M.Tr.wk, List.mem_cons, List.mem_append] at hq
            rcases hq with rfl | hq | hq
            · exact nm _ _
            · exact A3 _ q hq
            · exact B3 _ q hq
        · exact leafc _ _ _ _ (by (first | (clear hz lz em hs A A1 B1 B2 h2 c c1 d d1; lia) | omega)) em
      · exact leafc _ _ _ _ (by (first | (clear hz lz em A1 A2 h2 c hs c1; lia) | omega)) em
    · exact leafc _ _ _ _ h1 (nm _ _)
/-! ### the law -/
noncomputable def jn (m : List Nat) : List (List Nat) → List Nat
  | [] => []
  | [d] => d
  | d :: e :: r => d ++ m ++ jn m (e :: r)
theorem jn_cps (sep : Str) : ∀ ds : List Str, (Str.join sep ds).cps.toList = jn sep.cps.toList (ds.map fun d => d.cps.toList)
  | [] => rfl
  | [d] => rfl
  | d :: e :: r => by
    show (d ++ sep ++ Str.join sep (e :: r)).cps.toList = _
    simp only [Str.cps_append, Array.toList_append, jn_cps sep (e :: r), List.map_cons, jn]
theorem len_jn (m : List Nat) : ∀ ds : List (List Nat), (jn m ds).length ≤ (ds.map List.length).sum + ds.length * m.length
  | [] => by simp [jn]
  | [d] => by simp [jn]
  | d :: e :: r => by
    have := len_jn m (e :: r)
    simp only [jn, List.length_append, List.map_cons, List.sum_cons, List.length_cons, Nat.add_mul] at this ⊢
    (first | lia | omega)
theorem jn_mem {s : List Nat} {c : Nat} : ∀ {l : List (List Nat)}, c ∈ jn s l → c ∈ s ∨ ∃ z ∈ l, c ∈ z
  | [], h => by simp [jn] at h
  | [a], h => .inr ⟨a, by simp, h⟩
  | a :: b :: l, h => by
    simp only [jn, List.mem_append] at h
    rcases h with (h | h) | h
    · exact .inr ⟨a, by simp, h⟩
    · exact .inl h
    · rcases jn_mem h with h | ⟨z, hz, h⟩
      · exact .inl h
      · exact .inr ⟨z, by simp [List.mem_cons.mp hz], h⟩
theorem join_mem {s : Str} {c : Nat} {l : List Str} (h : c ∈ (Txt.join s l).cps.toList) : c ∈ s.cps.toList ∨ ∃ z ∈ l, c ∈ z.cps.toList := by
  unfold Txt.join at h
  rw [StrLaws.glued_eq_join, jn_cps] at h
  rcases jn_mem h with h | ⟨z, hz, h⟩
  · exact .inl h
  · obtain ⟨y, hy, rfl⟩ := List.mem_map.mp hz
    exact .inr ⟨y, hy, h⟩
theorem join0_low {b : Nat} {ys : List Str} (h : ∀ y ∈ ys, lowT b y) : lowT (b * ys.length) (Txt.join (Str.ofString "") ys) := by
  have e0 : (Str.ofString "").cps.toList = [] := by decide +kernel
  have e : (Txt.join (Str.ofString "") ys).cps.toList = jn [] (ys.map fun z => z.cps.toList) := by
    unfold Txt.join
    rw [StrLaws.glued_eq_join, jn_cps, e0]
  refine ⟨?_, fun c hc => ?_⟩
  · have h1 := len_jn [] (ys.map fun z => z.cps.toList)
    rw [← e] at h1
    have h2 : (Txt.join (Str.ofString "") ys).cps.toList.length = (Txt.join (Str.ofString "") ys).length := by simp [Str.length]
    have h3 : ((ys.map fun z => z.cps.toList).map List.length).sum ≤ b * ys.length := by
      clear h1 h2 e
      induction ys with
      | nil => simp
      | cons y ys ih =>
        have a1 := (h y (by simp)).1
        have a2 := ih fun z hz => h z (by simp [hz])
        have a3 := len_cps y
        simp only [List.map_cons, List.sum_cons, List.length_cons, Nat.mul_succ] at a2 ⊢
        (first | lia | omega)
    rw [List.length_nil, Nat.mul_zero] at h1
    (first | lia | omega)
  · rcases join_mem hc with y | ⟨z, hz, y⟩
    · rw [e0] at y; cases y
    · exact (h z hz).2 c y
theorem app_low {m n : Nat} {x y : Str} (h : lowT m x) (k : lowT n y) : lowT (m + n) (x ++ y) := by
  refine ⟨by rw [slen]; have := h.1; have := k.1; (first | lia | omega), fun c hc => ?_⟩
  simp only [Str.cps_append, Array.toList_append, List.mem_append] at hc
  rcases hc with hc | hc
  · exact h.2 c hc
  · exact k.2 c hc
theorem lit_low : lowT 2 (Str.ofString "f(") ∧ lowT 1 (Str.ofString " ") ∧ lowT 1 (Str.ofString ")") ∧ lowT 1 (Str.ofString "a") ∧ lowT 3 (Str.ofString " b)") ∧ lowT 10 (Str.ofString " abcdefgh)") := by
  unfold lowT
  decide +kernel
theorem fold_low (b : Array Nat) : ∀ (n : Nat) (acc : Array Nat), ((List.replicate n b).foldl (· ++ ·) acc).size = acc.size + n * b.size ∧ ∀ c ∈ ((List.replicate n b).foldl (· ++ ·) acc).toList, c ∈ acc.toList ∨ c ∈ b.toList
  | 0, acc => ⟨by simp, fun c hc => .inl hc⟩
  | n + 1, acc => by
    obtain ⟨h1, h2⟩ := fold_low b n (acc ++ b)
    rw [List.replicate_succ, List.foldl_cons]
    refine ⟨by rw [h1, Array.size_append, Nat.succ_mul]; (first | lia | omega), fun c hc => ?_⟩
    rcases h2 c hc with y | y
    · rw [Array.toList_append] at y
      exact List.mem_append.mp y
    · exact .inr y
theorem mul_low {b : Nat} {x : Str} (h : lowT b x) (n : Nat) : lowT (n * b) (Txt.mul x (n : Int)) := by
  unfold Txt.mul
  split
  · exact ⟨by simp [Str.empty, Str.length], fun c hc => by simp [Str.empty] at hc⟩
  · rename_i c1
    have hn : 1 ≤ n := by omega
    split
    · refine ⟨Nat.le_trans h.1 ?_, h.2⟩
      exact Nat.le_mul_of_pos_left b hn
    · rw [Int.toNat_natCast]
      obtain ⟨h1, h2⟩ := fold_low x.cps n #[]
      refine ⟨?_, fun c hc => ?_⟩
      · show ((List.replicate n x.cps).foldl (· ++ ·) #[]).size ≤ n * b
        rw [h1]
        have := Nat.mul_le_mul_left n (show x.cps.size ≤ b from h.1)
        simpa using this
      · rcases h2 c hc with y | y
        · simp at y
        · exact h.2 c y
theorem mulOk {x : Str} {n : Nat} (h : x.length ≤ 10) (hn : n ≤ 1000) : MulOk x (n : Int) := by
  refine ⟨?_, fun h1 _ => ?_, fun h1 _ => ?_⟩
  · simp only [Bool.or_eq_false_iff, decide_eq_false_iff_not]; (first | lia | omega)
  · have : (10 : Int) ≤ (2 ^ 63 - 1) / (n : Int) := Int.le_ediv_of_mul_le (by (first | (clear h hn; omega) | omega)) (by (first | (clear h1 h; lia) | omega))
    (first | lia | omega)
  · have : x.length * n ≤ 10 * 1000 := Nat.mul_le_mul h hn
    rw [Int.toNat_natCast]
    have l2 := line_le (show x.length * n ≤ 1000000 by (first | lia | omega))
    unfold PySem.Builtin.Str.tooLong
    simp; omega
noncomputable def spComb : Sp := fun vs H Q _ => ∃ (c : Int), vs = [.int c] ∧ ∀ x H', Same H H' → lowT 400 x → Q (.str x) H'
seal PSs PS PE PT PA PI PIfs in
theorem ok_comb (T : Txt K mg) : FnOk P w K mg base CX0 1 T.f__law_comb T.d__law_comb ["cell"] spComb := by
  refine T.F__law_comb.ok (k := 0) sc__law_comb (fun vs H Q E h => ?_) (fun cdv A outer s H vs Q E hr h => ?_)
  · obtain ⟨c, rfl, _⟩ := h
    rfl
  obtain ⟨c, rfl, q⟩ := h
  have nd := sc__law_comb.nd
  refine ⟨_, (pss_cons (ps_let (i := 1) nd rfl (Or.inr rfl) pe_str)
    (pss_cons (ps_let (i := 2) nd rfl (Or.inl rfl) (pe_op op_add pe_int (pe_op op_mod (pv 0) pe_int)))
    (pss_cons (ps_let (i := 3) nd rfl (Or.inr rfl) (pe_comp (N := ["k", "letters", "cell"]) (caps := [1, 0]) rfl ⟨rfl, rfl, rfl, rfl, by decide +kernel, rfl, rfl, rfl, rfl⟩ (pi_range1 rfl T.z_range (pa_cons pe_int pa_nil)) (fun _ _ _ _ => pif_nil) (fun _ _ _ _ => (pe_op op_add_str (pe_ix ix_str (pv 1) (pv 0) (fun _ _ => rfl)) (pe_ix ix_str (pv 1) (pe_op op_mod (pe_op op_fdiv (pv 2) pe_int) pe_int) (fun _ _ => rfl))))))
    (pss_cons (ps_if (pt_cmpR op_eq (pe_op op_mod (pe_op op_fdiv (pv 0) pe_int) pe_int) pe_int (nomark _)) (pss_one (ps_ret (pe_op op_add_str (pe_op op_add_str (pe_op op_mulS pe_str (pv 2)) (pe_ix ixF (pv 3) pe_int (fun _ _ => rfl))) (pe_bm PySem.F.plainAttrs_str PySem.F.slot_str_join PySem.F.type_str_join mt_join pe_str (pa_cons (pe_comp (N := ["k", "names"]) (caps := [3]) rfl ⟨rfl, rfl, rfl, rfl, by decide +kernel, rfl, rfl, rfl, rfl⟩ (pi_range1 rfl T.z_range (pa_cons (pv 2) pa_nil)) (fun _ _ _ _ => pif_nil) (fun _ _ _ _ => (pe_op op_add_str (pe_op op_add_str pe_str (pe_ix ixF (pv 1) (pv 0) (fun _ _ => rfl))) pe_str))) pa_nil))))) pss_nil)
    (pss_one (ps_ret (pe_op op_add_str (pe_op op_add_str (pe_bm PySem.F.plainAttrs_str PySem.F.slot_str_join PySem.F.type_str_join mt_join pe_str (pa_cons (pe_comp (N := ["k", "names"]) (caps := [3]) rfl ⟨rfl, rfl, rfl, rfl, by decide +kernel, rfl, rfl, rfl, rfl⟩ (pi_range1 rfl T.z_range (pa_cons (pv 2) pa_nil)) (fun _ _ _ _ => pif_nil) (fun _ _ _ _ => (pe_op op_add_str (pe_op op_add_str pe_str (pe_ix ixF (pv 1) (pv 0) (fun _ _ => rfl))) pe_str))) pa_nil)) (pe_ix ixF (pv 3) pe_int (fun _ _ => rfl))) (pe_op op_mulS pe_str (pv 2))))))))), ?_⟩
  refine cutC3 fun C hC => ?_
  walk_at "rd"
  have m0 : 0 ≤ c % 4 ∧ c % 4 < 4 := ⟨Int.emod_nonneg _ (by decide), Int.emod_lt_of_pos _ (by decide)⟩
  obtain ⟨mn, hmn, hmn2⟩ : ∃ mn : Nat, 22 + c % 4 = (mn : Int) ∧ mn ≤ 25 := ⟨(22 + c % 4).toNat, by (first | lia | omega), by (first | (clear hC m0; lia) | omega)⟩
  rw [hmn]
  have one : ∀ k : Nat, k < 26 → lowT 1 ⟨#[97 + k]⟩ := fun k hk => ⟨Nat.le_refl _, fun d hd => by
    have : d = 97 + k := by simpa using hd
    rw [this]; exact Nat.lt_of_lt_of_le (show 97 + k < 1000 by (first | (clear hC m0 hmn this hmn2; lia) | omega)) (by decide)⟩
  refine ⟨by decide, by decide, by decide, compR (fun i ys H' => ∃ xs : List Str, xs.length = i ∧ ys = xs.map V.str ∧ ∀ x ∈ xs, lowT 2 x) ⟨[], rfl, rfl, by simp⟩ (by decide) (fun i ys H' h => ?_) (fun i ys H' hi S' h => ?_) (fun pn rs H3 H4 S3 S4 h n4 e4 => ?_)⟩
  · obtain ⟨xs, h1, h2, _⟩ := h
    rw [h2, List.length_map]; (first | (clear hC m0 hmn h2 hmn2; lia) | omega)
  · have hi : i < 26 := hi
    obtain ⟨xs, h1, h2, h3⟩ := h
    have r0 : 0 ≤ c / 4 % 26 := Int.emod_nonneg _ (by decide)
    have r1 : c / 4 % 26 < 26 := Int.emod_lt_of_pos _ (by decide)
    walk_at "rd"
    have w2 := app_low (one i hi) (one (c / 4 % 26).toNat (by (first | (clear hC m0 hmn hmn2 hi h1 h2 r0 r1; lia) | omega)))
    refine ⟨by decide +kernel, 97 + i, ?_, ⟨by decide, by decide⟩, by decide, by decide +kernel, _, lett_at r0 r1, line_le (by show 1 + 1 ≤ _; decide), S', xs ++ [⟨#[97 + i]⟩ ++ ⟨#[97 + (c / 4 % 26).toNat]⟩], by simp [h1], by rw [h2]; simp, fun y hy => ?_⟩
    · have := lett_at (i := 0 + (i : Int)) (by (first | (clear hC m0 hmn hmn2 hi h1 h2 r0 r1; lia) | omega)) (by (first | (clear hC m0 hmn hmn2 hi h1 h2 r0 r1; lia) | omega))
      rw [this]; congr 1; (first | (clear hC m0 hmn hmn2 hi h1 h2 r0 r1 this; lia) | omega)
    · rcases List.mem_append.mp hy with hy | hy
      · exact h3 y hy
      · rw [List.mem_singleton.mp hy]; exact w2
  obtain ⟨xs, h1, h2, h3⟩ := h
  have h1 : xs.length = 26 := h1
  rw [h2] at e4
  have S34 := S3.trans S4
  rw [hC]
  clear hC C
  rw [a_tSeq]
  simp only [a_tLenS, a_tFor, a_tSet, a_tSetC, a_tVar, a_tC, a_tB, a_tAnd, a_tOr, a_tNot, a_tAndV, a_tOrV, a_tNext, a_tDrop, a_tRet, a_tIfS, a_gName, a_gNil, a_gCons, a_gTup, a_gSub, a_tAsg, a_tAug, a_iRng1, a_tOp, a_rI, a_rI0, a_rEq, a_rNe, a_tTest, a_tChain, a_tNil, a_tCons, b_tTup, b_tLst, a_tCall, a_tCB, a_tNoPart, a_tPart, a_tSl, a_rIxL, a_rIxS, b_rSetL, a_tBM, b_rAppend, b_rExtend, b_rCat, b_rRep, a_tDIn, a_sDPut, b_tDNewK, a_tYes, a_tComp, a_iStr, a_rSlS, a_rJoin, a_rMulS, a_rEqD, a_rCatD, a_rIxF, a_rSlLF, a_rLenF, a_rIntB, ty_str, tJs, a_tFmtD, a_tFmtR, a_tFmtI, a_tRaise, a_tTry, a_tCallJ, a_rIsE, a_rMaxS, a_ipI, a_iL, a_iT, L2.start, blkSt, cxOf_K, blk_K, List.getElem?_cons_zero, List.getElem?_cons_succ, Option.some.injEq, Option.join_some, exists_eq_left', exists_eq_left, exists_eq_right, V.int.injEq, V.ref.injEq, V.str.injEq, V.bl.injEq, V.ty.injEq, and_true, true_and, List.set_cons_zero, List.set_cons_succ, List.cons.injEq, List.cons_append, List.nil_append, List.append_nil, List.map_cons, List.map_nil, List.length_cons, List.length_nil, List.replicate, exists_and_left, exists_and_right, Nat.reduceAdd, Nat.reduceSub, atI_0, atI_1, atI_2, atI_3, atI_4, if_true, if_false, Bool.false_eq_true, scal_ii, scal_ss, scal_bb]
  have zl : ∀ {n : Nat} {z : Str}, lowT n z → n ≤ 5000 → z.length ≤ 5000 := fun h k => Nat.le_trans h.1 k
  obtain ⟨f1, f2, f3, _⟩ := lit_low
  have nmAt : ∀ k : Nat, k < 26 → ∃ y, (xs.map V.str)[k]? = some (.str y) ∧ lowT 2 y := fun k hk => by
    have hx : xs[k]? = some xs[k] := List.getElem?_eq_getElem (by (first | (clear m0 hmn hmn2 n4 e4 h2; lia) | omega))
    exact ⟨xs[k], by rw [List.getElem?_map, hx]; rfl, h3 _ (List.mem_of_getElem? hx)⟩
  have cmp : ∀ (pre post : Str) (R : VK), lowT 2 pre → lowT 1 post → (∀ px (zs : List Str) H5, Same H4 H5 → H5 px = some (.lst (zs.map V.str)) → zs.length = mn → (∀ z ∈ zs, lowT 5 z) → R (.ref px) H5) →
      wComp (Itr 0 ((mn : Nat) : Int).toNat) [3] tYes (tOp (fun x y H Q => ∃ i, x = V.str i ∧ ∃ x, y = V.str x ∧ i.length + x.length ≤ sizeLine ∧ Q (V.str (i ++ x)) H) (tOp (fun x y H Q => ∃ i, x = V.str i ∧ ∃ x, y = V.str x ∧ i.length + x.length ≤ sizeLine ∧ Q (V.str (i ++ x)) H) (tC (V.str pre)) (tOp rIxF (tVar 1) (tVar 0))) (tC (V.str post)))
        [some (V.int c), some (V.str (Str.ofString "abcdefghijklmnopqrstuvwxyz")), some (V.int (mn : Int)), some (V.ref pn)] H4 R := by
    intro pre post R lp lq hR
    rw [Int.toNat_natCast]
    refine compR (fun i ys H' => ∃ zs : List Str, zs.length = i ∧ ys = zs.map V.str ∧ ∀ x ∈ zs, lowT 5 x) ⟨[], rfl, rfl, by simp⟩ (by (first | (clear e4 h2 h1 m0 hmn n4; lia) | omega)) (fun i ys H' h => ?_) (fun i ys H' hi S' h => ?_) (fun px rs H5 H6 S5 S6 h n6 e6 => ?_)
    · obtain ⟨zs, g1, g2, _⟩ := h
      rw [g2, List.length_map]; (first | (clear m0 hmn hmn2 n4 e4 h2 h1; lia) | omega)
    · obtain ⟨zs, g1, g2, g3⟩ := h
      obtain ⟨y, hy, ly⟩ := nmAt i (by (first | (clear m0 hmn g1 g2 n4 e4 h2 h1; lia) | omega))
      walk_at "rd"
      have a1 := app_low lp ly
      have a2 := app_low a1 lq
      refine ⟨_, items_l (S' _ _ e4), .str y, by rw [Int.zero_add]; exact atI_nat hy, y, rfl, line_le (by have := lp.1; have := ly.1; (first | (clear m0 hmn hmn2 n4 e4 h2 h1 hi g1 g2 hy; lia) | omega)), line_le (by have := a1.1; have := lq.1; (first | (clear m0 hmn hmn2 n4 e4 h2 h1 hi g1 g2 hy; lia) | omega)), S', zs ++ [pre ++ y ++ post], by simp [g1], by rw [g2]; simp, fun z hz => ?_⟩
      rcases List.mem_append.mp hz with hz | hz
      · exact g3 z hz
      · rw [List.mem_singleton.mp hz]; exact a2
    · obtain ⟨zs, g1, g2, g3⟩ := h
      rw [g2] at e6
      exact hR px zs H6 (S5.trans S6) e6 g1 g3
  have l0 : (Str.ofString "").length = 0 := by decide +kernel
  obtain ⟨y25, hy25, ly25⟩ := nmAt 25 (by omega)
  have sumz : ∀ zs : List Str, (∀ z ∈ zs, lowT 5 z) → (zs.map fun x => x.length).sum ≤ 5 * zs.length := by
    intro zs
    induction zs with
    | nil => intro _; simp
    | cons z zs ih =>
      intro h
      have b1 := (h z (by simp)).1
      have b2 := ih fun x hx => h x (by simp [hx])
      simp only [List.map_cons, List.sum_cons, List.length_cons]; (first | (clear m0 hmn hmn2 n4 e4 h2 h1 l0 hy25 ih; lia) | omega)
  refine ⟨⟨by decide, by decide⟩, by decide, ite2 (fun _ => ?_) (fun _ => ?_)⟩
  · have m1 := mul_low f1 mn
    have m2 := app_low m1 ly25
    refine ⟨mulOk (Nat.le_trans f1.1 (by decide)) (by (first | (clear h2 h1 l0 hy25 n4 e4 m0 hmn; lia) | omega)), _, items_l e4, .str y25, atI_nat hy25, y25, rfl, line_le (by have := m1.1; have := ly25.1; (first | (clear h1 l0 hy25 m0 hmn e4 h2 n4; lia) | omega)), by (first | (clear m0 hmn hmn2 n4 e4 h2 h1 l0 hy25; lia) | omega), by (first | (clear h2 h1 l0 hy25 n4 e4 m0 hmn; omega) | omega), cmp _ _ _ ⟨Nat.le_trans f2.1 (by decide), f2.2⟩ f3 fun px zs H5 S5 e5 g1 g3 => ?_⟩
    have j1 := join0_low g3
    have m3 := app_low m2 j1
    refine ⟨px, rfl, zs, .inl (SqL.of e5), by rw [l0]; have := sumz zs g3; (first | (clear h1 l0 hy25 m0 hmn e4 h2 n4 e5; lia) | omega), line_le (by have := m2.1; have := j1.1; (first | (clear h1 l0 hy25 m0 hmn e4 h2 n4 e5; lia) | omega)), q _ H5 (S34.trans S5) ⟨Nat.le_trans m3.1 (by (first | (clear h1 l0 hy25 m0 hmn e4 h2 n4 e5; lia) | omega)), m3.2⟩⟩
  · refine ⟨by (first | (clear m0 hmn hmn2 n4 e4 h2 h1 l0 hy25; lia) | omega), by (first | (clear h2 h1 l0 hy25 n4 e4 m0 hmn; omega) | omega), cmp _ _ _ f1 f2 fun px zs H5 S5 e5 g1 g3 => ?_⟩
    have j1 := join0_low g3
    have m1 := app_low j1 ly25
    have m2 := mul_low f3 mn
    have m3 := app_low m1 m2
    refine ⟨px, rfl, zs, .inl (SqL.of e5), by rw [l0]; have := sumz zs g3; (first | (clear n4 e4 h2 h1 l0 hy25 m0 hmn e5; lia) | omega), _, items_l (S5 _ _ e4), .str y25, atI_nat hy25, y25, rfl, line_le (by have := j1.1; have := ly25.1; (first | (clear n4 e4 h2 h1 l0 hy25 m0 hmn e5; lia) | omega)), mulOk (Nat.le_trans f3.1 (by decide)) (by (first | (clear h1 l0 hy25 e5 g1 n4 e4 h2 m0 hmn; lia) | omega)), line_le (by have := m1.1; have := m2.1; (first | (clear h1 l0 hy25 m0 hmn e4 h2 n4 e5; lia) | omega)), q _ H5 (S34.trans S5) ⟨Nat.le_trans m3.1 (by (first | (clear h1 l0 hy25 m0 hmn e4 h2 n4 e5; lia) | omega)), m3.2⟩⟩
theorem nameOk_low {x : Str} (h : nameOk x = true) : x.cps.toList.length ≤ 8 ∧ ∀ c ∈ x.cps.toList, c < 16 ^ 8 := by
  unfold nameOk isName at h
  simp only [Bool.and_eq_true, decide_eq_true_eq, List.all_eq_true] at h
  refine ⟨h.2.1, fun c hc => ?_⟩
  have := (h.2.2 c hc).2
  exact Nat.lt_of_le_of_lt this (by decide)
theorem txL_low : ∀ t : L2.Tree, (∀ x ∈ t.lv, nameOk x = true) → (∀ x ∈ t.kn, nameOk x = true) → ∀ c ∈ txL t, c < 16 ^ 8
  | .leaf x, h, _, c, hc => (nameOk_low (h x (by simp [M.Tr.lv]))).2 c (by simpa [txL] using hc)
  | .knot f l r, h, k, c, hc => by
    have hl := txL_low l (fun x hx => h x (by simp [M.Tr.lv, hx])) (fun x hx => k x (by simp [M.Tr.kn, hx]))
    have hr := txL_low r (fun x hx => h x (by simp [M.Tr.lv, hx])) (fun x hx => k x (by simp [M.Tr.kn, hx]))
    have hf := (nameOk_low (k f (by simp [M.Tr.kn]))).2
    simp only [txL, List.mem_append, List.mem_cons, List.not_mem_nil, or_false] at hc
    have s40 : (40 : Nat) < 16 ^ 8 := by decide
    have s32 : (32 : Nat) < 16 ^ 8 := by decide
    have s41 : (41 : Nat) < 16 ^ 8 := by decide
    rcases hc with hc | hc | hc | hc | hc | hc <;> first | exact hf c hc | exact hl c hc | exact hr c hc | (rw [hc]; assumption)
theorem slice_low {n : Nat} {x : Str} (h : lowT n x) (l u : Option Int) : lowT n (Txt.slice x l u) := by
  refine ⟨Nat.le_trans (Txt.slice_le x l u) h.1, fun c hc => ?_⟩
  unfold Txt.slice at hc
  split at hc
  · exact h.2 c hc
  · simp only [List.mem_filterMap] at hc
    obtain ⟨i, _, hi⟩ := hc
    refine h.2 c ?_
    rw [← Array.mem_def]
    exact Array.mem_of_getElem? hi
theorem to_len {x : Str} {j : Int} (h0 : 0 ≤ j) (h1 : j ≤ x.length) : (Txt.slice x none (some j)).length ≤ j.toNat := by
  have h := PyProof.Rows.slice_closes_to (x := x) (j := j) ⟨h0, by have := len_cps x; (first | lia | omega)⟩
  rw [beq_iff_eq] at h
  rw [h]
  show ((x.cps.toList.drop (0 : Int).toNat).take (j - 0).toNat).toArray.size ≤ _
  rw [List.size_toArray, List.length_take]
  (first | (clear h0 h1 h; lia) | omega)
theorem from_len {x : Str} {j : Int} (h0 : 0 ≤ j) : (Txt.slice x (some j) none).length ≤ x.length - j.toNat := by
  by_cases c : j ≤ x.length
  · rw [PyProof.Rows.slice_from_eq h0 c rfl]
    show ((x.cps.toList.drop j.toNat).take ((x.length : Int) - j).toNat).toArray.size ≤ _
    rw [List.size_toArray, List.length_take]
    (first | lia | omega)
  · rw [PyProof.Rows.slice_beyond (by (first | lia | omega))]
    simp [Str.empty, Str.length]
theorem more_low : ∀ x ∈ [Str.ofString "(", Str.ofString ")", Str.ofString " ", Str.ofString "a", Str.ofString "z", Str.ofString "A", Str.ofString "0", Str.ofString ",", Str.ofString "~", Str.ofString "f("], x.length ≤ 2 ∧ ∀ c ∈ x.cps.toList, c < 16 ^ 8 := by decide +kernel
noncomputable def spLaw (K : PySem.W.Frag) : Sp := fun vs H Q _ => ∃ (a : Addr) (ns : List Int), vs = [.ref a] ∧ SqL K H a (ns.map V.int) ∧ ns.length ≤ 63 ∧ ∀ H', Q (.bl true) H'
seal PSs PS PE PT PA PI PIfs in
theorem ok_law (T : Txt K mg) : FnOk P w K mg base CX0 60 T.f_law T.d_law ["script"] (spLaw K) := by
  refine T.F_law.ok (k := 59) sc_law (fun vs H Q E h => ?_) (fun cdv A outer s H vs Q E hr h => ?_)
  · obtain ⟨a, ns, rfl, _⟩ := h
    rfl
  obtain ⟨a, ns, rfl, hS, h63, q⟩ := h
  have nd := sc_law.nd
  have G__law_at := (ok_at (P := P) (w := w) (base := base) T).mono (k := 59) (by omega)
  have G__law_many := (ok_many (P := P) (w := w) (base := base) T).mono (k := 59) (by omega)
  have G__law_tree := (ok_tree (P := P) (w := w) (base := base) T).mono (k := 59) (by omega)
  have G__law_names := (ok_names (P := P) (w := w) (base := base) T).mono (k := 59) (by omega)
  have G__law_second := (ok_second (P := P) (w := w) (base := base) T).mono (k := 59) (by omega)
  have G__law_text := (ok_text (P := P) (w := w) (base := base) T 24).mono (k := 59) (by omega)
  have G__law_comb := (ok_comb (P := P) (w := w) (base := base) T).mono (k := 59) (by omega)
  have G__law_read := (ok_lawread (P := P) (w := w) (base := base) T 30).mono (k := 59) (by omega)
  have G__law_good := (ok_good (P := P) (w := w) (base := base) T).mono (k := 59) (by omega)
  have G_read := (ok_readE (P := P) (w := w) (base := base) T).mono (k := 59) (by omega)
  refine ⟨_, (pss_cons (ps_let (i := 1) nd rfl (Or.inl rfl) (pe_call G__law_text hr rfl T.m__law_text T.F__law_text.kp T.b__law_text .nil pass0 (pa_cons (pe_call G__law_tree hr rfl T.m__law_tree T.F__law_tree.kp T.b__law_tree .nil pass0 (pa_cons (pv 0) (pa_cons pe_int (pa_cons (pe_call G__law_many hr rfl T.m__law_many T.F__law_many.kp T.b__law_many .nil pass0 (pa_cons (pv 0) pa_nil)) pa_nil)))) pa_nil)))
    (pss_cons (ps_let (i := 2) nd rfl (Or.inl rfl) (pv 1))
    (pss_cons (ps_if (pt_cmpR op_eq (pe_op op_mod (pe_call G__law_at hr rfl T.m__law_at T.F__law_at.kp T.b__law_at .nil pass0 (pa_cons (pv 0) (pa_cons pe_int pa_nil))) pe_int) pe_int (nomark _)) (pss_one (ps_let (i := 2) nd rfl (Or.inl rfl) (pe_op op_add_str (pe_op op_add_str (pe_op op_mulS pe_str (pe_op op_mod (pe_op op_fdiv (pe_call G__law_at hr rfl T.m__law_at T.F__law_at.kp T.b__law_at .nil pass0 (pa_cons (pv 0) (pa_cons pe_int pa_nil))) pe_int) pe_int)) pe_str) (pe_op op_mulS pe_str (pe_op op_mod (pe_call G__law_at hr rfl T.m__law_at T.F__law_at.kp T.b__law_at .nil pass0 (pa_cons (pv 0) (pa_cons pe_int pa_nil))) pe_int))))) pss_nil)
    (pss_cons (ps_if (pt_cmpR op_eq (pe_op op_mod (pe_call G__law_at hr rfl T.m__law_at T.F__law_at.kp T.b__law_at .nil pass0 (pa_cons (pv 0) (pa_cons pe_int pa_nil))) pe_int) pe_int (nomark _)) (pss_one (ps_let (i := 2) nd rfl (Or.inl rfl) (pe_op op_add_str (pe_op op_add_str (pe_op op_add_str (pe_op op_add_str pe_str (pv 1)) pe_str) (pe_ix ixF (pe_call G__law_names hr rfl T.m__law_names T.F__law_names.kp T.b__law_names .nil pass0 (pa_cons (pe_call G__law_second hr rfl T.m__law_second T.F__law_second.kp T.b__law_second .nil pass0 (pa_cons (pv 0) pa_nil)) (pa_cons (pe_call G__law_many hr rfl T.m__law_many T.F__law_many.kp T.b__law_many .nil pass0 (pa_cons (pv 0) pa_nil)) pa_nil))) pe_int (fun _ _ => rfl))) pe_str))) pss_nil)
    (pss_cons (ps_if (pt_cmpR op_eq (pe_op op_mod (pe_call G__law_at hr rfl T.m__law_at T.F__law_at.kp T.b__law_at .nil pass0 (pa_cons (pv 0) (pa_cons pe_int pa_nil))) pe_int) pe_int (nomark _)) (pss_one (ps_let (i := 2) nd rfl (Or.inl rfl) (pe_op op_add_str (pe_op op_add_str pe_str (pv 1)) pe_str))) pss_nil)
    (pss_cons (ps_if (pt_cmpR op_eq (pe_op op_mod (pe_call G__law_at hr rfl T.m__law_at T.F__law_at.kp T.b__law_at .nil pass0 (pa_cons (pv 0) (pa_cons pe_int pa_nil))) pe_int) pe_int (nomark _)) (pss_one (ps_let (i := 2) nd rfl (Or.inl rfl) (pe_call G__law_comb hr rfl T.m__law_comb T.F__law_comb.kp T.b__law_comb .nil pass0 (pa_cons (pe_call G__law_at hr rfl T.m__law_at T.F__law_at.kp T.b__law_at .nil pass0 (pa_cons (pv 0) (pa_cons pe_int pa_nil))) pa_nil)))) pss_nil)
    (pss_cons (ps_for PassesOwn.never rfl (pi_range1 rfl T.z_range (pa_cons (pe_op op_mod (pe_op op_fdiv (pe_call G__law_at hr rfl T.m__law_at T.F__law_at.kp T.b__law_at .nil pass0 (pa_cons (pv 0) (pa_cons pe_int pa_nil))) pe_int) pe_int) pa_nil)) (pg_name (i := 3) nd rfl (Or.inl rfl)) (pss_cons (ps_let (i := 4) nd rfl (Or.inl rfl) (pe_call G__law_at hr rfl T.m__law_at T.F__law_at.kp T.b__law_at .nil pass0 (pa_cons (pv 0) (pa_cons (pe_op op_add pe_int (pv 3)) pa_nil))))
      (pss_cons (ps_let (i := 5) nd rfl (Or.inl rfl) (pe_op op_mod (pe_op op_fdiv (pv 4) pe_int) (pe_op op_add (pe_callB call_len_str rfl T.z_len bt_len (pa_cons (pv 2) pa_nil)) pe_int)))
      (pss_cons (ps_let (i := 6) nd rfl (Or.inl rfl) (pe_ix ixF (pe_lst (pa_cons pe_str (pa_cons pe_str (pa_cons pe_str (pa_cons pe_str (pa_cons pe_str (pa_cons pe_str (pa_cons pe_str (pa_cons pe_str (pa_cons pe_str (pa_cons pe_str pa_nil))))))))))) (pe_op op_mod (pe_call G__law_at hr rfl T.m__law_at T.F__law_at.kp T.b__law_at .nil pass0 (pa_cons (pv 0) (pa_cons (pe_op op_add pe_int (pv 3)) pa_nil))) pe_int) (fun _ _ => rfl)))
      (pss_one (ps_if (pt_cmpR op_eq (pe_op op_mod (pv 4) pe_int) pe_int (nomark _)) (pss_one (ps_let (i := 2) nd rfl (Or.inl rfl) (pe_op op_add_str (pe_op op_add_str (pe_slice sl_str (pv 2) po_none (po_some (pv 5))) (pv 6)) (pe_slice sl_str (pv 2) (po_some (pv 5)) po_none)))) (pss_one (ps_let (i := 2) nd rfl (Or.inl rfl) (pe_op op_add_str (pe_slice sl_str (pv 2) po_none (po_some (pv 5))) (pe_slice sl_str (pv 2) (po_some (pe_op op_add (pv 5) pe_int)) po_none))))))))))
    (pss_cons (ps_let (i := 7) nd rfl (Or.inl rfl) (pe_lst pa_nil))
    (pss_cons (ps_let (i := 8) nd rfl (Or.inl rfl) pe_non)
    (pss_cons (ps_tryA (i := 9) (J := fun σ0 σ1 => σ1 = σ0) rfl rfl rfl T.m_FewError T.x_FewError nd rfl rfl (fun _ _ _ => (pss_one (ps_let (i := 8) nd rfl (Or.inl rfl) (pe_callJ G_read hr rfl T.m_read T.F_read.kp T.b_read .nil passJ (pa_cons (pv 2) pa_nil))))) (fun _ => (pss_one (ps_let (i := 7) nd rfl (Or.inl rfl) (pe_lst (pa_cons (pe_callB (show CallR _ (.builtin "isinstance") (rIsE K) from call_isE) rfl T.z_isinstance bt_isinstance (pa_cons (pv 9) (pa_cons (pe_glob (v := .ref T.C_NoText) rfl T.m_NoText rfl) pa_nil))) (pa_cons (pe_callB (show CallR _ (.builtin "isinstance") (rIsE K) from call_isE) rfl T.z_isinstance bt_isinstance (pa_cons (pv 9) (pa_cons (pe_bltn (v := .ty "ValueError") rfl T.z_ValueError bt_ValueError rfl) pa_nil))) pa_nil)))))))
    (pss_cons (ps_asg (pe_call G__law_read hr rfl T.m__law_read T.F__law_read.kp T.b__law_read .nil pass0 (pa_cons (pv 2) (pa_cons pe_int (pa_cons pe_int pa_nil)))) (pg_tup rfl (pgs_cons (pg_name (i := 10) nd rfl (Or.inl rfl)) (pgs_cons (pg_name (i := 11) nd rfl (Or.inl rfl)) pgs_nil))))
    (pss_cons (ps_if (PW.pt (pw_and (pt_cmpR op_eq (pv 11) (pe_callB call_len_str rfl T.z_len bt_len (pa_cons (pv 2) pa_nil)) (nomark _)) (pw_and1 (pt_val (pe_call G__law_good hr rfl T.m__law_good T.F__law_good.kp T.b__law_good .nil pass0 (pa_cons (pv 10) pa_nil)))))) (pss_one (ps_ret (pe_and (pe_cmpR (op_eqD hr) (pv 7) (pe_lst pa_nil) (nomark _)) (pe_one (pe_cmpR (op_eqD hr) (pv 8) (pv 10) (nomark _)))))) pss_nil)
    (pss_one (ps_ret (pe_cmpR (op_eqD hr) (pv 7) (pe_lst (pa_cons pe_bl (pa_cons pe_bl pa_nil))) (nomark _)))))))))))))))), ?_⟩
  refine cutC2 fun C hC => ?_
  walk_at "rd"
  refine ⟨a, ns, rfl, hS, h63, fun many H1 hm1 hm S1 hmn => ?_⟩
  refine ⟨a, ns, 1, many, rfl, S1.seq hS, h63, by decide, hm1, hm, fun t c c' v H2 S2 ht tr cc => ?_⟩
  have hd := tr.dp
  have hlen := tr.len
  have tl := txL_len t (fun x h => (nameOk_low (tr.lvOk x h)).1) (fun x h => (nameOk_low (tr.knOk x h)).1)
  refine ⟨t, v, rfl, ht, hd, by (first | (clear h63 hC hm1 cc hd hmn; lia) | omega), ?_⟩
  have gl : lowT 600 ⟨(txL t).toArray⟩ := ⟨by rw [len_cps, cps_mk]; (first | (clear h63 hC hm1 cc hd hmn; lia) | omega), fun c hc => txL_low t tr.lvOk tr.knOk c (by rw [cps_mk] at hc; exact hc)⟩
  generalize (⟨(txL t).toArray⟩ : Str) = g at gl
  have hS2 := (S1.trans S2).seq hS
  have SH2 := S1.trans S2
  clear tl hlen hd cc tr ht
  obtain ⟨f1, f2, f3, f4, f5, f6⟩ := lit_low
  rw [hC]
  clear hC C
  refine cutC1 fun C hC => ?_
  have tail1 : ∀ (x : Str) (H3 : Hp), Same H2 H3 → lowT 1510 x → C [some (V.ref a), some (V.str g), some (V.str x), none, none, none, none, none, none, none, none, none] H3 := by
    intro x1 H3 S3 l1
    have hS3 := S3.seq hS2
    rw [hC]
    clear hC C
    refine cutC1 fun C hC => ?_
    have tail2 : ∀ (x : Str) (H4 : Hp), Same H2 H4 → lowT 1510 x → C [some (V.ref a), some (V.str g), some (V.str x), none, none, none, none, none, none, none, none, none] H4 := by
      clear l1 x1 S3 hS3 H3
      intro x1 H3 S3 l1
      have hS3 := S3.seq hS2
      rw [hC]
      clear hC C
      refine cutC1 fun C hC => ?_
      have tail3 : ∀ (x : Str) (H4 : Hp), Same H2 H4 → lowT 1510 x → C [some (V.ref a), some (V.str g), some (V.str x), none, none, none, none, none, none, none, none, none] H4 := by
        clear l1 x1 S3 hS3 H3
        intro x1 H3 S3 l1
        have hS3 := S3.seq hS2
        rw [hC]
        clear hC C
        refine cutC1 fun C hC => ?_
        have tail4 : ∀ (x : Str) (H4 : Hp), Same H2 H4 → lowT 1510 x → C [some (V.ref a), some (V.str g), some (V.str x), none, none, none, none, none, none, none, none, none] H4 := by
          clear l1 x1 S3 hS3 H3
          intro x1 H3 S3 l1
          have hS3 := S3.seq hS2
          rw [hC]
          clear hC C
          refine cutC1 fun C hC => ?_
          walk_at "rd"
          refine ⟨a, ns, 30, rfl, hS3, h63, by omega, by omega, _, rfl, ⟨by decide, by decide⟩, by decide, by (first | (clear h63 hm1 hm hmn hC; lia) | omega), by (first | (clear h63 hm1 hm hmn hC; lia) | omega), ?_⟩
          generalize lawAt ns (30 : Int).toNat = c3
          obtain ⟨Pv, hPv⟩ : ∃ Pv : Nat → St → Hp → Prop, ∀ i σ H', Pv i σ H' ↔ Same H2 H' ∧ ∃ x : Str, lowT (1510 + 2 * i) x ∧ ∃ o3 o4 o5 o6 : Option V, σ = [some (V.ref a), some (V.str g), some (V.str x), o3, o4, o5, o6, none, none, none, none, none] := ⟨_, fun _ _ _ => Iff.rfl⟩
          refine forR Pv ((hPv _ _ _).mpr ⟨S3, x1, l1, none, none, none, none, rfl⟩) ?_ ?_
          · intro i σ H' hi h
            obtain ⟨S', x, lx, o3, o4, o5, o6, rfl⟩ := (hPv _ _ _).mp h
            have hi : i < 4 := by (first | (clear h63 hm1 hm hmn hC; lia) | omega)
            have hx := lx.1
            walk_at "rd"
            have hS7 := S'.seq hS2
            have hz : x.length ≤ sizeLine := line_le (by (first | (clear h63 hm1 hm hmn hC; lia) | omega))
            refine ⟨a, ns, 32 + (0 + (i : Int)), rfl, hS7, h63, by (first | (clear h63 hm1 hm hmn hC hi hx hz; lia) | omega), by (first | (clear h63 hm1 hm hmn hx hz hC; lia) | omega), _, rfl, ⟨by decide, by decide⟩, hz, by (first | (clear h63 hm1 hm hmn hC hi hx hz; lia) | omega), by decide, NewO.mk fun q1 A1 R1 m1 f7 => ⟨a, ns, 36 + (0 + (i : Int)), rfl, R1.seq hS7, h63, by (first | (clear h63 hm1 hm hmn hC hi hx hz m1 f7; lia) | omega), by (first | (clear h63 hm1 hm hmn hC m1 f7 hz hx; lia) | omega), _, rfl, by decide, q1, rfl, _, items_l f7, ?_⟩⟩
            generalize lawAt ns (32 + (0 + (i : Int))).toNat = cl
            generalize lawAt ns (36 + (0 + (i : Int))).toNat = cm
            have d0 : 0 ≤ cm % 10 := Int.emod_nonneg _ (by decide)
            have d1 : cm % 10 < 10 := Int.emod_lt_of_pos _ (by decide)
            have a0 : 0 ≤ cl / 2 % ((x.length : Int) + 1) := Int.emod_nonneg _ (by (first | (clear h63 hm1 hm hmn hC hi f7 d0 d1 m1 hz; lia) | omega))
            have a1 : cl / 2 % ((x.length : Int) + 1) < (x.length : Int) + 1 := Int.emod_lt_of_pos _ (by (first | (clear h63 hm1 hm hmn hC hi hx hz m1 f7 d0 d1 a0; lia) | omega))
            obtain ⟨mo, hmo, hml⟩ : ∃ mo : Str, atI ([Str.ofString "(", Str.ofString ")", Str.ofString " ", Str.ofString "a", Str.ofString "z", Str.ofString "A", Str.ofString "0", Str.ofString ",", Str.ofString "~", Str.ofString "f("].map V.str) (cm % 10) = some (.str mo) ∧ lowT 2 mo := by
              obtain ⟨k, hk⟩ : ∃ k : Nat, cm % 10 = k := ⟨(cm % 10).toNat, by (first | (clear h63 hm1 hm hmn hC hi hx hz m1 f7 d0 a1 a0; lia) | omega)⟩
              rw [hk] at d1 ⊢
              have hk10 : k < [Str.ofString "(", Str.ofString ")", Str.ofString " ", Str.ofString "a", Str.ofString "z", Str.ofString "A", Str.ofString "0", Str.ofString ",", Str.ofString "~", Str.ofString "f("].length := by simp only [List.length_cons, List.length_nil]; (first | (clear h63 hm1 hm hmn hC hi hx hz m1 f7 hk d0 a0 a1; lia) | omega)
              refine ⟨_, atI_nat (by rw [List.getElem?_map, List.getElem?_eq_getElem hk10]; rfl), more_low _ (List.getElem_mem hk10)⟩
            generalize cl / 2 % ((x.length : Int) + 1) = at_ at a0 a1
            have p1 := to_len (x := x) a0 (by (first | (clear h63 hm1 hm hmn hC hi hx hz m1 f7 d0 d1 hmo; lia) | omega))
            have c1 := (slice_low lx none (some at_)).2
            generalize Txt.slice x none (some at_) = y1 at p1 c1
            refine ⟨_, hmo, _, rfl, by decide, ite2 (fun _ => ⟨hz, mo, rfl, ?_⟩) (fun _ => ⟨hz, hz, ?_⟩)⟩
            · have p2 := from_len (x := x) a0
              have c2 := (slice_low lx (some at_) none).2
              generalize Txt.slice x (some at_) none = y2 at p2 c2
              have w1 : lowT at_.toNat y1 := ⟨p1, c1⟩
              have w2 : lowT (x.length - at_.toNat) y2 := ⟨p2, c2⟩
              have w3 := app_low (app_low w1 hml) w2
              have l3 := hml.1
              exact ⟨line_le (by (first | (clear h63 hm1 hm hmn hC d1 hmo a0 hz m1 f7 d0 p2; lia) | omega)), hz, line_le (by rw [slen]; (first | (clear h63 hm1 hm hmn hC d1 hmo a0 hz m1 f7 d0; lia) | omega)), (hPv _ _ _).mpr ⟨S'.trans R1, _, ⟨Nat.le_trans w3.1 (by (first | (clear h63 hm1 hm hmn hC p1 p2 l3 m1 f7 d0 d1 hmo a0 hz; lia) | omega)), w3.2⟩, _, _, _, _, rfl⟩⟩
            · have p2 := from_len (x := x) (j := at_ + 1) (by (first | (clear h63 hm1 hm hmn hC hi hx hz m1 f7 d0 d1 a1 p1 hmo; lia) | omega))
              have c2 := (slice_low lx (some (at_ + 1)) none).2
              generalize Txt.slice x (some (at_ + 1)) none = y2 at p2 c2
              have w1 : lowT at_.toNat y1 := ⟨p1, c1⟩
              have w2 : lowT (x.length - (at_ + 1).toNat) y2 := ⟨p2, c2⟩
              have w3 := app_low w1 w2
              exact ⟨line_le (by (first | (clear h63 hm1 hm hmn hC hz m1 f7 d0 d1 hmo; lia) | omega)), (hPv _ _ _).mpr ⟨S'.trans R1, _, ⟨Nat.le_trans w3.1 (by (first | (clear h63 hm1 hm hmn hC p1 p2 m1 f7 d0 hz d1 hmo; lia) | omega)), w3.2⟩, _, _, _, _, rfl⟩⟩
          · intro σ H7 h
            obtain ⟨S7, x, lx, o3, o4, o5, o6, rfl⟩ := (hPv _ _ _).mp h
            have lx : lowT 1900 x := ⟨by have := lx.1; (first | (clear h63 hm1 hm hmn hC; lia) | omega), lx.2⟩
            dsimp only
            rw [hC]
            clear hC C
            refine cutC3 fun C hC => ?_
            walk_at "rd"
            have lz := lx.1
            have low := lr_low lz 30 0 (Nat.zero_le _)
            have re := read_eq x
            refine ⟨Nat.zero_le _, NewO.mk fun pb H8 S8 n8 e8 => ⟨x, rfl, lx, fun t hr v HA SA dv => ?_, fun hr fl HA SA => ?_⟩⟩
            · dsimp only
              rw [hC]
              clear hC C
              walk_at "rd"
              have ok : (lr x.cps.toList 30 0).2 = x.length ∧ goodB (lr x.cps.toList 30 0).1 = true ∧ t = (lr x.cps.toList 30 0).1 := by
                by_cases c : (lr x.cps.toList 30 0).2 = x.length ∧ goodB (lr x.cps.toList 30 0).1 = true
                · rw [if_pos c, hr] at re
                  exact ⟨c.1, c.2, by cases re; rfl⟩
                · rw [if_neg c, hr] at re; cases re
              clear re hr
              refine ⟨x, 0, 1, rfl, by (first | (clear low n8 e8 ok h63 hm1 hm hmn; lia) | omega), Nat.zero_le _, by decide, by decide, fun vd HD SD dd => ?_⟩
              generalize lr x.cps.toList 30 0 = r0 at low ok dd
              obtain ⟨t0, e0⟩ := r0
              dsimp only at low ok
              obtain ⟨o1, o2, rfl⟩ := ok
              obtain ⟨pa, vsa, rfl, ea, Da⟩ := isD_tup.mp dd
              obtain ⟨v1, ra, rfl, d1, Da⟩ := isDs_cons.mp Da
              obtain ⟨v2, ra, rfl, d2, Da⟩ := isDs_cons.mp Da
              rw [isDs_nil.mp Da, isD_int.mp d2, o1] at ea
              refine ⟨pa, rfl, _, SqT.of ea, rfl, _, _, rfl, _, _, rfl, rfl, line_le (by (first | (clear e8 o1 low o2 ea h63 hm1 hm n8 hmn; lia) | omega)), rfl, ?_⟩
              rw [decide_eq_true rfl]
              refine iteT ⟨t, v1, rfl, d1, low.1, by (first | (clear h63 hm1 hm o2 ea n8 e8 hmn; lia) | omega), fun y hy => ?_, fun HE SE => ?_⟩
              · obtain ⟨q', hq', rfl⟩ := List.mem_map.mp hy
                exact low.2.2 [] q' hq'
              rw [o2]
              refine ⟨true, rfl, iteT ⟨Nat.zero_le _, NewO.mk fun p3 H3 S3 n3 e3 => ?_⟩⟩
              have SX := (SD.trans SE).trans S3
              refine ⟨.lst [], Dt.lst (SX _ _ (SA _ _ e8)) .nil, .lst [], Dt.lst e3 .nil, by decide, ?_⟩
              rw [D.eq_refl]
              have hdp := dT_dp t
              refine iteT ⟨_, dv.same SX, _, d1.same (SE.trans S3), by have := low.1; (first | (clear h63 hm1 hm hmn lz n8 e8 o1 low o2 ea n3 e3; lia) | omega), ?_⟩
              rw [D.eq_refl]
              exact q _
            · refine ⟨T.C_NoText, rfl, T.x_NoText, T.u_NoText_FewError, fun σ' e hσ hne => ?_⟩
              subst hσ
              walk_at "rd"
              refine ⟨e, T.C_NoText, _, ⟨rfl, rfl⟩, _, rfl, upd_same, T.y_NoText, _, T.k_NoText_NoText, e, T.C_NoText, _, ⟨rfl, rfl⟩, _, rfl, upd_same, T.y_NoText, _, T.k_NoText_ValueError, by decide, NewO.mk fun pB HB SB nB eB => ?_⟩
              simp only [endsA]
              rw [hC]
              clear hC C
              walk_at "rd"
              have ko : ¬ ((lr x.cps.toList 30 0).2 = x.length ∧ goodB (lr x.cps.toList 30 0).1 = true) := fun c => by
                rw [if_pos c, hr] at re; cases re
              clear re hr
              have bb : ∀ {h : Hp}, Dts h [.bl true, .bl true] [.bl true, .bl true] := .cons (isD_bl.mpr rfl) (.cons (isD_bl.mpr rfl) .nil)
              refine ⟨x, 0, 1, rfl, by (first | (clear n8 e8 hne nB eB ko h63 hm1 hm low hmn; lia) | omega), Nat.zero_le _, by decide, by decide, fun vd HD SD dd => ?_⟩
              generalize lr x.cps.toList 30 0 = r0 at low ko dd
              obtain ⟨t0, e0⟩ := r0
              dsimp only at low ko
              obtain ⟨pa, vsa, rfl, ea, Da⟩ := isD_tup.mp dd
              obtain ⟨v1, ra, rfl, d1, Da⟩ := isDs_cons.mp Da
              obtain ⟨v2, ra, rfl, d2, Da⟩ := isDs_cons.mp Da
              rw [isDs_nil.mp Da, isD_int.mp d2] at ea
              refine ⟨pa, rfl, _, SqT.of ea, rfl, _, _, rfl, _, _, rfl, rfl, line_le (by (first | (clear hne nB eB low ko ea h63 hm1 hm hmn e8 n8; lia) | omega)), rfl, ?_⟩
              by_cases c : e0 = x.length
              · have o2 : goodB t0 = false := by
                  cases h : goodB t0 with
                  | false => rfl
                  | true => exact absurd ⟨c, h⟩ ko
                rw [decide_eq_true (by rw [c])]
                refine iteT ⟨t0, v1, rfl, d1, low.1, by (first | (clear h63 hm1 hm hmn nB eB e8 hne ea; lia) | omega), fun y hy => ?_, fun HE SE => ?_⟩
                · obtain ⟨q', hq', rfl⟩ := List.mem_map.mp hy
                  exact low.2.2 [] q' hq'
                rw [o2]
                exact ⟨false, rfl, iteF ⟨by decide, NewO.mk fun p3 H3 S3 n3 e3 => ⟨_, Dt.lst (S3 _ _ (SE _ _ (SD _ _ eB))) bb, _, Dt.lst e3 bb, by decide, q _⟩⟩⟩
              · rw [decide_eq_false (fun y : V.int (e0 : Int) = V.int (x.length : Int) => c (by cases y; rfl))]
                exact iteF ⟨by decide, NewO.mk fun p3 H3 S3 n3 e3 => ⟨_, Dt.lst (S3 _ _ (SD _ _ eB)) bb, _, Dt.lst e3 bb, by decide, q _⟩⟩
        rw [a_tSeq]
        simp only [a_tLenS, a_tFor, a_tSet, a_tSetC, a_tVar, a_tC, a_tB, a_tAnd, a_tOr, a_tNot, a_tAndV, a_tOrV, a_tNext, a_tDrop, a_tRet, a_tIfS, a_gName, a_gNil, a_gCons, a_gTup, a_gSub, a_tAsg, a_tAug, a_iRng1, a_tOp, a_rI, a_rI0, a_rEq, a_rNe, a_tTest, a_tChain, a_tNil, a_tCons, b_tTup, b_tLst, a_tCall, a_tCB, a_tNoPart, a_tPart, a_tSl, a_rIxL, a_rIxS, b_rSetL, a_tBM, b_rAppend, b_rExtend, b_rCat, b_rRep, a_tDIn, a_sDPut, b_tDNewK, a_tYes, a_tComp, a_iStr, a_rSlS, a_rJoin, a_rMulS, a_rEqD, a_rCatD, a_rIxF, a_rSlLF, a_rLenF, a_rIntB, ty_str, tJs, a_tFmtD, a_tFmtR, a_tFmtI, a_tRaise, a_tTry, a_tCallJ, a_rIsE, a_rMaxS, a_ipI, a_iL, a_iT, L2.start, blkSt, cxOf_K, blk_K, List.getElem?_cons_zero, List.getElem?_cons_succ, Option.some.injEq, Option.join_some, exists_eq_left', exists_eq_left, exists_eq_right, V.int.injEq, V.ref.injEq, V.str.injEq, V.bl.injEq, V.ty.injEq, and_true, true_and, List.set_cons_zero, List.set_cons_succ, List.cons.injEq, List.cons_append, List.nil_append, List.append_nil, List.map_cons, List.map_nil, List.length_cons, List.length_nil, List.replicate, exists_and_left, exists_and_right, Nat.reduceAdd, Nat.reduceSub, atI_0, atI_1, atI_2, atI_3, atI_4, if_true, if_false, Bool.false_eq_true, scal_ii, scal_ss, scal_bb]
        refine ⟨a, ns, 30, rfl, hS3, h63, by omega, by omega, _, rfl, by decide, ite2 (fun _ => ?_) (fun _ => tail4 x1 H3 S3 l1)⟩
        exact ⟨a, ns, 31, rfl, hS3, h63, by omega, by omega, _, rfl, fun x H4 S4 lx => tail4 x H4 (S3.trans S4) ⟨Nat.le_trans lx.1 (by decide), lx.2⟩⟩
      rw [a_tSeq]
      simp only [a_tLenS, a_tFor, a_tSet, a_tSetC, a_tVar, a_tC, a_tB, a_tAnd, a_tOr, a_tNot, a_tAndV, a_tOrV, a_tNext, a_tDrop, a_tRet, a_tIfS, a_gName, a_gNil, a_gCons, a_gTup, a_gSub, a_tAsg, a_tAug, a_iRng1, a_tOp, a_rI, a_rI0, a_rEq, a_rNe, a_tTest, a_tChain, a_tNil, a_tCons, b_tTup, b_tLst, a_tCall, a_tCB, a_tNoPart, a_tPart, a_tSl, a_rIxL, a_rIxS, b_rSetL, a_tBM, b_rAppend, b_rExtend, b_rCat, b_rRep, a_tDIn, a_sDPut, b_tDNewK, a_tYes, a_tComp, a_iStr, a_rSlS, a_rJoin, a_rMulS, a_rEqD, a_rCatD, a_rIxF, a_rSlLF, a_rLenF, a_rIntB, ty_str, tJs, a_tFmtD, a_tFmtR, a_tFmtI, a_tRaise, a_tTry, a_tCallJ, a_rIsE, a_rMaxS, a_ipI, a_iL, a_iT, L2.start, blkSt, cxOf_K, blk_K, List.getElem?_cons_zero, List.getElem?_cons_succ, Option.some.injEq, Option.join_some, exists_eq_left', exists_eq_left, exists_eq_right, V.int.injEq, V.ref.injEq, V.str.injEq, V.bl.injEq, V.ty.injEq, and_true, true_and, List.set_cons_zero, List.set_cons_succ, List.cons.injEq, List.cons_append, List.nil_append, List.append_nil, List.map_cons, List.map_nil, List.length_cons, List.length_nil, List.replicate, exists_and_left, exists_and_right, Nat.reduceAdd, Nat.reduceSub, atI_0, atI_1, atI_2, atI_3, atI_4, if_true, if_false, Bool.false_eq_true, scal_ii, scal_ss, scal_bb]
      have w1 := app_low f1 gl
      have w2 := app_low w1 f6
      refine ⟨a, ns, 30, rfl, hS3, h63, by omega, by omega, _, rfl, by decide, ite2 (fun _ => ⟨line_le (by have := f1.1; have := gl.1; (first | (clear h63 hm1 hm hmn hC; lia) | omega)), line_le (by have := w1.1; have := f6.1; (first | (clear h63 hm1 hm hmn hC; lia) | omega)), tail3 _ H3 S3 ⟨Nat.le_trans w2.1 (by decide), w2.2⟩⟩) (fun _ => tail3 x1 H3 S3 l1)⟩
    rw [a_tSeq]
    simp only [a_tLenS, a_tFor, a_tSet, a_tSetC, a_tVar, a_tC, a_tB, a_tAnd, a_tOr, a_tNot, a_tAndV, a_tOrV, a_tNext, a_tDrop, a_tRet, a_tIfS, a_gName, a_gNil, a_gCons, a_gTup, a_gSub, a_tAsg, a_tAug, a_iRng1, a_tOp, a_rI, a_rI0, a_rEq, a_rNe, a_tTest, a_tChain, a_tNil, a_tCons, b_tTup, b_tLst, a_tCall, a_tCB, a_tNoPart, a_tPart, a_tSl, a_rIxL, a_rIxS, b_rSetL, a_tBM, b_rAppend, b_rExtend, b_rCat, b_rRep, a_tDIn, a_sDPut, b_tDNewK, a_tYes, a_tComp, a_iStr, a_rSlS, a_rJoin, a_rMulS, a_rEqD, a_rCatD, a_rIxF, a_rSlLF, a_rLenF, a_rIntB, ty_str, tJs, a_tFmtD, a_tFmtR, a_tFmtI, a_tRaise, a_tTry, a_tCallJ, a_rIsE, a_rMaxS, a_ipI, a_iL, a_iT, L2.start, blkSt, cxOf_K, blk_K, List.getElem?_cons_zero, List.getElem?_cons_succ, Option.some.injEq, Option.join_some, exists_eq_left', exists_eq_left, exists_eq_right, V.int.injEq, V.ref.injEq, V.str.injEq, V.bl.injEq, V.ty.injEq, and_true, true_and, List.set_cons_zero, List.set_cons_succ, List.cons.injEq, List.cons_append, List.nil_append, List.append_nil, List.map_cons, List.map_nil, List.length_cons, List.length_nil, List.replicate, exists_and_left, exists_and_right, Nat.reduceAdd, Nat.reduceSub, atI_0, atI_1, atI_2, atI_3, atI_4, if_true, if_false, Bool.false_eq_true, scal_ii, scal_ss, scal_bb]
    have w1 := app_low f1 gl
    have w2 := app_low w1 f2
    refine ⟨a, ns, 30, rfl, hS3, h63, by omega, by omega, _, rfl, by decide, ite2 (fun _ => ⟨line_le (by have := f1.1; have := gl.1; (first | (clear h63 hm1 hm hmn hC; lia) | omega)), line_le (by have := w1.1; have := f2.1; (first | (clear h63 hm1 hm hmn hC; lia) | omega)), a, ns, rfl, hS3, h63, a, ns, rfl, hS3, h63, fun many2 H4 hm21 hm2 S4 _ => ⟨lawSecond ns, many2, rfl, hm2, fun pn nv H5 S5 n5 e5 D5 => ?_⟩⟩) (fun _ => tail2 x1 H3 S3 l1)⟩
    have hnv := D5.strs
    subst hnv
    have hx0 : ((List.range many2).map (nmS (lawSecond ns) many2))[0]? = some (nmS (lawSecond ns) many2 0) := by rw [List.getElem?_map, List.getElem?_range (by (first | (clear h63 hm1 hm hm2 n5 e5 hC; lia) | omega))]; rfl
    have ok0 : nameOk (nmS (lawSecond ns) many2 0) = true := nmS_ok (by (first | (clear h63 hm1 hm hm2 n5 e5 hx0 hC; lia) | omega))
    generalize nmS (lawSecond ns) many2 0 = x0 at hx0 ok0
    have l0 : lowT 8 x0 := ⟨by rw [len_cps]; exact (nameOk_low ok0).1, (nameOk_low ok0).2⟩
    have w3 := app_low w2 l0
    have w4 := app_low w3 f3
    have hx0' : (((List.range many2).map (nmS (lawSecond ns) many2)).map V.str)[0]? = some (.str x0) := by rw [List.getElem?_map, hx0]; rfl
    exact ⟨pn, rfl, _, items_l e5, .str x0, atI_nat hx0', x0, rfl, line_le (by have := w2.1; have := l0.1; (first | (clear h63 hm1 hm hmn hC hm21 hm2 n5 e5 hx0 ok0 hx0'; lia) | omega)), line_le (by have := w3.1; have := f3.1; (first | (clear h63 hm1 hm hmn hC hm21 hm2 n5 e5 hx0 ok0 hx0'; lia) | omega)), tail2 _ H5 ((S3.trans S4).trans S5) ⟨Nat.le_trans w4.1 (by decide), w4.2⟩⟩
  rw [a_tSeq]
  simp only [a_tLenS, a_tFor, a_tSet, a_tSetC, a_tVar, a_tC, a_tB, a_tAnd, a_tOr, a_tNot, a_tAndV, a_tOrV, a_tNext, a_tDrop, a_tRet, a_tIfS, a_gName, a_gNil, a_gCons, a_gTup, a_gSub, a_tAsg, a_tAug, a_iRng1, a_tOp, a_rI, a_rI0, a_rEq, a_rNe, a_tTest, a_tChain, a_tNil, a_tCons, b_tTup, b_tLst, a_tCall, a_tCB, a_tNoPart, a_tPart, a_tSl, a_rIxL, a_rIxS, b_rSetL, a_tBM, b_rAppend, b_rExtend, b_rCat, b_rRep, a_tDIn, a_sDPut, b_tDNewK, a_tYes, a_tComp, a_iStr, a_rSlS, a_rJoin, a_rMulS, a_rEqD, a_rCatD, a_rIxF, a_rSlLF, a_rLenF, a_rIntB, ty_str, tJs, a_tFmtD, a_tFmtR, a_tFmtI, a_tRaise, a_tTry, a_tCallJ, a_rIsE, a_rMaxS, a_ipI, a_iL, a_iT, L2.start, blkSt, cxOf_K, blk_K, List.getElem?_cons_zero, List.getElem?_cons_succ, Option.some.injEq, Option.join_some, exists_eq_left', exists_eq_left, exists_eq_right, V.int.injEq, V.ref.injEq, V.str.injEq, V.bl.injEq, V.ty.injEq, and_true, true_and, List.set_cons_zero, List.set_cons_succ, List.cons.injEq, List.cons_append, List.nil_append, List.append_nil, List.map_cons, List.map_nil, List.length_cons, List.length_nil, List.replicate, exists_and_left, exists_and_right, Nat.reduceAdd, Nat.reduceSub, atI_0, atI_1, atI_2, atI_3, atI_4, if_true, if_false, Bool.false_eq_true, scal_ii, scal_ss, scal_bb]
  refine ⟨a, ns, 30, rfl, hS2, h63, by omega, by omega, _, rfl, by decide, ite2 (fun _ => ?_) (fun _ => tail1 g H2 (Same.refl _) ⟨Nat.le_trans gl.1 (by decide), gl.2⟩)⟩
  refine ⟨a, ns, 30, rfl, hS2, h63, by omega, by omega, _, rfl, ⟨by decide, by decide⟩, by decide, ?_⟩
  obtain ⟨n1, hn1, hn1'⟩ : ∃ n1 : Nat, lawAt ns (30 : Int).toNat / 3 % 301 = (n1 : Int) ∧ n1 ≤ 300 := ⟨(lawAt ns (30 : Int).toNat / 3 % 301).toNat, by (first | (clear h63 hm1 hm hmn hC; lia) | omega), by (first | (clear h63 hm1 hm hmn hC; lia) | omega)⟩
  rw [hn1]
  have m1 := mul_low f1 n1
  have w1 := app_low m1 f4
  refine ⟨mulOk (Nat.le_trans f1.1 (by decide)) (by (first | (clear h63 hm1 hm hmn hC hn1; lia) | omega)), line_le (by have := m1.1; have := f4.1; (first | (clear h63 hm1 hm hmn hC hn1; lia) | omega)), a, ns, 31, rfl, hS2, h63, by omega, by omega, _, rfl, by decide, ?_⟩
  obtain ⟨n2, hn2, hn2'⟩ : ∃ n2 : Nat, lawAt ns (31 : Int).toNat % 301 = (n2 : Int) ∧ n2 ≤ 300 := ⟨(lawAt ns (31 : Int).toNat % 301).toNat, by (first | (clear h63 hm1 hm hmn hC hn1 hn1'; lia) | omega), by (first | (clear h63 hm1 hm hmn hC hn1 hn1'; lia) | omega)⟩
  rw [hn2]
  have m2 := mul_low f5 n2
  have w2 := app_low w1 m2
  exact ⟨mulOk (Nat.le_trans f5.1 (by decide)) (by (first | (clear h63 hm1 hm hmn hC hn1 hn1' hn2; lia) | omega)), line_le (by have := w1.1; have := m2.1; (first | (clear h63 hm1 hm hmn hC hn1 hn2; lia) | omega)), tail1 _ H2 (Same.refl _) ⟨Nat.le_trans w2.1 (by (first | (clear h63 hm1 hm hmn hC hn2' hn1; lia) | omega)), w2.2⟩⟩
end
theorem sub_of_mro {K : PySem.W.Frag} {C F : Addr} {r : Bool} (h : PySem.W.mroIn K C (.ref F) = some r) : subOf K C F = r := by
  obtain ⟨cd, a, b⟩ := Option.bind_eq_some_iff.mp h
  unfold PySem.W.clsIn at a
  split at a
  · rename_i lk
    cases a
    unfold subOf
    rw [lk]
    split at b
    · cases b
    · exact Option.some.inj b
  · cases a
theorem cls_of_mro {K : PySem.W.Frag} {C : Addr} {v : Value} {r : Bool} (h : PySem.W.mroIn K C v = some r) : (PySem.W.clsIn K C).isSome = true := by
  obtain ⟨cd, a, _⟩ := Option.bind_eq_some_iff.mp h
  rw [a]; rfl
theorem txt_mk {K : PySem.W.Frag} {h : Heap} {mg : Str → Option Value} (X : K.In h) (G : h.Ns mainGlobals mg)
    {f0 : Addr} {od0 an0 : Option Addr} {sl0 : Array (Option Value)} {oc0 kV0 dc0 pm0 cd0 ct0 : Value}
    {f1 : Addr} {od1 an1 : Option Addr} {sl1 : Array (Option Value)} {oc1 kV1 dc1 pm1 cd1 ct1 : Value}
    {f2 : Addr} {od2 an2 : Option Addr} {sl2 : Array (Option Value)} {oc2 kV2 dc2 pm2 cd2 ct2 : Value}
    {f3 : Addr} {od3 an3 : Option Addr} {sl3 : Array (Option Value)} {oc3 kV3 dc3 pm3 cd3 ct3 : Value}
    {f4 : Addr} {od4 an4 : Option Addr} {sl4 : Array (Option Value)} {oc4 kV4 dc4 pm4 cd4 ct4 : Value}
    {f5 : Addr} {od5 an5 : Option Addr} {sl5 : Array (Option Value)} {oc5 kV5 dc5 pm5 cd5 ct5 : Value}
    {f6 : Addr} {od6 an6 : Option Addr} {sl6 : Array (Option Value)} {oc6 kV6 dc6 pm6 cd6 ct6 : Value}
    {f7 : Addr} {od7 an7 : Option Addr} {sl7 : Array (Option Value)} {oc7 kV7 dc7 pm7 cd7 ct7 : Value}
    {f8 : Addr} {od8 an8 : Option Addr} {sl8 : Array (Option Value)} {oc8 kV8 dc8 pm8 cd8 ct8 : Value}
    {f9 : Addr} {od9 an9 : Option Addr} {sl9 : Array (Option Value)} {oc9 kV9 dc9 pm9 cd9 ct9 : Value}
    {f10 : Addr} {od10 an10 : Option Addr} {sl10 : Array (Option Value)} {oc10 kV10 dc10 pm10 cd10 ct10 : Value}
    {f11 : Addr} {od11 an11 : Option Addr} {sl11 : Array (Option Value)} {oc11 kV11 dc11 pm11 cd11 ct11 : Value}
    {f12 : Addr} {od12 an12 : Option Addr} {sl12 : Array (Option Value)} {oc12 kV12 dc12 pm12 cd12 ct12 : Value}
    {f13 : Addr} {od13 an13 : Option Addr} {sl13 : Array (Option Value)} {oc13 kV13 dc13 pm13 cd13 ct13 : Value}
    {f14 : Addr} {od14 an14 : Option Addr} {sl14 : Array (Option Value)} {oc14 kV14 dc14 pm14 cd14 ct14 : Value}
    {f15 : Addr} {od15 an15 : Option Addr} {sl15 : Array (Option Value)} {oc15 kV15 dc15 pm15 cd15 ct15 : Value}
    {f16 : Addr} {od16 an16 : Option Addr} {sl16 : Array (Option Value)} {oc16 kV16 dc16 pm16 cd16 ct16 : Value}
    {f17 : Addr} {od17 an17 : Option Addr} {sl17 : Array (Option Value)} {oc17 kV17 dc17 pm17 cd17 ct17 : Value}
    {f18 : Addr} {od18 an18 : Option Addr} {sl18 : Array (Option Value)} {oc18 kV18 dc18 pm18 cd18 ct18 : Value}
    {f19 : Addr} {od19 an19 : Option Addr} {sl19 : Array (Option Value)} {oc19 kV19 dc19 pm19 cd19 ct19 : Value}
    {f20 : Addr} {od20 an20 : Option Addr} {sl20 : Array (Option Value)} {oc20 kV20 dc20 pm20 cd20 ct20 : Value}
    {f21 : Addr} {od21 an21 : Option Addr} {sl21 : Array (Option Value)} {oc21 kV21 dc21 pm21 cd21 ct21 : Value}
    {f22 : Addr} {od22 an22 : Option Addr} {sl22 : Array (Option Value)} {oc22 kV22 dc22 pm22 cd22 ct22 : Value}
    {f23 : Addr} {od23 an23 : Option Addr} {sl23 : Array (Option Value)} {oc23 kV23 dc23 pm23 cd23 ct23 : Value}
    {tk0 : Tok}
    {tk1 : Tok}
    {tk2 : Tok}
    {C_FewError : Addr}
    {C_NoName : Addr}
    {C_NoText : Addr}
    {C_TooBig : Addr}
    {C_Twice : Addr}
    (a0 : PySem.W.nsIn K mainGlobals "is_name" = some (some (.ref f0))) (l0 : K.lookup f0 = some ⟨oc0, od0, .func (PySem.W.fnOf "is_name" "is_name" (defArgs s_is_name) (defBody s_is_name) (defScope s_is_name) .none kV0 dc0 pm0 an0 cd0 ct0), sl0⟩) (c0 : PySem.W.codeIn K cd0 "is_name" = true) (k0 : PySem.W.keepIn K (.ref f0) = true)
    (a1 : PySem.W.nsIn K mainGlobals "is_leaf" = some (some (.ref f1))) (l1 : K.lookup f1 = some ⟨oc1, od1, .func (PySem.W.fnOf "is_leaf" "is_leaf" (defArgs s_is_leaf) (defBody s_is_leaf) (defScope s_is_leaf) .none kV1 dc1 pm1 an1 cd1 ct1), sl1⟩) (c1 : PySem.W.codeIn K cd1 "is_leaf" = true) (k1 : PySem.W.keepIn K (.ref f1) = true)
    (a2 : PySem.W.nsIn K mainGlobals "places" = some (some (.ref f2))) (l2 : K.lookup f2 = some ⟨oc2, od2, .func (PySem.W.fnOf "places" "places" (defArgs s_places) (defBody s_places) (defScope s_places) .none kV2 dc2 pm2 an2 cd2 ct2), sl2⟩) (c2 : PySem.W.codeIn K cd2 "places" = true) (k2 : PySem.W.keepIn K (.ref f2) = true)
    (a3 : PySem.W.nsIn K mainGlobals "leaves" = some (some (.ref f3))) (l3 : K.lookup f3 = some ⟨oc3, od3, .func (PySem.W.fnOf "leaves" "leaves" (defArgs s_leaves) (defBody s_leaves) (defScope s_leaves) .none kV3 dc3 pm3 an3 cd3 ct3), sl3⟩) (c3 : PySem.W.codeIn K cd3 "leaves" = true) (k3 : PySem.W.keepIn K (.ref f3) = true)
    (a4 : PySem.W.nsIn K mainGlobals "part_at" = some (some (.ref f4))) (l4 : K.lookup f4 = some ⟨oc4, od4, .func (PySem.W.fnOf "part_at" "part_at" (defArgs s_part_at) (defBody s_part_at) (defScope s_part_at) .none kV4 dc4 pm4 an4 cd4 ct4), sl4⟩) (c4 : PySem.W.codeIn K cd4 "part_at" = true) (k4 : PySem.W.keepIn K (.ref f4) = true)
    (a5 : PySem.W.nsIn K mainGlobals "deeper_than" = some (some (.ref f5))) (l5 : K.lookup f5 = some ⟨oc5, od5, .func (PySem.W.fnOf "deeper_than" "deeper_than" (defArgs s_deeper_than) (defBody s_deeper_than) (defScope s_deeper_than) .none kV5 dc5 pm5 an5 cd5 ct5), sl5⟩) (c5 : PySem.W.codeIn K cd5 "deeper_than" = true) (k5 : PySem.W.keepIn K (.ref f5) = true)
    (a6 : PySem.W.nsIn K mainGlobals "check_size" = some (some (.ref f6))) (l6 : K.lookup f6 = some ⟨oc6, od6, .func (PySem.W.fnOf "check_size" "check_size" (defArgs s_check_size) (defBody s_check_size) (defScope s_check_size) .none kV6 dc6 pm6 an6 cd6 ct6), sl6⟩) (c6 : PySem.W.codeIn K cd6 "check_size" = true) (k6 : PySem.W.keepIn K (.ref f6) = true)
    (a7 : PySem.W.nsIn K mainGlobals "check_names" = some (some (.ref f7))) (l7 : K.lookup f7 = some ⟨oc7, od7, .func (PySem.W.fnOf "check_names" "check_names" (defArgs s_check_names) (defBody s_check_names) (defScope s_check_names) .none kV7 dc7 pm7 an7 cd7 ct7), sl7⟩) (c7 : PySem.W.codeIn K cd7 "check_names" = true) (k7 : PySem.W.keepIn K (.ref f7) = true)
    (a8 : PySem.W.nsIn K mainGlobals "formula" = some (some (.ref f8))) (l8 : K.lookup f8 = some ⟨oc8, od8, .func (PySem.W.fnOf "formula" "formula" (defArgs s_formula) (defBody s_formula) (defScope s_formula) .none kV8 dc8 pm8 an8 cd8 ct8), sl8⟩) (c8 : PySem.W.codeIn K cd8 "formula" = true) (k8 : PySem.W.keepIn K (.ref f8) = true)
    (a9 : PySem.W.nsIn K mainGlobals "name_end" = some (some (.ref f9))) (l9 : K.lookup f9 = some ⟨oc9, od9, .func (PySem.W.fnOf "name_end" "name_end" (defArgs s_name_end) (defBody s_name_end) (defScope s_name_end) .none kV9 dc9 pm9 an9 cd9 ct9), sl9⟩) (c9 : PySem.W.codeIn K cd9 "name_end" = true) (k9 : PySem.W.keepIn K (.ref f9) = true)
    (a10 : PySem.W.nsIn K mainGlobals "past" = some (some (.ref f10))) (l10 : K.lookup f10 = some ⟨oc10, od10, .func (PySem.W.fnOf "past" "past" (defArgs s_past) (defBody s_past) (defScope s_past) .none kV10 dc10 pm10 an10 cd10 ct10), sl10⟩) (c10 : PySem.W.codeIn K cd10 "past" = true) (k10 : PySem.W.keepIn K (.ref f10) = true)
    (a11 : PySem.W.nsIn K mainGlobals "tree_from" = some (some (.ref f11))) (l11 : K.lookup f11 = some ⟨oc11, od11, .func (PySem.W.fnOf "tree_from" "tree_from" (defArgs s_tree_from) (defBody s_tree_from) (defScope s_tree_from) .none kV11 dc11 pm11 an11 cd11 ct11), sl11⟩) (c11 : PySem.W.codeIn K cd11 "tree_from" = true) (k11 : PySem.W.keepIn K (.ref f11) = true)
    (a12 : PySem.W.nsIn K mainGlobals "read" = some (some (.ref f12))) (l12 : K.lookup f12 = some ⟨oc12, od12, .func (PySem.W.fnOf "read" "read" (defArgs s_read) (defBody s_read) (defScope s_read) .none kV12 dc12 pm12 an12 cd12 ct12), sl12⟩) (c12 : PySem.W.codeIn K cd12 "read" = true) (k12 : PySem.W.keepIn K (.ref f12) = true)
    (a13 : PySem.W.nsIn K mainGlobals "_law_at" = some (some (.ref f13))) (l13 : K.lookup f13 = some ⟨oc13, od13, .func (PySem.W.fnOf "_law_at" "_law_at" (defArgs s__law_at) (defBody s__law_at) (defScope s__law_at) .none kV13 dc13 pm13 an13 cd13 ct13), sl13⟩) (c13 : PySem.W.codeIn K cd13 "_law_at" = true) (k13 : PySem.W.keepIn K (.ref f13) = true)
    (a14 : PySem.W.nsIn K mainGlobals "_law_names" = some (some (.ref f14))) (l14 : K.lookup f14 = some ⟨oc14, od14, .func (PySem.W.fnOf "_law_names" "_law_names" (defArgs s__law_names) (defBody s__law_names) (defScope s__law_names) .none kV14 dc14 pm14 an14 cd14 ct14), sl14⟩) (c14 : PySem.W.codeIn K cd14 "_law_names" = true) (k14 : PySem.W.keepIn K (.ref f14) = true)
    (a15 : PySem.W.nsIn K mainGlobals "_law_many" = some (some (.ref f15))) (l15 : K.lookup f15 = some ⟨oc15, od15, .func (PySem.W.fnOf "_law_many" "_law_many" (defArgs s__law_many) (defBody s__law_many) (defScope s__law_many) .none kV15 dc15 pm15 an15 cd15 ct15), sl15⟩) (c15 : PySem.W.codeIn K cd15 "_law_many" = true) (k15 : PySem.W.keepIn K (.ref f15) = true)
    (a16 : PySem.W.nsIn K mainGlobals "_law_second" = some (some (.ref f16))) (l16 : K.lookup f16 = some ⟨oc16, od16, .func (PySem.W.fnOf "_law_second" "_law_second" (defArgs s__law_second) (defBody s__law_second) (defScope s__law_second) .none kV16 dc16 pm16 an16 cd16 ct16), sl16⟩) (c16 : PySem.W.codeIn K cd16 "_law_second" = true) (k16 : PySem.W.keepIn K (.ref f16) = true)
    (a17 : PySem.W.nsIn K mainGlobals "_law_tree" = some (some (.ref f17))) (l17 : K.lookup f17 = some ⟨oc17, od17, .func (PySem.W.fnOf "_law_tree" "_law_tree" (defArgs s__law_tree) (defBody s__law_tree) (defScope s__law_tree) .none kV17 dc17 pm17 an17 cd17 ct17), sl17⟩) (c17 : PySem.W.codeIn K cd17 "_law_tree" = true) (k17 : PySem.W.keepIn K (.ref f17) = true)
    (a18 : PySem.W.nsIn K mainGlobals "_law_text" = some (some (.ref f18))) (l18 : K.lookup f18 = some ⟨oc18, od18, .func (PySem.W.fnOf "_law_text" "_law_text" (defArgs s__law_text) (defBody s__law_text) (defScope s__law_text) .none kV18 dc18 pm18 an18 cd18 ct18), sl18⟩) (c18 : PySem.W.codeIn K cd18 "_law_text" = true) (k18 : PySem.W.keepIn K (.ref f18) = true)
    (a19 : PySem.W.nsIn K mainGlobals "_law_parts" = some (some (.ref f19))) (l19 : K.lookup f19 = some ⟨oc19, od19, .func (PySem.W.fnOf "_law_parts" "_law_parts" (defArgs s__law_parts) (defBody s__law_parts) (defScope s__law_parts) .none kV19 dc19 pm19 an19 cd19 ct19), sl19⟩) (c19 : PySem.W.codeIn K cd19 "_law_parts" = true) (k19 : PySem.W.keepIn K (.ref f19) = true)
    (a20 : PySem.W.nsIn K mainGlobals "_law_comb" = some (some (.ref f20))) (l20 : K.lookup f20 = some ⟨oc20, od20, .func (PySem.W.fnOf "_law_comb" "_law_comb" (defArgs s__law_comb) (defBody s__law_comb) (defScope s__law_comb) .none kV20 dc20 pm20 an20 cd20 ct20), sl20⟩) (c20 : PySem.W.codeIn K cd20 "_law_comb" = true) (k20 : PySem.W.keepIn K (.ref f20) = true)
    (a21 : PySem.W.nsIn K mainGlobals "_law_read" = some (some (.ref f21))) (l21 : K.lookup f21 = some ⟨oc21, od21, .func (PySem.W.fnOf "_law_read" "_law_read" (defArgs s__law_read) (defBody s__law_read) (defScope s__law_read) .none kV21 dc21 pm21 an21 cd21 ct21), sl21⟩) (c21 : PySem.W.codeIn K cd21 "_law_read" = true) (k21 : PySem.W.keepIn K (.ref f21) = true)
    (a22 : PySem.W.nsIn K mainGlobals "_law_good" = some (some (.ref f22))) (l22 : K.lookup f22 = some ⟨oc22, od22, .func (PySem.W.fnOf "_law_good" "_law_good" (defArgs s__law_good) (defBody s__law_good) (defScope s__law_good) .none kV22 dc22 pm22 an22 cd22 ct22), sl22⟩) (c22 : PySem.W.codeIn K cd22 "_law_good" = true) (k22 : PySem.W.keepIn K (.ref f22) = true)
    (a23 : PySem.W.nsIn K mainGlobals "law" = some (some (.ref f23))) (l23 : K.lookup f23 = some ⟨oc23, od23, .func (PySem.W.fnOf "law" "law" (defArgs s_law) (defBody s_law) (defScope s_law) .none kV23 dc23 pm23 an23 cd23 ct23), sl23⟩) (c23 : PySem.W.codeIn K cd23 "law" = true) (k23 : PySem.W.keepIn K (.ref f23) = true)
    (v0 : PySem.W.nsIn K mainGlobals "LONGEST_NAME" = some (some (.int 8 tk0)))
    (v1 : PySem.W.nsIn K mainGlobals "MOST_DEEP" = some (some (.int 24 tk1)))
    (v2 : PySem.W.nsIn K mainGlobals "MOST_LEAVES" = some (some (.int 32 tk2)))
    (z0 : PySem.W.nsIn K mainGlobals "ValueError" = some none)
    (z1 : PySem.W.nsIn K mainGlobals "all" = some none)
    (z2 : PySem.W.nsIn K mainGlobals "int" = some none)
    (z3 : PySem.W.nsIn K mainGlobals "isinstance" = some none)
    (z4 : PySem.W.nsIn K mainGlobals "len" = some none)
    (z5 : PySem.W.nsIn K mainGlobals "max" = some none)
    (z6 : PySem.W.nsIn K mainGlobals "range" = some none)
    (z7 : PySem.W.nsIn K mainGlobals "set" = some none)
    (ea_FewError : PySem.W.nsIn K mainGlobals "FewError" = some (some (.ref C_FewError)))
    (ex_FewError : PySem.W.excIn K C_FewError bmV "ValueError.__new__" = true)
    (ea_NoName : PySem.W.nsIn K mainGlobals "NoName" = some (some (.ref C_NoName)))
    (ex_NoName : PySem.W.excIn K C_NoName bmV "ValueError.__new__" = true)
    (ea_NoText : PySem.W.nsIn K mainGlobals "NoText" = some (some (.ref C_NoText)))
    (ex_NoText : PySem.W.excIn K C_NoText bmV "ValueError.__new__" = true)
    (ea_TooBig : PySem.W.nsIn K mainGlobals "TooBig" = some (some (.ref C_TooBig)))
    (ex_TooBig : PySem.W.excIn K C_TooBig bmV "ValueError.__new__" = true)
    (ea_Twice : PySem.W.nsIn K mainGlobals "Twice" = some (some (.ref C_Twice)))
    (ex_Twice : PySem.W.excIn K C_Twice bmV "ValueError.__new__" = true)
    (u_NoName_FewError : PySem.W.mroIn K C_NoName (.ref C_FewError) = some true)
    (u_NoText_FewError : PySem.W.mroIn K C_NoText (.ref C_FewError) = some true)
    (u_TooBig_FewError : PySem.W.mroIn K C_TooBig (.ref C_FewError) = some true)
    (u_Twice_FewError : PySem.W.mroIn K C_Twice (.ref C_FewError) = some true)
    (ga_NoName : PySem.W.findIn K (.ref C_NoName) "__getattribute__" = some (some (.builtin "BaseException.__getattribute__")))
    (gx_NoName : PySem.W.findIn K (.ref C_NoName) "__getattr__" = some none)
    (cl_NoName : PySem.W.findIn K (.ref C_NoName) "__class__" = some (some (.builtin "object.__class__")))
    (sp_NoName : PySem.W.specialIn K (.builtin "object.__class__") "__get__" = some (some (.builtin "getset_descriptor.__get__")))
    (tk_NoName : PySem.W.takesIn K (.builtin "object.__class__") = some true)
    (mr_NoName : PySem.W.mroIn K C_NoName (.type "object") = some true)
    (k_NoName_NoText : PySem.W.kitOne K (.ref C_NoName) (.ref C_NoText) = some false)
    (k_NoName_ValueError : PySem.W.kitOne K (.ref C_NoName) (.type "ValueError") = some true)
    (ga_NoText : PySem.W.findIn K (.ref C_NoText) "__getattribute__" = some (some (.builtin "BaseException.__getattribute__")))
    (gx_NoText : PySem.W.findIn K (.ref C_NoText) "__getattr__" = some none)
    (cl_NoText : PySem.W.findIn K (.ref C_NoText) "__class__" = some (some (.builtin "object.__class__")))
    (sp_NoText : PySem.W.specialIn K (.builtin "object.__class__") "__get__" = some (some (.builtin "getset_descriptor.__get__")))
    (tk_NoText : PySem.W.takesIn K (.builtin "object.__class__") = some true)
    (mr_NoText : PySem.W.mroIn K C_NoText (.type "object") = some true)
    (k_NoText_NoText : PySem.W.kitOne K (.ref C_NoText) (.ref C_NoText) = some true)
    (k_NoText_ValueError : PySem.W.kitOne K (.ref C_NoText) (.type "ValueError") = some true)
    (ga_TooBig : PySem.W.findIn K (.ref C_TooBig) "__getattribute__" = some (some (.builtin "BaseException.__getattribute__")))
    (gx_TooBig : PySem.W.findIn K (.ref C_TooBig) "__getattr__" = some none)
    (cl_TooBig : PySem.W.findIn K (.ref C_TooBig) "__class__" = some (some (.builtin "object.__class__")))
    (sp_TooBig : PySem.W.specialIn K (.builtin "object.__class__") "__get__" = some (some (.builtin "getset_descriptor.__get__")))
    (tk_TooBig : PySem.W.takesIn K (.builtin "object.__class__") = some true)
    (mr_TooBig : PySem.W.mroIn K C_TooBig (.type "object") = some true)
    (k_TooBig_NoText : PySem.W.kitOne K (.ref C_TooBig) (.ref C_NoText) = some false)
    (k_TooBig_ValueError : PySem.W.kitOne K (.ref C_TooBig) (.type "ValueError") = some true)
    (ga_Twice : PySem.W.findIn K (.ref C_Twice) "__getattribute__" = some (some (.builtin "BaseException.__getattribute__")))
    (gx_Twice : PySem.W.findIn K (.ref C_Twice) "__getattr__" = some none)
    (cl_Twice : PySem.W.findIn K (.ref C_Twice) "__class__" = some (some (.builtin "object.__class__")))
    (sp_Twice : PySem.W.specialIn K (.builtin "object.__class__") "__get__" = some (some (.builtin "getset_descriptor.__get__")))
    (tk_Twice : PySem.W.takesIn K (.builtin "object.__class__") = some true)
    (mr_Twice : PySem.W.mroIn K C_Twice (.type "object") = some true)
    (k_Twice_NoText : PySem.W.kitOne K (.ref C_Twice) (.ref C_NoText) = some false)
    (k_Twice_ValueError : PySem.W.kitOne K (.ref C_Twice) (.type "ValueError") = some true) :
    ∃ T : Txt K mg, T.f_law = f23 ∧ (∀ (s : Shared) (v : Value), BindsTo s T.d_law ⟨[v], []⟩ [("script", v)]) := by
  have F0 := fun_mk (st := s_is_name) l0 c0 k0
  have b0 := F0.binds1 (ps := ["text"]) rfl fun _ _ _ _ _ _ _ => rfl
  have F1 := fun_mk (st := s_is_leaf) l1 c1 k1
  have b1 := F1.binds1 (ps := ["tree"]) rfl fun _ _ _ _ _ _ _ => rfl
  have F2 := fun_mk (st := s_places) l2 c2 k2
  have b2 := F2.binds1 (ps := ["tree"]) rfl fun _ _ _ _ _ _ _ => rfl
  have F3 := fun_mk (st := s_leaves) l3 c3 k3
  have b3 := F3.binds1 (ps := ["tree"]) rfl fun _ _ _ _ _ _ _ => rfl
  have F4 := fun_mk (st := s_part_at) l4 c4 k4
  have b4 := F4.binds2 (ps := ["tree", "place"]) rfl fun _ _ _ _ _ _ _ _ => rfl
  have F5 := fun_mk (st := s_deeper_than) l5 c5 k5
  have b5 := F5.binds2 (ps := ["tree", "bound"]) rfl fun _ _ _ _ _ _ _ _ => rfl
  have F6 := fun_mk (st := s_check_size) l6 c6 k6
  have b6 := F6.binds1 (ps := ["tree"]) rfl fun _ _ _ _ _ _ _ => rfl
  have F7 := fun_mk (st := s_check_names) l7 c7 k7
  have b7 := F7.binds1 (ps := ["tree"]) rfl fun _ _ _ _ _ _ _ => rfl
  have F8 := fun_mk (st := s_formula) l8 c8 k8
  have b8 := F8.binds1 (ps := ["tree"]) rfl fun _ _ _ _ _ _ _ => rfl
  have F9 := fun_mk (st := s_name_end) l9 c9 k9
  have b9 := F9.binds2 (ps := ["text", "start"]) rfl fun _ _ _ _ _ _ _ _ => rfl
  have F10 := fun_mk (st := s_past) l10 c10 k10
  have b10 := F10.binds3 (ps := ["text", "at", "sign"]) rfl fun _ _ _ _ _ _ _ _ _ => rfl
  have F11 := fun_mk (st := s_tree_from) l11 c11 k11
  have b11 := F11.binds3 (ps := ["text", "start", "level"]) rfl fun _ _ _ _ _ _ _ _ _ => rfl
  have F12 := fun_mk (st := s_read) l12 c12 k12
  have b12 := F12.binds1 (ps := ["text"]) rfl fun _ _ _ _ _ _ _ => rfl
  have F13 := fun_mk (st := s__law_at) l13 c13 k13
  have b13 := F13.binds2 (ps := ["script", "k"]) rfl fun _ _ _ _ _ _ _ _ => rfl
  have F14 := fun_mk (st := s__law_names) l14 c14 k14
  have b14 := F14.binds2 (ps := ["cell", "many"]) rfl fun _ _ _ _ _ _ _ _ => rfl
  have F15 := fun_mk (st := s__law_many) l15 c15 k15
  have b15 := F15.binds1 (ps := ["script"]) rfl fun _ _ _ _ _ _ _ => rfl
  have F16 := fun_mk (st := s__law_second) l16 c16 k16
  have b16 := F16.binds1 (ps := ["script"]) rfl fun _ _ _ _ _ _ _ => rfl
  have F17 := fun_mk (st := s__law_tree) l17 c17 k17
  have b17 := F17.binds3 (ps := ["script", "at", "many"]) rfl fun _ _ _ _ _ _ _ _ _ => rfl
  have F18 := fun_mk (st := s__law_text) l18 c18 k18
  have b18 := F18.binds1 (ps := ["tree"]) rfl fun _ _ _ _ _ _ _ => rfl
  have F19 := fun_mk (st := s__law_parts) l19 c19 k19
  have b19 := F19.binds2 (ps := ["tree", "deep"]) rfl fun _ _ _ _ _ _ _ _ => rfl
  have F20 := fun_mk (st := s__law_comb) l20 c20 k20
  have b20 := F20.binds1 (ps := ["cell"]) rfl fun _ _ _ _ _ _ _ => rfl
  have F21 := fun_mk (st := s__law_read) l21 c21 k21
  have b21 := F21.binds3 (ps := ["text", "at", "deep"]) rfl fun _ _ _ _ _ _ _ _ _ => rfl
  have F22 := fun_mk (st := s__law_good) l22 c22 k22
  have b22 := F22.binds1 (ps := ["tree"]) rfl fun _ _ _ _ _ _ _ => rfl
  have F23 := fun_mk (st := s_law) l23 c23 k23
  have b23 := F23.binds1 (ps := ["script"]) rfl fun _ _ _ _ _ _ _ => rfl
  exact ⟨⟨f0, _, F0, PySem.W.mg_of X G a0, b0, f1, _, F1, PySem.W.mg_of X G a1, b1, f2, _, F2, PySem.W.mg_of X G a2, b2, f3, _, F3, PySem.W.mg_of X G a3, b3, f4, _, F4, PySem.W.mg_of X G a4, b4, f5, _, F5, PySem.W.mg_of X G a5, b5, f6, _, F6, PySem.W.mg_of X G a6, b6, f7, _, F7, PySem.W.mg_of X G a7, b7, f8, _, F8, PySem.W.mg_of X G a8, b8, f9, _, F9, PySem.W.mg_of X G a9, b9, f10, _, F10, PySem.W.mg_of X G a10, b10, f11, _, F11, PySem.W.mg_of X G a11, b11, f12, _, F12, PySem.W.mg_of X G a12, b12, f13, _, F13, PySem.W.mg_of X G a13, b13, f14, _, F14, PySem.W.mg_of X G a14, b14, f15, _, F15, PySem.W.mg_of X G a15, b15, f16, _, F16, PySem.W.mg_of X G a16, b16, f17, _, F17, PySem.W.mg_of X G a17, b17, f18, _, F18, PySem.W.mg_of X G a18, b18, f19, _, F19, PySem.W.mg_of X G a19, b19, f20, _, F20, PySem.W.mg_of X G a20, b20, f21, _, F21, PySem.W.mg_of X G a21, b21, f22, _, F22, PySem.W.mg_of X G a22, b22, f23, _, F23, PySem.W.mg_of X G a23, b23, PySem.W.mg_none_of X G z0, PySem.W.mg_none_of X G z1, PySem.W.mg_none_of X G z2, PySem.W.mg_none_of X G z3, PySem.W.mg_none_of X G z4, PySem.W.mg_none_of X G z5, PySem.W.mg_none_of X G z6, PySem.W.mg_none_of X G z7, tk0, PySem.W.mg_of X G v0, tk1, PySem.W.mg_of X G v1, tk2, PySem.W.mg_of X G v2, C_FewError, PySem.W.mg_of X G ea_FewError, ex_FewError, C_NoName, PySem.W.mg_of X G ea_NoName, ex_NoName, C_NoText, PySem.W.mg_of X G ea_NoText, ex_NoText, C_TooBig, PySem.W.mg_of X G ea_TooBig, ex_TooBig, C_Twice, PySem.W.mg_of X G ea_Twice, ex_Twice, sub_of_mro u_NoName_FewError, sub_of_mro u_NoText_FewError, sub_of_mro u_TooBig_FewError, sub_of_mro u_Twice_FewError, ⟨ex_NoName, ga_NoName, gx_NoName, cl_NoName, sp_NoName, tk_NoName, mr_NoName, cls_of_mro mr_NoName⟩, k_NoName_NoText, k_NoName_ValueError, ⟨ex_NoText, ga_NoText, gx_NoText, cl_NoText, sp_NoText, tk_NoText, mr_NoText, cls_of_mro mr_NoText⟩, k_NoText_NoText, k_NoText_ValueError, ⟨ex_TooBig, ga_TooBig, gx_TooBig, cl_TooBig, sp_TooBig, tk_TooBig, mr_TooBig, cls_of_mro mr_TooBig⟩, k_TooBig_NoText, k_TooBig_ValueError, ⟨ex_Twice, ga_Twice, gx_Twice, cl_Twice, sp_Twice, tk_Twice, mr_Twice, cls_of_mro mr_Twice⟩, k_Twice_NoText, k_Twice_ValueError⟩, rfl, fun s v => .of_eq rfl⟩
theorem all_mk {l : PySem.W.OpenLaw} {w : World} {K : PySem.W.Frag} {h : Heap} {mg : Str → Option Value} {fa : Addr} (X : K.In h) (G : h.Ns mainGlobals mg)
    {f0 : Addr} {od0 an0 : Option Addr} {sl0 : Array (Option Value)} {oc0 kV0 dc0 pm0 cd0 ct0 : Value}
    {f1 : Addr} {od1 an1 : Option Addr} {sl1 : Array (Option Value)} {oc1 kV1 dc1 pm1 cd1 ct1 : Value}
    {f2 : Addr} {od2 an2 : Option Addr} {sl2 : Array (Option Value)} {oc2 kV2 dc2 pm2 cd2 ct2 : Value}
    {f3 : Addr} {od3 an3 : Option Addr} {sl3 : Array (Option Value)} {oc3 kV3 dc3 pm3 cd3 ct3 : Value}
    {f4 : Addr} {od4 an4 : Option Addr} {sl4 : Array (Option Value)} {oc4 kV4 dc4 pm4 cd4 ct4 : Value}
    {f5 : Addr} {od5 an5 : Option Addr} {sl5 : Array (Option Value)} {oc5 kV5 dc5 pm5 cd5 ct5 : Value}
    {f6 : Addr} {od6 an6 : Option Addr} {sl6 : Array (Option Value)} {oc6 kV6 dc6 pm6 cd6 ct6 : Value}
    {f7 : Addr} {od7 an7 : Option Addr} {sl7 : Array (Option Value)} {oc7 kV7 dc7 pm7 cd7 ct7 : Value}
    {f8 : Addr} {od8 an8 : Option Addr} {sl8 : Array (Option Value)} {oc8 kV8 dc8 pm8 cd8 ct8 : Value}
    {f9 : Addr} {od9 an9 : Option Addr} {sl9 : Array (Option Value)} {oc9 kV9 dc9 pm9 cd9 ct9 : Value}
    {f10 : Addr} {od10 an10 : Option Addr} {sl10 : Array (Option Value)} {oc10 kV10 dc10 pm10 cd10 ct10 : Value}
    {f11 : Addr} {od11 an11 : Option Addr} {sl11 : Array (Option Value)} {oc11 kV11 dc11 pm11 cd11 ct11 : Value}
    {f12 : Addr} {od12 an12 : Option Addr} {sl12 : Array (Option Value)} {oc12 kV12 dc12 pm12 cd12 ct12 : Value}
    {f13 : Addr} {od13 an13 : Option Addr} {sl13 : Array (Option Value)} {oc13 kV13 dc13 pm13 cd13 ct13 : Value}
    {f14 : Addr} {od14 an14 : Option Addr} {sl14 : Array (Option Value)} {oc14 kV14 dc14 pm14 cd14 ct14 : Value}
    {f15 : Addr} {od15 an15 : Option Addr} {sl15 : Array (Option Value)} {oc15 kV15 dc15 pm15 cd15 ct15 : Value}
    {f16 : Addr} {od16 an16 : Option Addr} {sl16 : Array (Option Value)} {oc16 kV16 dc16 pm16 cd16 ct16 : Value}
    {f17 : Addr} {od17 an17 : Option Addr} {sl17 : Array (Option Value)} {oc17 kV17 dc17 pm17 cd17 ct17 : Value}
    {f18 : Addr} {od18 an18 : Option Addr} {sl18 : Array (Option Value)} {oc18 kV18 dc18 pm18 cd18 ct18 : Value}
    {f19 : Addr} {od19 an19 : Option Addr} {sl19 : Array (Option Value)} {oc19 kV19 dc19 pm19 cd19 ct19 : Value}
    {f20 : Addr} {od20 an20 : Option Addr} {sl20 : Array (Option Value)} {oc20 kV20 dc20 pm20 cd20 ct20 : Value}
    {f21 : Addr} {od21 an21 : Option Addr} {sl21 : Array (Option Value)} {oc21 kV21 dc21 pm21 cd21 ct21 : Value}
    {f22 : Addr} {od22 an22 : Option Addr} {sl22 : Array (Option Value)} {oc22 kV22 dc22 pm22 cd22 ct22 : Value}
    {f23 : Addr} {od23 an23 : Option Addr} {sl23 : Array (Option Value)} {oc23 kV23 dc23 pm23 cd23 ct23 : Value}
    {tk0 : Tok}
    {tk1 : Tok}
    {tk2 : Tok}
    {C_FewError : Addr}
    {C_NoName : Addr}
    {C_NoText : Addr}
    {C_TooBig : Addr}
    {C_Twice : Addr}
    (a0 : PySem.W.nsIn K mainGlobals "is_name" = some (some (.ref f0))) (l0 : K.lookup f0 = some ⟨oc0, od0, .func (PySem.W.fnOf "is_name" "is_name" (defArgs s_is_name) (defBody s_is_name) (defScope s_is_name) .none kV0 dc0 pm0 an0 cd0 ct0), sl0⟩) (c0 : PySem.W.codeIn K cd0 "is_name" = true) (k0 : PySem.W.keepIn K (.ref f0) = true)
    (a1 : PySem.W.nsIn K mainGlobals "is_leaf" = some (some (.ref f1))) (l1 : K.lookup f1 = some ⟨oc1, od1, .func (PySem.W.fnOf "is_leaf" "is_leaf" (defArgs s_is_leaf) (defBody s_is_leaf) (defScope s_is_leaf) .none kV1 dc1 pm1 an1 cd1 ct1), sl1⟩) (c1 : PySem.W.codeIn K cd1 "is_leaf" = true) (k1 : PySem.W.keepIn K (.ref f1) = true)
    (a2 : PySem.W.nsIn K mainGlobals "places" = some (some (.ref f2))) (l2 : K.lookup f2 = some ⟨oc2, od2, .func (PySem.W.fnOf "places" "places" (defArgs s_places) (defBody s_places) (defScope s_places) .none kV2 dc2 pm2 an2 cd2 ct2), sl2⟩) (c2 : PySem.W.codeIn K cd2 "places" = true) (k2 : PySem.W.keepIn K (.ref f2) = true)
    (a3 : PySem.W.nsIn K mainGlobals "leaves" = some (some (.ref f3))) (l3 : K.lookup f3 = some ⟨oc3, od3, .func (PySem.W.fnOf "leaves" "leaves" (defArgs s_leaves) (defBody s_leaves) (defScope s_leaves) .none kV3 dc3 pm3 an3 cd3 ct3), sl3⟩) (c3 : PySem.W.codeIn K cd3 "leaves" = true) (k3 : PySem.W.keepIn K (.ref f3) = true)
    (a4 : PySem.W.nsIn K mainGlobals "part_at" = some (some (.ref f4))) (l4 : K.lookup f4 = some ⟨oc4, od4, .func (PySem.W.fnOf "part_at" "part_at" (defArgs s_part_at) (defBody s_part_at) (defScope s_part_at) .none kV4 dc4 pm4 an4 cd4 ct4), sl4⟩) (c4 : PySem.W.codeIn K cd4 "part_at" = true) (k4 : PySem.W.keepIn K (.ref f4) = true)
    (a5 : PySem.W.nsIn K mainGlobals "deeper_than" = some (some (.ref f5))) (l5 : K.lookup f5 = some ⟨oc5, od5, .func (PySem.W.fnOf "deeper_than" "deeper_than" (defArgs s_deeper_than) (defBody s_deeper_than) (defScope s_deeper_than) .none kV5 dc5 pm5 an5 cd5 ct5), sl5⟩) (c5 : PySem.W.codeIn K cd5 "deeper_than" = true) (k5 : PySem.W.keepIn K (.ref f5) = true)
    (a6 : PySem.W.nsIn K mainGlobals "check_size" = some (some (.ref f6))) (l6 : K.lookup f6 = some ⟨oc6, od6, .func (PySem.W.fnOf "check_size" "check_size" (defArgs s_check_size) (defBody s_check_size) (defScope s_check_size) .none kV6 dc6 pm6 an6 cd6 ct6), sl6⟩) (c6 : PySem.W.codeIn K cd6 "check_size" = true) (k6 : PySem.W.keepIn K (.ref f6) = true)
    (a7 : PySem.W.nsIn K mainGlobals "check_names" = some (some (.ref f7))) (l7 : K.lookup f7 = some ⟨oc7, od7, .func (PySem.W.fnOf "check_names" "check_names" (defArgs s_check_names) (defBody s_check_names) (defScope s_check_names) .none kV7 dc7 pm7 an7 cd7 ct7), sl7⟩) (c7 : PySem.W.codeIn K cd7 "check_names" = true) (k7 : PySem.W.keepIn K (.ref f7) = true)
    (a8 : PySem.W.nsIn K mainGlobals "formula" = some (some (.ref f8))) (l8 : K.lookup f8 = some ⟨oc8, od8, .func (PySem.W.fnOf "formula" "formula" (defArgs s_formula) (defBody s_formula) (defScope s_formula) .none kV8 dc8 pm8 an8 cd8 ct8), sl8⟩) (c8 : PySem.W.codeIn K cd8 "formula" = true) (k8 : PySem.W.keepIn K (.ref f8) = true)
    (a9 : PySem.W.nsIn K mainGlobals "name_end" = some (some (.ref f9))) (l9 : K.lookup f9 = some ⟨oc9, od9, .func (PySem.W.fnOf "name_end" "name_end" (defArgs s_name_end) (defBody s_name_end) (defScope s_name_end) .none kV9 dc9 pm9 an9 cd9 ct9), sl9⟩) (c9 : PySem.W.codeIn K cd9 "name_end" = true) (k9 : PySem.W.keepIn K (.ref f9) = true)
    (a10 : PySem.W.nsIn K mainGlobals "past" = some (some (.ref f10))) (l10 : K.lookup f10 = some ⟨oc10, od10, .func (PySem.W.fnOf "past" "past" (defArgs s_past) (defBody s_past) (defScope s_past) .none kV10 dc10 pm10 an10 cd10 ct10), sl10⟩) (c10 : PySem.W.codeIn K cd10 "past" = true) (k10 : PySem.W.keepIn K (.ref f10) = true)
    (a11 : PySem.W.nsIn K mainGlobals "tree_from" = some (some (.ref f11))) (l11 : K.lookup f11 = some ⟨oc11, od11, .func (PySem.W.fnOf "tree_from" "tree_from" (defArgs s_tree_from) (defBody s_tree_from) (defScope s_tree_from) .none kV11 dc11 pm11 an11 cd11 ct11), sl11⟩) (c11 : PySem.W.codeIn K cd11 "tree_from" = true) (k11 : PySem.W.keepIn K (.ref f11) = true)
    (a12 : PySem.W.nsIn K mainGlobals "read" = some (some (.ref f12))) (l12 : K.lookup f12 = some ⟨oc12, od12, .func (PySem.W.fnOf "read" "read" (defArgs s_read) (defBody s_read) (defScope s_read) .none kV12 dc12 pm12 an12 cd12 ct12), sl12⟩) (c12 : PySem.W.codeIn K cd12 "read" = true) (k12 : PySem.W.keepIn K (.ref f12) = true)
    (a13 : PySem.W.nsIn K mainGlobals "_law_at" = some (some (.ref f13))) (l13 : K.lookup f13 = some ⟨oc13, od13, .func (PySem.W.fnOf "_law_at" "_law_at" (defArgs s__law_at) (defBody s__law_at) (defScope s__law_at) .none kV13 dc13 pm13 an13 cd13 ct13), sl13⟩) (c13 : PySem.W.codeIn K cd13 "_law_at" = true) (k13 : PySem.W.keepIn K (.ref f13) = true)
    (a14 : PySem.W.nsIn K mainGlobals "_law_names" = some (some (.ref f14))) (l14 : K.lookup f14 = some ⟨oc14, od14, .func (PySem.W.fnOf "_law_names" "_law_names" (defArgs s__law_names) (defBody s__law_names) (defScope s__law_names) .none kV14 dc14 pm14 an14 cd14 ct14), sl14⟩) (c14 : PySem.W.codeIn K cd14 "_law_names" = true) (k14 : PySem.W.keepIn K (.ref f14) = true)
    (a15 : PySem.W.nsIn K mainGlobals "_law_many" = some (some (.ref f15))) (l15 : K.lookup f15 = some ⟨oc15, od15, .func (PySem.W.fnOf "_law_many" "_law_many" (defArgs s__law_many) (defBody s__law_many) (defScope s__law_many) .none kV15 dc15 pm15 an15 cd15 ct15), sl15⟩) (c15 : PySem.W.codeIn K cd15 "_law_many" = true) (k15 : PySem.W.keepIn K (.ref f15) = true)
    (a16 : PySem.W.nsIn K mainGlobals "_law_second" = some (some (.ref f16))) (l16 : K.lookup f16 = some ⟨oc16, od16, .func (PySem.W.fnOf "_law_second" "_law_second" (defArgs s__law_second) (defBody s__law_second) (defScope s__law_second) .none kV16 dc16 pm16 an16 cd16 ct16), sl16⟩) (c16 : PySem.W.codeIn K cd16 "_law_second" = true) (k16 : PySem.W.keepIn K (.ref f16) = true)
    (a17 : PySem.W.nsIn K mainGlobals "_law_tree" = some (some (.ref f17))) (l17 : K.lookup f17 = some ⟨oc17, od17, .func (PySem.W.fnOf "_law_tree" "_law_tree" (defArgs s__law_tree) (defBody s__law_tree) (defScope s__law_tree) .none kV17 dc17 pm17 an17 cd17 ct17), sl17⟩) (c17 : PySem.W.codeIn K cd17 "_law_tree" = true) (k17 : PySem.W.keepIn K (.ref f17) = true)
    (a18 : PySem.W.nsIn K mainGlobals "_law_text" = some (some (.ref f18))) (l18 : K.lookup f18 = some ⟨oc18, od18, .func (PySem.W.fnOf "_law_text" "_law_text" (defArgs s__law_text) (defBody s__law_text) (defScope s__law_text) .none kV18 dc18 pm18 an18 cd18 ct18), sl18⟩) (c18 : PySem.W.codeIn K cd18 "_law_text" = true) (k18 : PySem.W.keepIn K (.ref f18) = true)
    (a19 : PySem.W.nsIn K mainGlobals "_law_parts" = some (some (.ref f19))) (l19 : K.lookup f19 = some ⟨oc19, od19, .func (PySem.W.fnOf "_law_parts" "_law_parts" (defArgs s__law_parts) (defBody s__law_parts) (defScope s__law_parts) .none kV19 dc19 pm19 an19 cd19 ct19), sl19⟩) (c19 : PySem.W.codeIn K cd19 "_law_parts" = true) (k19 : PySem.W.keepIn K (.ref f19) = true)
    (a20 : PySem.W.nsIn K mainGlobals "_law_comb" = some (some (.ref f20))) (l20 : K.lookup f20 = some ⟨oc20, od20, .func (PySem.W.fnOf "_law_comb" "_law_comb" (defArgs s__law_comb) (defBody s__law_comb) (defScope s__law_comb) .none kV20 dc20 pm20 an20 cd20 ct20), sl20⟩) (c20 : PySem.W.codeIn K cd20 "_law_comb" = true) (k20 : PySem.W.keepIn K (.ref f20) = true)
    (a21 : PySem.W.nsIn K mainGlobals "_law_read" = some (some (.ref f21))) (l21 : K.lookup f21 = some ⟨oc21, od21, .func (PySem.W.fnOf "_law_read" "_law_read" (defArgs s__law_read) (defBody s__law_read) (defScope s__law_read) .none kV21 dc21 pm21 an21 cd21 ct21), sl21⟩) (c21 : PySem.W.codeIn K cd21 "_law_read" = true) (k21 : PySem.W.keepIn K (.ref f21) = true)
    (a22 : PySem.W.nsIn K mainGlobals "_law_good" = some (some (.ref f22))) (l22 : K.lookup f22 = some ⟨oc22, od22, .func (PySem.W.fnOf "_law_good" "_law_good" (defArgs s__law_good) (defBody s__law_good) (defScope s__law_good) .none kV22 dc22 pm22 an22 cd22 ct22), sl22⟩) (c22 : PySem.W.codeIn K cd22 "_law_good" = true) (k22 : PySem.W.keepIn K (.ref f22) = true)
    (a23 : PySem.W.nsIn K mainGlobals "law" = some (some (.ref f23))) (l23 : K.lookup f23 = some ⟨oc23, od23, .func (PySem.W.fnOf "law" "law" (defArgs s_law) (defBody s_law) (defScope s_law) .none kV23 dc23 pm23 an23 cd23 ct23), sl23⟩) (c23 : PySem.W.codeIn K cd23 "law" = true) (k23 : PySem.W.keepIn K (.ref f23) = true)
    (v0 : PySem.W.nsIn K mainGlobals "LONGEST_NAME" = some (some (.int 8 tk0)))
    (v1 : PySem.W.nsIn K mainGlobals "MOST_DEEP" = some (some (.int 24 tk1)))
    (v2 : PySem.W.nsIn K mainGlobals "MOST_LEAVES" = some (some (.int 32 tk2)))
    (z0 : PySem.W.nsIn K mainGlobals "ValueError" = some none)
    (z1 : PySem.W.nsIn K mainGlobals "all" = some none)
    (z2 : PySem.W.nsIn K mainGlobals "int" = some none)
    (z3 : PySem.W.nsIn K mainGlobals "isinstance" = some none)
    (z4 : PySem.W.nsIn K mainGlobals "len" = some none)
    (z5 : PySem.W.nsIn K mainGlobals "max" = some none)
    (z6 : PySem.W.nsIn K mainGlobals "range" = some none)
    (z7 : PySem.W.nsIn K mainGlobals "set" = some none)
    (ea_FewError : PySem.W.nsIn K mainGlobals "FewError" = some (some (.ref C_FewError)))
    (ex_FewError : PySem.W.excIn K C_FewError bmV "ValueError.__new__" = true)
    (ea_NoName : PySem.W.nsIn K mainGlobals "NoName" = some (some (.ref C_NoName)))
    (ex_NoName : PySem.W.excIn K C_NoName bmV "ValueError.__new__" = true)
    (ea_NoText : PySem.W.nsIn K mainGlobals "NoText" = some (some (.ref C_NoText)))
    (ex_NoText : PySem.W.excIn K C_NoText bmV "ValueError.__new__" = true)
    (ea_TooBig : PySem.W.nsIn K mainGlobals "TooBig" = some (some (.ref C_TooBig)))
    (ex_TooBig : PySem.W.excIn K C_TooBig bmV "ValueError.__new__" = true)
    (ea_Twice : PySem.W.nsIn K mainGlobals "Twice" = some (some (.ref C_Twice)))
    (ex_Twice : PySem.W.excIn K C_Twice bmV "ValueError.__new__" = true)
    (u_NoName_FewError : PySem.W.mroIn K C_NoName (.ref C_FewError) = some true)
    (u_NoText_FewError : PySem.W.mroIn K C_NoText (.ref C_FewError) = some true)
    (u_TooBig_FewError : PySem.W.mroIn K C_TooBig (.ref C_FewError) = some true)
    (u_Twice_FewError : PySem.W.mroIn K C_Twice (.ref C_FewError) = some true)
    (ga_NoName : PySem.W.findIn K (.ref C_NoName) "__getattribute__" = some (some (.builtin "BaseException.__getattribute__")))
    (gx_NoName : PySem.W.findIn K (.ref C_NoName) "__getattr__" = some none)
    (cl_NoName : PySem.W.findIn K (.ref C_NoName) "__class__" = some (some (.builtin "object.__class__")))
    (sp_NoName : PySem.W.specialIn K (.builtin "object.__class__") "__get__" = some (some (.builtin "getset_descriptor.__get__")))
    (tk_NoName : PySem.W.takesIn K (.builtin "object.__class__") = some true)
    (mr_NoName : PySem.W.mroIn K C_NoName (.type "object") = some true)
    (k_NoName_NoText : PySem.W.kitOne K (.ref C_NoName) (.ref C_NoText) = some false)
    (k_NoName_ValueError : PySem.W.kitOne K (.ref C_NoName) (.type "ValueError") = some true)
    (ga_NoText : PySem.W.findIn K (.ref C_NoText) "__getattribute__" = some (some (.builtin "BaseException.__getattribute__")))
    (gx_NoText : PySem.W.findIn K (.ref C_NoText) "__getattr__" = some none)
    (cl_NoText : PySem.W.findIn K (.ref C_NoText) "__class__" = some (some (.builtin "object.__class__")))
    (sp_NoText : PySem.W.specialIn K (.builtin "object.__class__") "__get__" = some (some (.builtin "getset_descriptor.__get__")))
    (tk_NoText : PySem.W.takesIn K (.builtin "object.__class__") = some true)
    (mr_NoText : PySem.W.mroIn K C_NoText (.type "object") = some true)
    (k_NoText_NoText : PySem.W.kitOne K (.ref C_NoText) (.ref C_NoText) = some true)
    (k_NoText_ValueError : PySem.W.kitOne K (.ref C_NoText) (.type "ValueError") = some true)
    (ga_TooBig : PySem.W.findIn K (.ref C_TooBig) "__getattribute__" = some (some (.builtin "BaseException.__getattribute__")))
    (gx_TooBig : PySem.W.findIn K (.ref C_TooBig) "__getattr__" = some none)
    (cl_TooBig : PySem.W.findIn K (.ref C_TooBig) "__class__" = some (some (.builtin "object.__class__")))
    (sp_TooBig : PySem.W.specialIn K (.builtin "object.__class__") "__get__" = some (some (.builtin "getset_descriptor.__get__")))
    (tk_TooBig : PySem.W.takesIn K (.builtin "object.__class__") = some true)
    (mr_TooBig : PySem.W.mroIn K C_TooBig (.type "object") = some true)
    (k_TooBig_NoText : PySem.W.kitOne K (.ref C_TooBig) (.ref C_NoText) = some false)
    (k_TooBig_ValueError : PySem.W.kitOne K (.ref C_TooBig) (.type "ValueError") = some true)
    (ga_Twice : PySem.W.findIn K (.ref C_Twice) "__getattribute__" = some (some (.builtin "BaseException.__getattribute__")))
    (gx_Twice : PySem.W.findIn K (.ref C_Twice) "__getattr__" = some none)
    (cl_Twice : PySem.W.findIn K (.ref C_Twice) "__class__" = some (some (.builtin "object.__class__")))
    (sp_Twice : PySem.W.specialIn K (.builtin "object.__class__") "__get__" = some (some (.builtin "getset_descriptor.__get__")))
    (tk_Twice : PySem.W.takesIn K (.builtin "object.__class__") = some true)
    (mr_Twice : PySem.W.mroIn K C_Twice (.type "object") = some true)
    (k_Twice_NoText : PySem.W.kitOne K (.ref C_Twice) (.ref C_NoText) = some false)
    (k_Twice_ValueError : PySem.W.kitOne K (.ref C_Twice) (.type "ValueError") = some true) (hfa : mg "law" = some (.ref fa)) :
    ∃ fd : FuncData, (∀ (s : Shared) (v : Value), BindsTo s fd ⟨[v], []⟩ [("script", v)]) ∧ ∀ base : Heap, K.In base → base.Ns mainGlobals mg → FnOk l.prog w K mg base CX0 60 fa fd ["script"] (spLaw K) := by
  obtain ⟨T, e, b⟩ := txt_mk X G a0 l0 c0 k0 a1 l1 c1 k1 a2 l2 c2 k2 a3 l3 c3 k3 a4 l4 c4 k4 a5 l5 c5 k5 a6 l6 c6 k6 a7 l7 c7 k7 a8 l8 c8 k8 a9 l9 c9 k9 a10 l10 c10 k10 a11 l11 c11 k11 a12 l12 c12 k12 a13 l13 c13 k13 a14 l14 c14 k14 a15 l15 c15 k15 a16 l16 c16 k16 a17 l17 c17 k17 a18 l18 c18 k18 a19 l19 c19 k19 a20 l20 c20 k20 a21 l21 c21 k21 a22 l22 c22 k22 a23 l23 c23 k23 v0 v1 v2 z0 z1 z2 z3 z4 z5 z6 z7 ea_FewError ex_FewError ea_NoName ex_NoName ea_NoText ex_NoText ea_TooBig ex_TooBig ea_Twice ex_Twice u_NoName_FewError u_NoText_FewError u_TooBig_FewError u_Twice_FewError ga_NoName gx_NoName cl_NoName sp_NoName tk_NoName mr_NoName k_NoName_NoText k_NoName_ValueError ga_NoText gx_NoText cl_NoText sp_NoText tk_NoText mr_NoText k_NoText_NoText k_NoText_ValueError ga_TooBig gx_TooBig cl_TooBig sp_TooBig tk_TooBig mr_TooBig k_TooBig_NoText k_TooBig_ValueError ga_Twice gx_Twice cl_Twice sp_Twice tk_Twice mr_Twice k_Twice_NoText k_Twice_ValueError
  have e2 := hfa.symm.trans T.m_law
  cases e2
  exact ⟨T.d_law, b, fun base _ _ => ok_law T⟩
theorem walk {l : PySem.W.OpenLaw} {q : Program} {loose : List Str} {XP : (Str → Option Value) → Heap → Prop} {YP : World → Heap → Prop} {d : DefRec} {K : Params → PySem.W.Frag} (hn : l.most = some 63) (hdf : d.params.defaults = [])
    (hY : ∀ (w : World) (h : Heap), YP w h → (K w.params).In h)
    (F : ∀ (w : World) (mg : Str → Option Value) (fa : Addr) (h : Heap), (K w.params).In h → h.Ns mainGlobals mg → mg d.name = some (.ref fa) →
      ∃ fd : FuncData, (∀ (s : Shared) (u : Value), BindsTo s fd ⟨[u], []⟩ [("script", u)]) ∧ ∀ base : Heap, (K w.params).In base → base.Ns mainGlobals mg → FnOk l.prog w (K w.params) mg base CX0 60 fa fd ["script"] (spLaw (K w.params))) :
    PySem.W.WalkO q loose XP YP l.row.toRowW d [] (fun f vs => PySem.call f vs) :=
  L2.walk_of (n := 63) (k := 60) (x := "script") (CX := fun w => CX0) (sp := fun w => spLaw (K w.params)) hn (by decide) hdf ⟨rfl, by decide, by decide, rfl⟩ hY F (fun _ _ a ns hl _ hS => ⟨a, ns, rfl, hS, hl, fun _ => rfl⟩) fun _ _ _ _ _ z => z
end K05
open PySem PySem.W PyProof.Rows
set_option maxRecDepth 100000 in
set_option maxHeartbeats 0 in
theorem PySem.Challenge.cw_fewboxes_k05_no_formulas_text_holds : PySem.Challenge.rw_fewboxes_k05_no_formulas_text.Holds := by
  w_on; o_law; k_head; (case hw => w_witness2)
  k_fill
  refine K05.walk (l := PySem.Challenge.rw_fewboxes_k05_no_formulas_text) rfl rfl (fun w h Y => PySem.W.kIn_of Y) ?F
  case F =>
    intro w mg fa h KX G hmg
    refine' K05.all_mk KX G ?a0 ?l0 ?c0 ?k0 ?a1 ?l1 ?c1 ?k1 ?a2 ?l2 ?c2 ?k2 ?a3 ?l3 ?c3 ?k3 ?a4 ?l4 ?c4 ?k4 ?a5 ?l5 ?c5 ?k5 ?a6 ?l6 ?c6 ?k6 ?a7 ?l7 ?c7 ?k7 ?a8 ?l8 ?c8 ?k8 ?a9 ?l9 ?c9 ?k9 ?a10 ?l10 ?c10 ?k10 ?a11 ?l11 ?c11 ?k11 ?a12 ?l12 ?c12 ?k12 ?a13 ?l13 ?c13 ?k13 ?a14 ?l14 ?c14 ?k14 ?a15 ?l15 ?c15 ?k15 ?a16 ?l16 ?c16 ?k16 ?a17 ?l17 ?c17 ?k17 ?a18 ?l18 ?c18 ?k18 ?a19 ?l19 ?c19 ?k19 ?a20 ?l20 ?c20 ?k20 ?a21 ?l21 ?c21 ?k21 ?a22 ?l22 ?c22 ?k22 ?a23 ?l23 ?c23 ?k23 ?v0 ?v1 ?v2 ?z0 ?z1 ?z2 ?z3 ?z4 ?z5 ?z6 ?z7 ?ea_FewError ?ex_FewError ?ea_NoName ?ex_NoName ?ea_NoText ?ex_NoText ?ea_TooBig ?ex_TooBig ?ea_Twice ?ex_Twice ?u_NoName_FewError ?u_NoText_FewError ?u_TooBig_FewError ?u_Twice_FewError ?ga_NoName ?gx_NoName ?cl_NoName ?sp_NoName ?tk_NoName ?mr_NoName ?k_NoName_NoText ?k_NoName_ValueError ?ga_NoText ?gx_NoText ?cl_NoText ?sp_NoText ?tk_NoText ?mr_NoText ?k_NoText_NoText ?k_NoText_ValueError ?ga_TooBig ?gx_TooBig ?cl_TooBig ?sp_TooBig ?tk_TooBig ?mr_TooBig ?k_TooBig_NoText ?k_TooBig_ValueError ?ga_Twice ?gx_Twice ?cl_Twice ?sp_Twice ?tk_Twice ?mr_Twice ?k_Twice_NoText ?k_Twice_ValueError hmg
    (case a0 => k_is)
    (case l0 => k_is)
    (case c0 => k_is)
    (case k0 => k_is)
    (case a1 => k_is)
    (case l1 => k_is)
    (case c1 => k_is)
    (case k1 => k_is)
    (case a2 => k_is)
    (case l2 => k_is)
    (case c2 => k_is)
    (case k2 => k_is)
    (case a3 => k_is)
    (case l3 => k_is)
    (case c3 => k_is)
    (case k3 => k_is)
    (case a4 => k_is)
    (case l4 => k_is)
    (case c4 => k_is)
    (case k4 => k_is)
    (case a5 => k_is)
    (case l5 => k_is)
    (case c5 => k_is)
    (case k5 => k_is)
    (case a6 => k_is)
    (case l6 => k_is)
    (case c6 => k_is)
    (case k6 => k_is)
    (case a7 => k_is)
    (case l7 => k_is)
    (case c7 => k_is)
    (case k7 => k_is)
    (case a8 => k_is)
    (case l8 => k_is)
    (case c8 => k_is)
    (case k8 => k_is)
    (case a9 => k_is)
    (case l9 => k_is)
    (case c9 => k_is)
    (case k9 => k_is)
    (case a10 => k_is)
    (case l10 => k_is)
    (case c10 => k_is)
    (case k10 => k_is)
    (case a11 => k_is)
    (case l11 => k_is)
    (case c11 => k_is)
    (case k11 => k_is)
    (case a12 => k_is)
    (case l12 => k_is)
    (case c12 => k_is)
    (case k12 => k_is)
    (case a13 => k_is)
    (case l13 => k_is)
    (case c13 => k_is)
    (case k13 => k_is)
    (case a14 => k_is)
    (case l14 => k_is)
    (case c14 => k_is)
    (case k14 => k_is)
    (case a15 => k_is)
    (case l15 => k_is)
    (case c15 => k_is)
    (case k15 => k_is)
    (case a16 => k_is)
    (case l16 => k_is)
    (case c16 => k_is)
    (case k16 => k_is)
    (case a17 => k_is)
    (case l17 => k_is)
    (case c17 => k_is)
    (case k17 => k_is)
    (case a18 => k_is)
    (case l18 => k_is)
    (case c18 => k_is)
    (case k18 => k_is)
    (case a19 => k_is)
    (case l19 => k_is)
    (case c19 => k_is)
    (case k19 => k_is)
    (case a20 => k_is)
    (case l20 => k_is)
    (case c20 => k_is)
    (case k20 => k_is)
    (case a21 => k_is)
    (case l21 => k_is)
    (case c21 => k_is)
    (case k21 => k_is)
    (case a22 => k_is)
    (case l22 => k_is)
    (case c22 => k_is)
    (case k22 => k_is)
    (case a23 => k_is)
    (case l23 => k_is)
    (case c23 => k_is)
    (case k23 => k_is)
    (case v0 => k_is)
    (case v1 => k_is)
    (case v2 => k_is)
    (case z0 => k_is)
    (case z1 => k_is)
    (case z2 => k_is)
    (case z3 => k_is)
    (case z4 => k_is)
    (case z5 => k_is)
    (case z6 => k_is)
    (case z7 => k_is)
    (case ea_FewError => k_is)
    (case ex_FewError => k_exc)
    (case ea_NoName => k_is)
    (case ex_NoName => k_exc)
    (case ea_NoText => k_is)
    (case ex_NoText => k_exc)
    (case ea_TooBig => k_is)
    (case ex_TooBig => k_exc)
    (case ea_Twice => k_is)
    (case ex_Twice => k_exc)
    (case u_NoName_FewError => k_is)
    (case u_NoText_FewError => k_is)
    (case u_TooBig_FewError => k_is)
    (case u_Twice_FewError => k_is)
    (case ga_NoName => k_is)
    (case gx_NoName => k_is)
    (case cl_NoName => k_is)
    (case sp_NoName => k_is)
    (case tk_NoName => k_is)
    (case mr_NoName => k_is)
    (case k_NoName_NoText => kit_is)
    (case k_NoName_ValueError => kit_is)
    (case ga_NoText => k_is)
    (case gx_NoText => k_is)
    (case cl_NoText => k_is)
    (case sp_NoText => k_is)
    (case tk_NoText => k_is)
    (case mr_NoText => k_is)
    (case k_NoText_NoText => kit_is)
    (case k_NoText_ValueError => kit_is)
    (case ga_TooBig => k_is)
    (case gx_TooBig => k_is)
    (case cl_TooBig => k_is)
    (case sp_TooBig => k_is)
    (case tk_TooBig => k_is)
    (case mr_TooBig => k_is)
    (case k_TooBig_NoText => kit_is)
    (case k_TooBig_ValueError => kit_is)
    (case ga_Twice => k_is)
    (case gx_Twice => k_is)
    (case cl_Twice => k_is)
    (case sp_Twice => k_is)
    (case tk_Twice => k_is)
    (case mr_Twice => k_is)
    (case k_Twice_NoText => kit_is)
    (case k_Twice_ValueError => kit_is)
#print axioms PySem.Challenge.cw_fewboxes_k05_no_formulas_text_holds
