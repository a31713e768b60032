import PyProof.Rows.All
import Wide.All
import OpenK.AllK
import Wide.FinOn
import Lean
import PyProof.EqAt
import PyProof.EqKinds
import PyProof.NeKinds
import PyProof.TupleCall
import PyProof.WalksEnum
import PyProof.EnumStmt
import PyProof.ZipIter
import PyProof.Draws
import PyProof.EnumMake
import PyProof.WalksMore
import KE.KIntText
import PyProof.CallStr
import PyProof.StrCalls2
import PyProof.StrLawsTight
import PyProof.Rows.StrItems
import KE.KTryOn
import PySem.Challenge.RW_fewboxes_k62_no_rows_text
set_option Elab.async false
set_option linter.all false
set_option maxRecDepth 100000
/-! THE HAND LAYER, for ints, bools, texts, own classes, LISTS and tuples (index, slices, in, append, pop ..), calls, loops. Paste it whole ahead of your own text; what your proof does not reach may be deleted. -/
namespace L2
open PySem PySem.Spec PyProof.Rows

/-- a key: an int or a str -/
noncomputable abbrev Key := Sum Int Str
noncomputable def keyIs : Key → Value → Bool
  | .inl k, v => Value.isInt k v
  | .inr x, v => Value.isStrOf x v
noncomputable def keyH (w : World) : Key → Int
  | .inl k => hashInt k
  | .inr x => hashStr w x
theorem keyIs_shape : ∀ {k : Key} {v : Value}, keyIs k v = true → (∃ i t, k = Sum.inl i ∧ v = Value.int i t) ∨ (∃ x t, k = Sum.inr x ∧ v = Value.str x t)
  | .inl i, v, h => by
    obtain ⟨t, e⟩ := Value.isInt_shape (k := i) (v := v) h
    exact .inl ⟨i, t, rfl, e⟩
  | .inr x, v, h => by
    obtain ⟨t, e⟩ := Value.isStrOf_shape (x := x) (v := v) h
    exact .inr ⟨x, t, rfl, e⟩
theorem keyIs_int (i : Int) (t : Tok) : keyIs (.inl i) (.int i t) = true := by simp [keyIs, Value.isInt]
theorem keyIs_str (x : Str) (t : Tok) : keyIs (.inr x) (.str x t) = true := by simp [keyIs, Value.isStrOf]
theorem key_ll (a b : Int) : decide ((Sum.inl a : Key) = Sum.inl b) = (a == b) := by
  by_cases e : a = b
  · subst e; simp
  · have h : ¬ (Sum.inl a : Key) = Sum.inl b := fun q => e (Sum.inl.inj q)
    rw [decide_eq_false h]
    exact (beq_eq_false_iff_ne.mpr e).symm
theorem key_rr (a b : Str) : decide ((Sum.inr a : Key) = Sum.inr b) = decide (a = b) := by
  by_cases e : a = b
  · subst e; simp
  · have h : ¬ (Sum.inr a : Key) = Sum.inr b := fun q => e (Sum.inr.inj q)
    rw [decide_eq_false h, decide_eq_false e]
theorem key_lr (a : Int) (b : Str) : decide ((Sum.inl a : Key) = Sum.inr b) = false := decide_eq_false (fun q => nomatch q)
theorem key_rl (a : Str) (b : Int) : decide ((Sum.inr a : Key) = Sum.inl b) = false := decide_eq_false (fun q => nomatch q)

noncomputable def mixKind (prog : Program) (w : World) : PySem.KeyKind prog w Key where
  is := keyIs
  hash := keyH w
  inj := fun v a b ha hb => by
    rcases keyIs_shape ha with ⟨i, t, rfl, rfl⟩ | ⟨x, t, rfl, rfl⟩
    · rcases keyIs_shape hb with ⟨j, u, rfl, e⟩ | ⟨y, u, rfl, e⟩
      · injection e with e1 _; rw [e1]
      · exact nomatch e
    · rcases keyIs_shape hb with ⟨j, u, rfl, e⟩ | ⟨y, u, rfl, e⟩
      · exact nomatch e
      · injection e with e1 _; rw [e1]
  byValue := fun k v h => by
    rcases keyIs_shape h with ⟨i, t, rfl, rfl⟩ | ⟨x, t, rfl, rfl⟩ <;> rfl
  pyHash := fun hv h => by
    rcases keyIs_shape hv with ⟨i, t, rfl, rfl⟩ | ⟨x, t, rfl, rfl⟩
    · exact wpAny_pyHash_int h
    · exact wpAny_pyHash_str h
  eqBool := fun hu hv h => by
    rcases keyIs_shape hu with ⟨i, t, rfl, rfl⟩ | ⟨x, t, rfl, rfl⟩
    · rcases keyIs_shape hv with ⟨j, u, rfl, rfl⟩ | ⟨y, u, rfl, rfl⟩
      · rw [key_ll] at h; exact wpAny_eqBool_int h
      · rw [key_lr] at h; exact SeqAt.EqAt.int_str i t y u _ _ _ _ h
    · rcases keyIs_shape hv with ⟨j, u, rfl, rfl⟩ | ⟨y, u, rfl, rfl⟩
      · rw [key_rl] at h; exact SeqAt.EqAt.str_int x t j u _ _ _ _ h
      · rw [key_rr] at h; exact wpAny_eqBool_str h
  «strs» := fun k x t v h => by
    rcases keyIs_shape h with ⟨i, u, rfl, e⟩ | ⟨y, u, rfl, e⟩
    · exact nomatch e
    · injection e with e1 _
      subst e1
      cases v <;> rfl

theorem mixKind_int (prog : Program) (w : World) (i : Int) (t : Tok) : (mixKind prog w).is (.inl i) (.int i t) = true := keyIs_int i t
theorem mixKind_str (prog : Program) (w : World) (x : Str) (t : Tok) : (mixKind prog w).is (.inr x) (.str x t) = true := keyIs_str x t
end L2

namespace L2
open PySem PySem.Spec PyProof.Rows

/-- a value, without the heap -/
inductive V where
  | non | bl (b : Bool) | int (i : Int) | str (x : Str) | byt (b : Array UInt8) | flt (b : UInt64) | ref (a : Addr) | ty (n : String)
  deriving DecidableEq

noncomputable def RelV : V → Value → Prop
  | .non, u => u = Value.none
  | .bl b, u => u = Value.bool b
  | .int i, u => ∃ t, u = Value.int i t
  | .str x, u => ∃ t, u = Value.str x t
  | .byt b, u => ∃ t, u = Value.bytes b t
  | .flt b, u => ∃ t, u = Value.float b t
  | .ref a, u => u = Value.ref a
  | .ty n, u => u = Value.type n

noncomputable abbrev Vals : List V → List Value → Prop := Paired RelV
theorem Vals.length {xs : List V} {us : List Value} (r : Vals xs us) : xs.length = us.length := Paired.length r
theorem Vals.get : ∀ {xs : List V} {us : List Value} {i : Nat} {x : V}, Vals xs us → xs[i]? = some x → ∃ u, us[i]? = some u ∧ RelV x u
  | _, _, _, _, .nil, e => by simp at e
  | _, _, 0, _, .cons r _, e => by simp at e; subst e; exact ⟨_, rfl, r⟩
  | _, _, i + 1, x, .cons _ t, e => by
    obtain ⟨u, h1, h2⟩ := Vals.get (i := i) (x := x) t (by simpa using e)
    exact ⟨u, by simpa using h1, h2⟩
theorem Vals.set {x : V} {u : Value} (r : RelV x u) : ∀ {xs : List V} {us : List Value} (i : Nat), Vals xs us → Vals (xs.set i x) (us.set i u)
  | _, _, _, .nil => .nil
  | _, _, 0, .cons _ t => .cons r t
  | _, _, i + 1, .cons q t => .cons q (Vals.set r i t)
theorem Vals.append : ∀ {xs ys : List V} {us ws : List Value}, Vals xs us → Vals ys ws → Vals (xs ++ ys) (us ++ ws)
  | _, _, _, _, .nil, s => s
  | _, _, _, _, .cons r t, s => .cons r (Vals.append t s)
theorem Vals.take : ∀ {xs : List V} {us : List Value} (n : Nat), Vals xs us → Vals (xs.take n) (us.take n)
  | _, _, 0, _ => .nil
  | _, _, _ + 1, .nil => .nil
  | _, _, n + 1, .cons r t => .cons r (Vals.take n t)
theorem Vals.drop : ∀ {xs : List V} {us : List Value} (n : Nat), Vals xs us → Vals (xs.drop n) (us.drop n)
  | _, _, 0, r => r
  | _, _, _ + 1, .nil => .nil
  | _, _, n + 1, .cons _ t => Vals.drop n t

noncomputable def RelO : Option V → Option Value → Prop
  | some v, some u => RelV v u
  | none, none => True
  | _, _ => False
noncomputable def KV {κ : Type} : List (κ × V) → List (κ × Value) → Prop := Paired fun (p : κ × V) (q : κ × Value) => p.1 = q.1 ∧ RelV p.2 q.2

/-- a key of a dict (00_mix): an int or a text -/
noncomputable def kV : Key → V
  | .inl i => .int i
  | .inr x => .str x

/-- what stands at a tracked address -/
inductive HO where
  /-- a list -/
  | lst (xs : List V)
  /-- a tuple (never changes) -/
  | tup (xs : List V)
  /-- a dict whose keys are ints and texts; one whose keys are tuples of ints and texts (the empty one is both) -/
  | dK (kvs : List (Key × V)) | dT (kvs : List (List Key × V))
  /-- a set of ints: its members, its size -/
  | set (S : Int → Bool) (n : Nat)
  /-- an instance of the class at C, its dict at dx, its attributes -/
  | ins (C dx : Addr) (fs : List (Str × V))
  /-- the dict of the instance at x -/
  | own (x : Addr)
  /-- the dict of an exception -/
  | xd (fs : List (Str × V))
  /-- a bound method, f of x -/
  | met (f x : Addr)
  /-- a range object lo, lo + 1, .. below hi -/
  | rng (lo hi : Int)
  /-- a thing that is known to the object (the script; a dict while a loop walks it): read, never written while it is so -/
  | frz (o : Obj) (u : HO)
  /-- a code object's table -/
  | tbl (ps : Array Value)
  /-- any other thing, by what is true of its one object (a def of one's own: SetO a S n := HO.ext fun h => ..) -/
  | ext (φ : Heap → Prop)

noncomputable abbrev Hp := Addr → Option HO
noncomputable def upd (H : Hp) (a : Addr) (o : HO) : Hp := fun b => if b = a then some o else H b
theorem upd_same {H : Hp} {a : Addr} {o : HO} : upd H a o a = some o := by unfold upd; rw [if_pos rfl]
theorem upd_ne {H : Hp} {a b : Addr} {o : HO} (h : b ≠ a) : upd H a o b = H b := by unfold upd; rw [if_neg h]
/-- two objects of different content stand apart -/
theorem ne_of {H : Hp} {a b : Addr} {o u : HO} (h : H a = some o) (h' : H b = some u) (d : o ≠ u) : a ≠ b := by
  intro e; subst e; rw [h] at h'; exact d (Option.some.inj h')
theorem ne_of_none {H : Hp} {a b : Addr} {o : HO} (h : H a = some o) (h' : H b = none) : a ≠ b := by
  intro e; subst e; rw [h] at h'; cases h'

section
variable (P : Program) (w : World)
noncomputable def ObjOk (H : Hp) (h : Heap) (a : Addr) : HO → Prop
  | .lst xs => xs.length ≤ sizeLine ∧ ∃ (its : List Value) (n : Nat), Vals xs its ∧ h.get? a = some { cls := .type "list", data := .seq its.toArray n }
  | .tup xs => xs.length ≤ sizeLine ∧ ∃ its : List Value, Vals xs its ∧ IsTup h a its.toArray
  | .dK kvs => kvs.length ≤ sizeLine ∧ (a == sysModules) = false ∧ ∃ vs, KV kvs vs ∧ h.DictOf (mixKind P w) a vs
  | .dT kvs => kvs.length ≤ sizeLine ∧ (a == sysModules) = false ∧ ∃ xs : List (List Key × Addr × Value),
      Paired (fun (p : List Key × V) (q : List Key × Addr × Value) => p.1 = q.1 ∧ H q.2.1 = some (.tup (p.1.map kV)) ∧ RelV p.2 q.2.2) kvs xs ∧
      ∃ o es ep, h.get? a = some o ∧ o.ExactDict ∧ o.data = .dict es ep ∧ es.toList = xs.map (entryOfKey (tupleKind (mixKind P w))) ∧ (xs.map (·.1)).Nodup
  | .set S n => h.SetOf (intKind P w) a S n
  | .ins C dx fs => H dx = some (.own a) ∧ fs.length ≤ 1000 ∧ dx ≠ a ∧ h.get? a = some (PySem.W.instObj C dx) ∧
      ∃ mA, h.Ns1 dx mA ∧ (∀ f, RelO (fs.lookup f) (mA f)) ∧ PySem.Within mA (fs.map (·.1))
  | .own _ => ∃ o, h.get? a = some o
  | .xd fs => ∃ mA, h.Ns1 a mA ∧ ∀ f, RelO (fs.lookup f) (mA f)
  | .rng lo hi => ∃ t u v, h.get? a = some { cls := .type "range", data := .fields #[.int lo t, .int hi u, .int 1 v] }
  | .frz o u => h.get? a = some o ∧ ObjOk H h a u
  | .tbl ps => h.get? a = some { cls := .none, data := .fields ps }
  | .met f x => h.get? a = some (PySem.W.methodObj (.ref f) (.ref x))
  | .ext φ => φ h ∧ (∃ o, h.get? a = some o) ∧ ∀ h1 h2 : Heap, φ h1 → (∀ o, h1.get? a = some o → h2.get? a = some o) → φ h2
/-- the abstract heap is held -/
noncomputable def HOk (H : Hp) (h : Heap) : Prop := ∀ a o, H a = some o → ObjOk P w H h a o
end

section
variable {P : Program} {w : World} {H H' : Hp} {h h' : Heap} {a : Addr} {o : HO}
theorem ObjOk.lt (x : ObjOk P w H h a o) : a < h.objs.size := by
  cases o with
  | lst xs => obtain ⟨_, _, _, _, e⟩ := x; exact Heap.lt_size e
  | tup xs => obtain ⟨_, _, _, p⟩ := x; exact p.lt
  | dK kvs => obtain ⟨_, _, _, _, o, _, _, e, _⟩ := x; exact Heap.lt_size e
  | dT kvs => obtain ⟨_, _, _, _, o, _, _, e, _⟩ := x; exact Heap.lt_size e
  | set S n => obtain ⟨o, _, _, _, e, _⟩ := x; exact Heap.lt_size e
  | ins C dx fs => obtain ⟨_, _, _, e, _⟩ := x; exact Heap.lt_size e
  | own y => obtain ⟨_, e⟩ := x; exact Heap.lt_size e
  | xd fs => obtain ⟨_, ⟨_, _, _, e, _⟩, _⟩ := x; exact Heap.lt_size e
  | rng lo hi => obtain ⟨_, _, _, e⟩ := x; exact Heap.lt_size e
  | frz ob u => obtain ⟨e, _⟩ := x; exact Heap.lt_size e
  | tbl ps => exact Heap.lt_size (show h.get? a = some _ from x)
  | met f y => exact Heap.lt_size (show h.get? a = some _ from x)
  | ext φ => obtain ⟨_, ⟨_, e⟩, _⟩ := x; exact Heap.lt_size e
theorem Paired.mapP {α β : Type} {F G : α → β → Prop} : ∀ {l₁ : List α} {l₂ : List β}, Paired F l₁ l₂ → (∀ a b, F a b → G a b) → Paired G l₁ l₂
  | _, _, .nil, _ => .nil
  | _, _, .cons r t, f => .cons (f _ _ r) (Paired.mapP t f)
/-- what an object's description leans on: its own object, its own dict, the tuples -/
theorem ObjOk.stay (x : ObjOk P w H h a o) (k : ∀ b u, (b = a ∨ H b = some (.own a)) → h.get? b = some u → h'.get? b = some u)
    (ho : ∀ b, H b = some (.own a) → H' b = some (.own a)) (ht : ∀ b xs, H b = some (.tup xs) → H' b = some (.tup xs)) : ObjOk P w H' h' a o := by
  induction o with
  | lst xs => obtain ⟨z, its, n, r, e⟩ := x; exact ⟨z, its, n, r, k _ _ (.inl rfl) e⟩
  | tup xs => obtain ⟨z, its, r, ob, e, c⟩ := x; exact ⟨z, its, r, ob, k _ _ (.inl rfl) e, c⟩
  | dK kvs => obtain ⟨z, y, vs, r, ob, es, ep, e, c⟩ := x; exact ⟨z, y, vs, r, ob, es, ep, k _ _ (.inl rfl) e, c⟩
  | dT kvs =>
    obtain ⟨z, y, xs, r, ob, es, ep, e, c⟩ := x
    exact ⟨z, y, xs, Paired.mapP r fun p q z => ⟨z.1, ht _ _ z.2.1, z.2.2⟩, ob, es, ep, k _ _ (.inl rfl) e, c⟩
  | set S n => obtain ⟨ob, es, ep, t, e, c⟩ := x; exact ⟨ob, es, ep, t, k _ _ (.inl rfl) e, c⟩
  | ins C dx fs =>
    obtain ⟨d, z, ne, e, mA, ⟨od, es, ep, e2, c⟩, r⟩ := x
    exact ⟨ho _ d, z, ne, k _ _ (.inl rfl) e, mA, ⟨od, es, ep, k _ _ (.inr d) e2, c⟩, r⟩
  | own y => obtain ⟨ob, e⟩ := x; exact ⟨ob, k _ _ (.inl rfl) e⟩
  | xd fs => obtain ⟨mA, ⟨od, es, ep, e, c⟩, r⟩ := x; exact ⟨mA, ⟨od, es, ep, k _ _ (.inl rfl) e, c⟩, r⟩
  | rng lo hi => obtain ⟨t, u, v, e⟩ := x; exact ⟨t, u, v, k _ _ (.inl rfl) e⟩
  | frz ob u ih => obtain ⟨e, q⟩ := x; exact ⟨k _ _ (.inl rfl) e, ih q⟩
  | tbl ps =>
    have e : h.get? a = some { cls := .none, data := .fields ps } := x
    show h'.get? a = some { cls := .none, data := .fields ps }
    exact k a _ (.inl rfl) e
  | met f y =>
    have e : h.get? a = some (PySem.W.methodObj (.ref f) (.ref y)) := x
    show h'.get? a = some (PySem.W.methodObj (.ref f) (.ref y))
    exact k a _ (.inl rfl) e
  | ext φ => obtain ⟨p, ⟨o, e⟩, st⟩ := x; exact ⟨st _ _ p fun o q => k _ _ (.inl rfl) q, ⟨o, k _ _ (.inl rfl) e⟩, st⟩
theorem HOk.lt (x : HOk P w H h) (e : H a = some o) : a < h.objs.size := (x a o e).lt
theorem HOk.fresh (x : HOk P w H h) (e : h.objs.size ≤ a) : H a = none := by
  cases q : H a with
  | none => rfl
  | some u => exact absurd (Nat.lt_of_lt_of_le (x.lt q) e) (Nat.lt_irrefl _)
/-- every object of the heap is kept -/
theorem HOk.kept (x : HOk P w H h) (k : ∀ b u, h.get? b = some u → h'.get? b = some u) : HOk P w H h' := fun a o e =>
  (x a o e).stay (fun b u _ q => k b u q) (fun _ q => q) fun _ _ q => q
/-- a new object is laid and tracked -/
theorem HOk.laid (x : HOk P w H h) (k : ∀ b u, h.get? b = some u → h'.get? b = some u) (hp : h.objs.size ≤ a) (new : ObjOk P w (upd H a o) h' a o) : HOk P w (upd H a o) h' := fun b u e => by
  have hn := x.fresh hp
  by_cases hb : b = a
  · subst hb; rw [upd_same] at e; cases e; exact new
  · rw [upd_ne hb] at e
    exact (x b u e).stay (fun c v _ q => k c v q) (fun c q => by rw [upd_ne (ne_of_none q hn)]; exact q) fun c xs q => by rw [upd_ne (ne_of_none q hn)]; exact q
end

/-- what may be read as u: it is u, or a known u -/
noncomputable def Rd (H : Hp) (a : Addr) (u : HO) : Prop := H a = some u ∨ ∃ o, H a = some (.frz o u)
theorem Rd.of {H : Hp} {a : Addr} {u : HO} (h : H a = some u) : Rd H a u := .inl h
theorem Rd.ok {P : Program} {w : World} {H : Hp} {h : Heap} {a : Addr} {u : HO} (r : Rd H a u) (x : HOk P w H h) : ObjOk P w H h a u := by
  rcases r with r | ⟨o, r⟩
  · exact x a u r
  · obtain ⟨_, q⟩ := x a _ r
    exact q
/-- what may be written -/
noncomputable def Mut : Option HO → Prop
  | some (.lst _) => True
  | some (.dK _) => True
  | some (.dT _) => True
  | some (.set _ _) => True
  | some (.ins _ _ _) => True
  | some (.ext _) => True
  | _ => False
section
variable {P : Program} {w : World} {H : Hp} {h h' : Heap} {x e : Addr} {o' : HO}
/-- the object at e is changed: x itself, or the dict of the instance x -/
theorem HOk.write (ok : HOk P w H h) (mu : Mut (H x)) (he : e = x ∨ H e = some (.own x)) (k : ∀ b u, b ≠ e → h.get? b = some u → h'.get? b = some u) (heo : ∃ u, h'.get? e = some u)
    (new : ObjOk P w (upd H x o') h' x o') : HOk P w (upd H x o') h' := fun b u q => by
  have nown : ∀ c y, H c = some (.own y) → c ≠ x := fun c y r z => by subst z; rw [r] at mu; exact mu
  have ntup : ∀ c xs, H c = some (.tup xs) → c ≠ x := fun c xs r z => by subst z; rw [r] at mu; exact mu
  by_cases hb : b = x
  · subst hb; rw [upd_same] at q; cases q; exact new
  · rw [upd_ne hb] at q
    by_cases hbe : b = e
    · have q' : H b = some (.own x) := by
        rcases he with z | z
        · exact absurd (hbe.trans z) hb
        · rw [hbe]; exact z
      rw [q] at q'; cases q'
      obtain ⟨v, hv⟩ := heo
      exact ⟨v, by rw [hbe]; exact hv⟩
    · refine (ok b u q).stay (fun c v hc r => k c v ?_ r) (fun c r => by rw [upd_ne (nown c b r)]; exact r) fun c xs r => by rw [upd_ne (ntup c xs r)]; exact r
      rcases hc with rfl | hc
      · exact hbe
      · rintro rfl
        rcases he with z | z
        · exact nown c b hc z
        · rw [hc] at z; cases z; exact hb rfl
end

/-! ### kept unless tracked; of the frames at fs (the callers') the slots may change (an exception that passes writes there); of the records at ex (iterators) nothing is said -/
structure Un (fs ex : List Addr) (H H' : Hp) (h h' : Heap) : Prop where
  keep : ∀ b o, h.get? b = some o → H b = none → b ∉ fs → b ∉ ex → h'.get? b = some o
  slot : ∀ b o, h.get? b = some o → H b = none → b ∈ fs → b ∉ ex → ∃ sl, h'.get? b = some { o with slots := sl }
  free : ∀ b o, h.get? b = some o → H b = none → b ∉ ex → H' b = none
  there : ∀ b o, h.get? b = some o → b ∉ ex → ∃ o', h'.get? b = some o'
  tups : ∀ b xs, H b = some (.tup xs) → H' b = some (.tup xs)
  frzs : ∀ b o u, H b = some (.frz o u) → H' b = some (.frz o u)
  tbls : ∀ b ps, H b = some (.tbl ps) → ∃ more, H' b = some (.tbl (ps ++ more))
section
variable {fs fs' ex ex' : List Addr} {H H1 H2 : Hp} {h h1 h2 h' : Heap} {a x e : Addr} {o : HO}
theorem Un.any (u : Un fs ex H H1 h h1) {b : Addr} {ob : Obj} (q : h.get? b = some ob) (n : H b = none) (hx : b ∉ ex) : ∃ sl, h1.get? b = some { ob with slots := sl } := by
  by_cases hb : b ∈ fs
  · exact u.slot b ob q n hb hx
  · exact ⟨ob.slots, u.keep b ob q n hb hx⟩
theorem Un.trans (a : Un fs ex H H1 h h1) (b : Un fs ex H1 H2 h1 h2) : Un fs ex H H2 h h2 where
  keep := fun c ob q n hc hx => b.keep c ob (a.keep c ob q n hc hx) (a.free c ob q n hx) hc hx
  slot := fun c ob q n hc hx => by
    obtain ⟨sl, e1⟩ := a.slot c ob q n hc hx
    obtain ⟨sl', e2⟩ := b.slot c _ e1 (a.free c ob q n hx) hc hx
    exact ⟨sl', e2⟩
  free := fun c ob q n hx => by
    obtain ⟨o', e1⟩ := a.there c ob q hx
    exact b.free c o' e1 (a.free c ob q n hx) hx
  there := fun c ob q hx => by
    obtain ⟨o', e1⟩ := a.there c ob q hx
    exact b.there c o' e1 hx
  tups := fun c xs q => b.tups c xs (a.tups c xs q)
  frzs := fun c ob xs q => b.frzs c ob xs (a.frzs c ob xs q)
  tbls := fun c ps q => by
    obtain ⟨m1, e1⟩ := a.tbls c ps q
    obtain ⟨m2, e2⟩ := b.tbls c _ e1
    exact ⟨m1 ++ m2, by rw [e2, Array.append_assoc]⟩
theorem Un.kept (k : ∀ b u, h.get? b = some u → h'.get? b = some u) : Un fs ex H H h h' :=
  ⟨fun b ob q _ _ _ => k b ob q, fun b ob q _ _ _ => ⟨ob.slots, k b ob q⟩, fun _ _ _ n _ => n, fun b ob q _ => ⟨ob, k b ob q⟩, fun _ _ q => q, fun _ _ _ q => q, fun _ ps q => ⟨#[], by rw [q]; simp⟩⟩
theorem Un.refl : Un fs ex H H h h := Un.kept fun _ _ q => q
theorem Un.laid (k : ∀ b u, h.get? b = some u → h'.get? b = some u) (hp : h.objs.size ≤ a) (hn : H a = none) : Un fs ex H (upd H a o) h h' where
  keep := fun b u q _ _ _ => k b u q
  slot := fun b u q _ _ _ => ⟨u.slots, k b u q⟩
  free := fun b u q n _ => by rw [upd_ne (Nat.ne_of_lt (Nat.lt_of_lt_of_le (Heap.lt_size q) hp))]; exact n
  there := fun b u q _ => ⟨u, k b u q⟩
  tups := fun b xs q => by rw [upd_ne (ne_of_none q hn)]; exact q
  frzs := fun b u xs q => by rw [upd_ne (ne_of_none q hn)]; exact q
  tbls := fun b ps q => ⟨#[], by rw [upd_ne (ne_of_none q hn), q]; simp⟩
theorem Un.write (mu : Mut (H x)) (he : e = x ∨ H e = some (.own x)) (k : ∀ b u, b ≠ e → h.get? b = some u → h'.get? b = some u) (heo : ∃ u, h'.get? e = some u) : Un fs ex H (upd H x o) h h' := by
  have hx : ∀ b, H b = none → b ≠ x := fun b n z => by subst z; rw [n] at mu; exact mu
  have hb : ∀ b, H b = none → b ≠ e := fun b n z => by
    subst z
    rcases he with r | r
    · exact hx b n r
    · rw [n] at r; cases r
  have hm : ∀ b u, H b = some u → ¬ Mut (some u) → b ≠ x := fun b u q nm z => by subst z; rw [q] at mu; exact nm mu
  refine ⟨fun b u q n _ _ => k b u (hb b n) q, fun b u q n _ _ => ⟨u.slots, k b u (hb b n) q⟩, fun b u q n _ => by rw [upd_ne (hx b n)]; exact n, fun b u q _ => ?_,
    fun b xs q => by rw [upd_ne (hm b _ q fun z => z)]; exact q, fun b u xs q => by rw [upd_ne (hm b _ q fun z => z)]; exact q, fun b ps q => ⟨#[], by rw [upd_ne (hm b _ q fun z => z), q]; simp⟩⟩
  by_cases hbe : b = e
  · subst hbe; exact heo
  · exact ⟨u, k b u hbe q⟩
theorem Un.mono (u : Un fs ex H H1 h h1) (hs : ∀ b ∈ fs, b ∈ fs') (hx : ∀ b ∈ ex, b ∈ ex') : Un fs' ex' H H1 h h1 :=
  ⟨fun b ob q n hb he => u.keep b ob q n (fun z => hb (hs b z)) fun z => he (hx b z), fun _ _ q n _ he => u.any q n fun z => he (hx _ z), fun b ob q n he => u.free b ob q n fun z => he (hx b z), fun b ob q he => u.there b ob q fun z => he (hx b z), u.tups, u.frzs, u.tbls⟩
end

/-! ### the heap without what is tracked -/
noncomputable def trk (h : Heap) (H : Hp) : List Addr := (List.range h.objs.size).filter fun a => (H a).isSome
noncomputable def hidT (h : Heap) (H : Hp) : Heap := PySem.W.hideAll h (trk h H)
theorem hidT_size (h : Heap) (H : Hp) : (hidT h H).objs.size = h.objs.size := PySem.W.hideAll_size _ _
theorem hidT_get {h : Heap} {H : Hp} {b : Addr} {o : Obj} (e : h.get? b = some o) (n : H b = none) : (hidT h H).get? b = some o :=
  PySem.W.hideAll_get _ e fun hm => by
    have q : (H b).isSome = true := (List.mem_filter.mp hm).2
    rw [n] at q; simp at q
theorem of_hidT {h : Heap} {H : Hp} {b : Addr} {o : Obj} (e : (hidT h H).get? b = some o) : h.get? b = some o ∧ H b = none := by
  have e' : h.get? b = some o := PySem.W.of_hideAll (trk h H) e
  refine ⟨e', ?_⟩
  cases q : H b with
  | none => rfl
  | some x =>
    have hm : b ∈ trk h H := List.mem_filter.mpr ⟨List.mem_range.mpr (Heap.lt_size e'), by simp [q]⟩
    have z : (hidT h H).get? b = none := PySem.W.hideAll_none (trk h H) hm
    rw [z] at e; cases e

/-! ### OpenK's ledger, filled with every new object but one -/
noncomputable def allNews (g h : Heap) (L : Addr) : List (Addr × Obj) := (List.range h.objs.size).filterMap fun a => if a = L ∨ (g.get? a).isSome = true then none else (h.get? a).map fun o => (a, o)
noncomputable def rest (g h : Heap) (L d : Addr) : List (Addr × Obj) := (allNews g h L).filter fun p => decide (p.1 ≠ d)
end L2

namespace L2
open PySem PySem.Spec PyProof.Rows

/-- the module's facts, over the base: the heap at the law's entry without what is tracked there -/
structure Mod (K : PySem.W.Frag) (mg : Str → Option Value) (base : Heap) : Prop where
  kin : K.In base
  glob : base.Ns mainGlobals mg
  blt : ∃ mb, base.Ns builtinsNs mb ∧ ∀ x : Str, x ≠ "__name__" → mb x = bootBuiltins x
  nolimit : base.NoLimit

/-- the context: a def's body (or a comprehension's block) running. base: fixed through the whole law; s₀, H₀: the entry; outer: the frames whose slots others may change (a def's callers); stack: all frames that run;
   ex: iterators that were made ahead of the entry and are walked here (a comprehension's); fn: the names whose cells were made at the entry (a def: all; a comprehension's block: its own); calm: not within an except suite; pn: pins that every state bears; xe: what is wanted of an exception that leaves the code -/
structure Cx where
  prog : Program
  w : World
  K : PySem.W.Frag
  mg : Str → Option Value
  base : Heap
  A : Around
  N : List Str
  s₀ : Shared
  H₀ : Hp
  env : Env
  outer : List Env
  stack : List Env
  ex : List Addr
  fn : Str → Bool
  calm : Bool
  pn : List (Addr × Obj)
  xe : Value → Shared → Prop
/-- the callers' frames -/
noncomputable def frs (l : List Env) : List Addr := l.filterMap (·.frame)
noncomputable abbrev Cx.fs (X : Cx) : List Addr := frs X.outer

noncomputable def Vis (sc : Scope) (x : Str) : Prop := sc.names.lookup x = some .local ∨ sc.names.lookup x = some .cell ∨ sc.names.lookup x = some .free
noncomputable def Loc (sc : Scope) (x : Str) : Prop := sc.names.lookup x = some .local ∨ sc.names.lookup x = some .cell
noncomputable def Look (env : Env) (h : Heap) (m : Str → Option Value) (x : Str) (u : Value) : Prop :=
  (env.kindOf x = some .local ∧ m x = some u) ∨ ((env.kindOf x = some .cell ∨ env.kindOf x = some .free) ∧ ∃ c, env.cells.lookup x = some c ∧ h.IsCell c (some u))

structure Cx.Ok (X : Cx) : Prop where
  mod : Mod X.K X.mg X.base
  kind : X.env.scope.kind = .function
  glob : X.env.globals = mainGlobals
  blt : X.env.builtins = builtinsNs
  above : X.s₀.heap.objs.size ≤ X.env.locals
  inj : ∀ x y c, X.env.cells.lookup x = some c → X.env.cells.lookup y = some c → x = y
  has : ∀ x, (X.env.kindOf x = some .cell ∨ X.env.kindOf x = some .free) → ∃ c, X.env.cells.lookup x = some c
  cab : ∀ x c, X.fn x = true → X.env.cells.lookup x = some c → X.s₀.heap.objs.size ≤ c
  hd : X.calm = true → X.A.handled = none
  frames : X.A.frames = some X.stack
  stk : X.stack = X.outer ∨ (X.stack = X.env :: X.outer ∧ X.env.frame = some X.env.locals)
  exf : ∀ b ∈ X.ex, b ≠ X.env.locals ∧ ∀ x c, X.env.cells.lookup x = some c → c ≠ b
  bs : ∀ b o, X.base.get? b = some o → X.s₀.heap.get? b = some o ∧ X.H₀ b = none
  bsz : X.base.objs.size ≤ X.s₀.heap.objs.size
  noex : ∀ b o, X.base.get? b = some o → b ∉ X.ex
  exfs : ∀ b ∈ X.ex, b ∉ X.fs
  funs : X.s₀.heap.FunFrames X.base X.outer
  frf : ∀ b ∈ X.fs, X.H₀ b = none

structure Inv (X : Cx) (pins : List (Addr × Obj)) (σ : List (Option V)) (H : Hp) (s : Shared) : Prop where
  ok : X.Ok
  os : s.os = X.s₀.os
  bare : AllBare s.gens
  base : Un X.fs X.ex X.H₀ H X.s₀.heap s.heap
  loc : ∃ m, s.heap.Ns X.env.locals m ∧ ∀ (i : Nat) (x : Str) (v : V), X.N[i]? = some x → σ[i]? = some (some v) → Vis X.env.scope x → ∃ u, RelV v u ∧ Look X.env s.heap m x u
  cell : ∀ x c, X.env.cells.lookup x = some c → ∃ v, s.heap.IsCell c v
  free : H X.env.locals = none
  freeC : ∀ x c, X.env.cells.lookup x = some c → H c = none
  pin : ∀ p ∈ X.pn ++ pins, s.heap.get? p.1 = some p.2 ∧ H p.1 = none ∧ p.1 ≠ X.env.locals ∧ p.1 ∉ X.fs ∧ ∀ v, p.2.data ≠ .cell v
  hok : HOk X.prog X.w H s.heap
  len : σ.length = X.N.length

section
variable {X : Cx} {pins : List (Addr × Obj)} {σ : List (Option V)} {H H' : Hp} {s : Shared} {h' : Heap}

theorem Cx.Ok.nofr (ok : X.Ok) {b : Addr} {o : Obj} (e : X.base.get? b = some o) : b ∉ X.fs := fun hb => by
  have := (ok.funs.mem hb).1
  rw [e] at this; cases this
theorem Inv.bs (I : Inv X pins σ H s) : ∀ b o, X.base.get? b = some o → s.heap.get? b = some o ∧ H b = none := fun b o e =>
  ⟨I.base.keep b o (I.ok.bs b o e).1 (I.ok.bs b o e).2 (I.ok.nofr e) (I.ok.noex b o e), I.base.free b o (I.ok.bs b o e).1 (I.ok.bs b o e).2 (I.ok.noex b o e)⟩
theorem Inv.bk (I : Inv X pins σ H s) : ∀ b o, X.base.get? b = some o → s.heap.get? b = some o := fun b o e => (I.bs b o e).1
theorem Inv.mod (I : Inv X pins σ H s) : Mod X.K X.mg X.base := I.ok.mod
theorem Inv.kIn (I : Inv X pins σ H s) : X.K.In s.heap := I.ok.mod.kin.keeps I.bk
theorem Inv.nolimit (I : Inv X pins σ H s) : s.heap.NoLimit := I.ok.mod.nolimit.keeps I.bk
/-- the frame over the base: for OpenK's rules (K.In X.base is I.mod.kin) -/
theorem Inv.fr (I : Inv X pins σ H s) : ∃ m, Fr X.base X.env.locals s.heap m :=
  let ⟨m, hn, _⟩ := I.loc
  ⟨m, hn, I.bk, Nat.le_trans I.ok.bsz I.ok.above⟩
theorem Inv.lt (I : Inv X pins σ H s) : X.env.locals < s.heap.objs.size := let ⟨_, hn, _⟩ := I.loc; hn.lt
theorem Inv.sz (I : Inv X pins σ H s) : X.s₀.heap.objs.size ≤ s.heap.objs.size := Nat.le_trans I.ok.above (Nat.le_of_lt I.lt)
theorem Inv.nofs (I : Inv X pins σ H s) {a : Addr} (h : s.heap.objs.size ≤ a) : a ∉ X.fs := fun hb => by
  obtain ⟨_, o, ho, _⟩ := I.ok.funs.mem hb
  exact absurd (Nat.lt_of_lt_of_le (Heap.lt_size ho) (Nat.le_trans I.sz h)) (Nat.lt_irrefl _)
theorem Inv.cne (I : Inv X pins σ H s) : ∀ x c, X.env.cells.lookup x = some c → c ≠ X.env.locals := fun x c e z => by
  obtain ⟨v, o, ho, hd⟩ := I.cell x c e
  obtain ⟨m, ⟨o', es, ep, ho', hd', _⟩, _⟩ := I.loc
  rw [z, ho'] at ho; cases ho; rw [hd'] at hd; cases hd
theorem Inv.funs (I : Inv X pins σ H s) : s.heap.FunFrames X.base X.outer := by
  have all : ∀ (l : List Env), (∀ b ∈ frs l, b ∈ X.fs) → X.s₀.heap.FunFrames X.base l → s.heap.FunFrames X.base l := by
    intro l
    induction l with
    | nil => intro _ _; trivial
    | cons env r ih =>
      intro hs hl
      obtain ⟨hk, ⟨L, o, hf, hn, ho, hd⟩, hr⟩ := hl
      have hL : L ∈ X.fs := hs L (by unfold frs; rw [List.filterMap_cons, hf]; exact List.mem_cons_self)
      obtain ⟨sl, e⟩ := I.base.slot L o ho (I.ok.frf L hL) hL fun z => I.ok.exfs L z hL
      exact ⟨hk, ⟨L, _, hf, hn, e, hd⟩, ih (fun b hb => hs b (by unfold frs; rw [List.filterMap_cons, hf]; exact List.mem_cons_of_mem _ hb)) hr⟩
  exact all X.outer (fun _ hb => hb) I.ok.funs

/-- the frames that run, for a call -/
theorem Inv.stack (I : Inv X pins σ H s) : s.heap.FunFrames X.base X.stack := by
  rcases I.ok.stk with e | ⟨e, hf⟩
  · rw [e]; exact I.funs
  · rw [e]
    obtain ⟨m, hn, _⟩ := I.loc
    refine .cons (by rw [I.ok.kind]; decide) hf hn ?_ I.funs
    exact Heap.get?_none_of_le (Nat.le_trans I.ok.bsz I.ok.above)
theorem Inv.stkSub (I : Inv X pins σ H s) : ∀ b ∈ frs X.stack, b ∈ X.env.locals :: X.fs := fun b hb => by
  rcases I.ok.stk with e | ⟨e, hf⟩
  · rw [e] at hb; exact List.mem_cons_of_mem _ hb
  · rw [e] at hb
    unfold frs at hb
    rw [List.filterMap_cons, hf] at hb
    exact hb
theorem Inv.stkFree (I : Inv X pins σ H s) : ∀ b ∈ frs X.stack, H b = none := fun b hb => by
  rcases List.mem_cons.mp (I.stkSub b hb) with e | hb
  · rw [e]; exact I.free
  · obtain ⟨_, o, ho, _⟩ := I.ok.funs.mem hb
    exact I.base.free b o ho (I.ok.frf b hb) fun z => I.ok.exfs b z hb

/-- THE STEP: the untracked objects but the frame and the records at ch are kept (the callers' frames up to slots), the frame's map is kept, the new abstract heap is held -/
theorem Inv.step {g' : Array GenState} {t' : Nat} {d' : Drawn} {ch : List Addr} (I : Inv X pins σ H s)
    (hch : ∀ b ∈ ch, (b ∈ X.ex ∨ X.s₀.heap.objs.size ≤ b) ∧ b ≠ X.env.locals ∧ (∀ x c, X.env.cells.lookup x = some c → c ≠ b) ∧ ∀ p ∈ X.pn ++ pins, p.1 ≠ b)
    (keep : ∀ b o, b ≠ X.env.locals → b ∉ X.fs → b ∉ ch → s.heap.get? b = some o → H b = none → h'.get? b = some o)
    (slot : ∀ b o, b ≠ X.env.locals → b ∈ X.fs → b ∉ ch → s.heap.get? b = some o → H b = none → ∃ sl, h'.get? b = some { o with slots := sl }) (free : ∀ b o, b ∉ ch → s.heap.get? b = some o → H b = none → H' b = none)
    (there : ∀ b o, b ∉ ch → s.heap.get? b = some o → ∃ o', h'.get? b = some o')
    (tups : ∀ b xs, H b = some (.tup xs) → H' b = some (.tup xs)) (frzs : ∀ b o u, H b = some (.frz o u) → H' b = some (.frz o u)) (tbls : ∀ b ps, H b = some (.tbl ps) → ∃ more, H' b = some (.tbl (ps ++ more)))
    (ns : ∀ m, s.heap.Ns X.env.locals m → h'.Ns X.env.locals m) (hok : HOk X.prog X.w H' h') (hg : AllBare g') :
    Inv X pins σ H' { s with heap := h', gens := g', drawn := d', toks := t' } := by
  have neL : ∀ b o, X.s₀.heap.get? b = some o → b ≠ X.env.locals := fun b o e => Nat.ne_of_lt (Nat.lt_of_lt_of_le (Heap.lt_size e) I.ok.above)
  have neC : ∀ b o, X.s₀.heap.get? b = some o → b ∉ X.ex → b ∉ ch := fun b o e hx hb => by
    rcases (hch b hb).1 with z | z
    · exact hx z
    · exact absurd (Nat.lt_of_lt_of_le (Heap.lt_size e) z) (Nat.lt_irrefl _)
  have cellK : ∀ x c, X.env.cells.lookup x = some c → ∀ v, s.heap.IsCell c v → h'.IsCell c v := fun x c e v ⟨o, ho, hd⟩ => by
    have nch : c ∉ ch := fun z => (hch c z).2.2.1 x c e rfl
    by_cases hc : c ∈ X.fs
    · obtain ⟨sl, q⟩ := slot c o (I.cne x c e) hc nch ho (I.freeC x c e)
      exact ⟨_, q, hd⟩
    · exact ⟨o, keep c o (I.cne x c e) hc nch ho (I.freeC x c e), hd⟩
  refine ⟨I.ok, I.os, hg, ⟨fun b o e n hb hx => ?_, fun b o e n hb hx => ?_, fun b o e n hx => ?_, fun b o e hx => ?_, fun b xs e => tups b xs (I.base.tups b xs e), fun b o xs e => frzs b o xs (I.base.frzs b o xs e), fun b ps e => ?_⟩, ?_, fun x c e => ?_, ?_, fun x c e => ?_, fun p hp => ?_, hok, I.len⟩
  · exact keep b o (neL b o e) hb (neC b o e hx) (I.base.keep b o e n hb hx) (I.base.free b o e n hx)
  · obtain ⟨sl, e1⟩ := I.base.slot b o e n hb hx
    obtain ⟨sl', e2⟩ := slot b _ (neL b o e) hb (neC b o e hx) e1 (I.base.free b o e n hx)
    exact ⟨sl', e2⟩
  · obtain ⟨o', e1⟩ := I.base.there b o e hx
    exact free b o' (neC b o e hx) e1 (I.base.free b o e n hx)
  · obtain ⟨o', e1⟩ := I.base.there b o e hx
    exact there b o' (neC b o e hx) e1
  · obtain ⟨m1, e1⟩ := I.base.tbls b ps e
    obtain ⟨m2, e2⟩ := tbls b _ e1
    exact ⟨m1 ++ m2, by rw [e2, Array.append_assoc]⟩
  · obtain ⟨m, hn, hl⟩ := I.loc
    refine ⟨m, ns m hn, fun i x v e1 e2 e3 => ?_⟩
    obtain ⟨u, r, l⟩ := hl i x v e1 e2 e3
    refine ⟨u, r, ?_⟩
    rcases l with l | ⟨k, c, e, z⟩
    · exact .inl l
    · exact .inr ⟨k, c, e, cellK x c e _ z⟩
  · obtain ⟨v, z⟩ := I.cell x c e
    exact ⟨v, cellK x c e v z⟩
  · obtain ⟨m, ⟨o, _, _, ho, _⟩, _⟩ := I.loc
    exact free _ o (fun z => (hch _ z).2.1 rfl) ho I.free
  · obtain ⟨v, o, ho, hd⟩ := I.cell x c e
    exact free c o (fun z => (hch c z).2.2.1 x c e rfl) ho (I.freeC x c e)
  · obtain ⟨e, n, ne, nf, d⟩ := I.pin p hp
    have nch : p.1 ∉ ch := fun z => (hch p.1 z).2.2.2 p hp rfl
    exact ⟨keep p.1 p.2 ne nf nch e n, free p.1 p.2 nch e n, ne, nf, d⟩
/-- .. where the frame's own object is kept too -/
theorem Inv.un {t' : Nat} (I : Inv X pins σ H s) (u : Un X.fs [] H H' s.heap h') (hok : HOk X.prog X.w H' h') : Inv X pins σ H' { s with heap := h', toks := t' } := by
  obtain ⟨m, ⟨o, es, ep, ho, r⟩, _⟩ := id I.loc
  obtain ⟨sl, hL⟩ := u.any ho I.free (by simp)
  exact I.step (g' := s.gens) (d' := s.drawn) (ch := []) (fun _ z => nomatch z) (fun b o _ hb _ e n => u.keep b o e n hb (by simp)) (fun b o _ hb _ e n => u.slot b o e n hb (by simp)) (fun b o _ e n => u.free b o e n (by simp)) (fun b o _ e => u.there b o e (by simp)) u.tups u.frzs u.tbls (fun m' hm => by
    obtain ⟨o', es', ep', ho', r'⟩ := hm
    rw [ho] at ho'; cases ho'
    exact ⟨_, es', ep', hL, r'⟩) hok I.bare
/-- behind a call (or a comprehension's block): the slots of this frame may have changed too, the records at ch may have turned -/
theorem Inv.call {g' : Array GenState} {t' : Nat} {d' : Drawn} {ch : List Addr} (I : Inv X pins σ H s) (u : Un (frs X.stack) ch H H' s.heap h') (hok : HOk X.prog X.w H' h') (hg : AllBare g')
    (hch : ∀ b ∈ ch, (b ∈ X.ex ∨ X.s₀.heap.objs.size ≤ b) ∧ b ≠ X.env.locals ∧ (∀ x c, X.env.cells.lookup x = some c → c ≠ b) ∧ ∀ p ∈ X.pn ++ pins, p.1 ≠ b) :
    Inv X pins σ H' { s with heap := h', gens := g', drawn := d', toks := t' } := by
  obtain ⟨m, ⟨o, es, ep, ho, r⟩, _⟩ := id I.loc
  obtain ⟨sl, hL⟩ := u.any ho I.free fun z => (hch _ z).2.1 rfl
  exact I.step (ch := ch) hch (fun b o hL hb hc e n => u.keep b o e n (fun z => (List.mem_cons.mp (I.stkSub b z)).elim hL hb) hc) (fun b o _ _ hc e n => u.any e n hc) (fun b o hc e n => u.free b o e n hc) (fun b o hc e => u.there b o e hc) u.tups u.frzs u.tbls (fun m' hm => by
    obtain ⟨o', es', ep', ho', r'⟩ := hm
    rw [ho] at ho'; cases ho'
    exact ⟨_, es', ep', hL, r'⟩) hok hg
/-- an untracked record of ours (an iterator) has turned -/
theorem Inv.turned {t' : Nat} {it : Addr} (I : Inv X pins σ H s) (k : ∀ b o, b ≠ it → s.heap.get? b = some o → h'.get? b = some o) (hn : H it = none) (hL : it ≠ X.env.locals)
    (h1 : it ∈ X.ex ∨ X.s₀.heap.objs.size ≤ it) (h2 : ∀ x c, X.env.cells.lookup x = some c → c ≠ it) (h3 : ∀ p ∈ X.pn ++ pins, p.1 ≠ it) : Inv X pins σ H { s with heap := h', toks := t' } := by
  have nit : ∀ b u, H b = some u → b ≠ it := fun b u e z => by rw [z, hn] at e; cases e
  refine I.step (g' := s.gens) (d' := s.drawn) (ch := [it]) (fun b hb => ?_) (fun b o _ _ hc e _ => k b o (fun z => hc (by simp [z])) e) (fun b o _ _ hc e _ => ⟨o.slots, k b o (fun z => hc (by simp [z])) e⟩) (fun _ _ _ _ n => n)
    (fun b o hc e => ⟨o, k b o (fun z => hc (by simp [z])) e⟩) (fun _ _ e => e) (fun _ _ _ e => e) (fun b ps e => ⟨#[], by rw [e]; simp⟩) (fun m hm => ?_) (fun b u e => ?_) I.bare
  · have e : b = it := by simpa using hb
    subst e
    exact ⟨h1, hL, h2, h3⟩
  · obtain ⟨o, es, ep, ho, r⟩ := hm
    exact ⟨o, es, ep, k _ o (Ne.symm hL) ho, r⟩
  · refine (I.hok b u e).stay (fun c v hc q => k c v ?_ q) (fun _ q => q) fun _ _ q => q
    rcases hc with z | z
    · rw [z]; exact nit b u e
    · exact nit c _ z
theorem Inv.tok (I : Inv X pins σ H s) (t : Nat) : Inv X pins σ H { s with toks := t } := I.un (h' := s.heap) (t' := t) Un.refl I.hok
/-- all objects kept -/
theorem Inv.kept {t' : Nat} (I : Inv X pins σ H s) (k : ∀ b u, s.heap.get? b = some u → h'.get? b = some u) : Inv X pins σ H { s with heap := h', toks := t' } := I.un (Un.kept k) (I.hok.kept k)
/-- a new object laid and tracked -/
theorem Inv.laid {a : Addr} {o : HO} {t' : Nat} (I : Inv X pins σ H s) (k : ∀ b u, s.heap.get? b = some u → h'.get? b = some u) (hp : s.heap.objs.size ≤ a) (new : ObjOk X.prog X.w (upd H a o) h' a o) :
    Inv X pins σ (upd H a o) { s with heap := h', toks := t' } := I.un (Un.laid k hp (I.hok.fresh hp)) (I.hok.laid k hp new)
/-- an object written -/
theorem Inv.write {x e : Addr} {o : HO} {t' : Nat} (I : Inv X pins σ H s) (mu : Mut (H x)) (he : e = x ∨ H e = some (.own x)) (k : ∀ b u, b ≠ e → s.heap.get? b = some u → h'.get? b = some u) (heo : ∃ u, h'.get? e = some u)
    (new : ObjOk X.prog X.w (upd H x o) h' x o) : Inv X pins σ (upd H x o) { s with heap := h', toks := t' } := I.un (Un.write mu he k heo) (I.hok.write mu he k heo new)
/-- forgetting slots, pins -/
theorem Inv.weak {σ' : List (Option V)} (I : Inv X pins σ H s) (hl : σ'.length = σ.length) (w : ∀ (i : Nat) v, σ'[i]? = some (some v) → σ[i]? = some (some v)) : Inv X pins σ' H s :=
  ⟨I.ok, I.os, I.bare, I.base, let ⟨m, hn, hl'⟩ := I.loc; ⟨m, hn, fun i x v e1 e2 e3 => hl' i x v e1 (w i v e2) e3⟩, I.cell, I.free, I.freeC, I.pin, I.hok, hl.trans I.len⟩
theorem Inv.pins_of {pins' : List (Addr × Obj)} (I : Inv X pins σ H s) (h : ∀ p ∈ pins', s.heap.get? p.1 = some p.2 ∧ H p.1 = none ∧ p.1 ≠ X.env.locals ∧ p.1 ∉ X.fs ∧ ∀ v, p.2.data ≠ .cell v) : Inv X pins' σ H s :=
  ⟨I.ok, I.os, I.bare, I.base, I.loc, I.cell, I.free, I.freeC, fun p hp => (List.mem_append.mp hp).elim (fun z => I.pin p (List.mem_append_left _ z)) (h p), I.hok, I.len⟩

theorem nodup_ix {N : List Str} (hN : N.Nodup) {i j : Nat} {x : Str} (a : N[i]? = some x) (b : N[j]? = some x) : i = j := by
  obtain ⟨h1, e1⟩ := List.getElem?_eq_some_iff.mp a
  obtain ⟨h2, e2⟩ := List.getElem?_eq_some_iff.mp b
  exact (List.getElem_inj hN).mp (e1.trans e2.symm)

/-- a name is stored; what changed -/
theorem store_ok2 {M : Model} {A : Around} {E : Value → Shared → Prop} {i : Nat} {x : Str} {v : V} {u : Value} {Q : Unit → Shared → Prop} (I : Inv X pins σ H s) (hN : X.N.Nodup) (hi : X.N[i]? = some x) (hx : Loc X.env.scope x) (r : RelV v u)
    (h : ∀ s', Inv X pins (σ.set i (some v)) H s' → (∃ a, Heap.SameBut a s.heap s'.heap ∧ (a = X.env.locals ∨ X.env.cells.lookup x = some a)) → Q () s') (hf : X.fn x = true ∨ X.env.scope.names.lookup x = some .local := by first | exact .inl rfl | exact .inr rfl | assumption) : wpAny M A (storeName X.env x u) Q E s := by
  obtain ⟨m, hn, hl⟩ := id I.loc
  have hcls : (X.env.scope.kind == .class || (X.env.scope.kind == .module && X.env.locals != X.env.globals)) = false := by rw [I.ok.kind]; rfl
  have hiσ : i < σ.length := by rw [I.len]; exact (List.getElem?_eq_some_iff.mp hi).1
  have cne := I.cne
  have tracked : ∀ {a : Addr} {h' : Heap}, (∃ o, s.heap.get? a = some o ∧ H a = none) → Heap.SameBut a s.heap h' → HOk X.prog X.w H h' := fun {a h'} ha hs b ob e => by
    obtain ⟨_, _, hfree⟩ := ha
    refine (I.hok b ob e).stay (fun c w' hc q => (hs.2 c ?_).trans q) (fun _ q => q) fun _ _ q => q
    rintro rfl
    rcases hc with rfl | hc
    · rw [hfree] at e; cases e
    · rw [hfree] at hc; cases hc
  rcases hx with hk | hk
  · refine wpAny_storeName_local hk hn (fun h' hn' hs => ?_) hcls
    obtain ⟨oL, _, _, hoL, _⟩ := id hn
    refine h _ ⟨I.ok, I.os, I.bare, ⟨fun b o e n hb hx => ?_, fun b o e n hb hx => ?_, I.base.free, fun b o e hx => ?_, I.base.tups, I.base.frzs, I.base.tbls⟩, ⟨_, hn', fun j y v' e1 e2 e3 => ?_⟩, fun y c e => ?_, I.free, I.freeC, fun p hp => ?_, tracked ⟨oL, hoL, I.free⟩ hs, by simpa using I.len⟩ ⟨_, hs, .inl rfl⟩
    · exact (hs.2 b (Nat.ne_of_lt (Nat.lt_of_lt_of_le (Heap.lt_size e) I.ok.above))).trans (I.base.keep b o e n hb hx)
    · obtain ⟨sl, e1⟩ := I.base.slot b o e n hb hx
      exact ⟨sl, (hs.2 b (Nat.ne_of_lt (Nat.lt_of_lt_of_le (Heap.lt_size e) I.ok.above))).trans e1⟩
    · obtain ⟨o', e1⟩ := I.base.there b o e hx
      exact ⟨o', (hs.2 b (Nat.ne_of_lt (Nat.lt_of_lt_of_le (Heap.lt_size e) I.ok.above))).trans e1⟩
    · by_cases hj : j = i
      · subst hj
        rw [hi] at e1; cases e1
        rw [List.getElem?_set_self hiσ] at e2
        cases e2
        exact ⟨u, r, .inl ⟨hk, by simp⟩⟩
      · rw [List.getElem?_set_ne (Ne.symm hj)] at e2
        obtain ⟨u', r', q⟩ := hl j y v' e1 e2 e3
        refine ⟨u', r', ?_⟩
        rcases q with ⟨k, e⟩ | ⟨k, c, e, z⟩
        · refine .inl ⟨k, ?_⟩
          have : y ≠ x := fun e => hj (nodup_ix hN e1 (e ▸ hi))
          simp [this, e]
        · exact .inr ⟨k, c, e, z.sameBut hs (cne y c e)⟩
    · obtain ⟨w', z⟩ := I.cell y c e
      exact ⟨w', z.sameBut hs (cne y c e)⟩
    · obtain ⟨e, n, ne, nf, d⟩ := I.pin p hp
      exact ⟨(hs.2 p.1 ne).trans e, n, ne, nf, d⟩
  · have hfn : X.fn x = true := by
      rcases hf with z | z
      · exact z
      · rw [z] at hk; cases hk
    obtain ⟨c, hc⟩ := I.ok.has x (.inl hk)
    obtain ⟨w', z⟩ := I.cell x c hc
    refine wpAny_storeName_cell I.ok.kind hk hc z (fun h' hc' hs => ?_)
    obtain ⟨oc, hoc, hocd⟩ := id z
    refine h { s with heap := h' } ⟨I.ok, I.os, I.bare, ⟨fun b o e n hb hx => ?_, fun b o e n hb hx => ?_, I.base.free, fun b o e hx => ?_, I.base.tups, I.base.frzs, I.base.tbls⟩, ⟨m, hn.sameBut hs (Ne.symm (cne x c hc)), fun j y v' e1 e2 e3 => ?_⟩, fun y c' e => ?_, I.free, I.freeC, fun p hp => ?_, tracked ⟨oc, hoc, I.freeC x c hc⟩ hs, by simpa using I.len⟩ ⟨c, hs, .inr hc⟩
    · exact (hs.2 b (Nat.ne_of_lt (Nat.lt_of_lt_of_le (Heap.lt_size e) (I.ok.cab x c hfn hc)))).trans (I.base.keep b o e n hb hx)
    · obtain ⟨sl, e1⟩ := I.base.slot b o e n hb hx
      exact ⟨sl, (hs.2 b (Nat.ne_of_lt (Nat.lt_of_lt_of_le (Heap.lt_size e) (I.ok.cab x c hfn hc)))).trans e1⟩
    · obtain ⟨o', e1⟩ := I.base.there b o e hx
      exact ⟨o', (hs.2 b (Nat.ne_of_lt (Nat.lt_of_lt_of_le (Heap.lt_size e) (I.ok.cab x c hfn hc)))).trans e1⟩
    · by_cases hj : j = i
      · subst hj
        rw [hi] at e1; cases e1
        rw [List.getElem?_set_self hiσ] at e2
        cases e2
        exact ⟨u, r, .inr ⟨.inl hk, c, hc, hc'⟩⟩
      · rw [List.getElem?_set_ne (Ne.symm hj)] at e2
        obtain ⟨u', r', q⟩ := hl j y v' e1 e2 e3
        refine ⟨u', r', ?_⟩
        rcases q with q | ⟨k, c', e, z'⟩
        · exact .inl q
        · refine .inr ⟨k, c', e, z'.sameBut hs ?_⟩
          rintro rfl
          exact hj (nodup_ix hN e1 (I.ok.inj _ _ _ e hc ▸ hi))
    · by_cases hcc : c' = c
      · subst hcc; exact ⟨_, hc'⟩
      · obtain ⟨w2, z2⟩ := I.cell y c' e
        exact ⟨w2, z2.sameBut hs hcc⟩
    · obtain ⟨e, n, ne, nf, d⟩ := I.pin p hp
      refine ⟨(hs.2 p.1 ?_).trans e, n, ne, nf, d⟩
      intro q
      rw [q, hoc] at e
      have q' : oc = p.2 := Option.some.inj e
      exact d w' (by rw [← q']; exact hocd)
theorem store_ok {M : Model} {A : Around} {E : Value → Shared → Prop} {i : Nat} {x : Str} {v : V} {u : Value} {Q : Unit → Shared → Prop} (I : Inv X pins σ H s) (hN : X.N.Nodup) (hi : X.N[i]? = some x) (hx : Loc X.env.scope x) (r : RelV v u)
    (h : ∀ s', Inv X pins (σ.set i (some v)) H s' → Q () s') (hf : X.fn x = true ∨ X.env.scope.names.lookup x = some .local := by first | exact .inl rfl | exact .inr rfl | assumption) : wpAny M A (storeName X.env x u) Q E s :=
  store_ok2 I hN hi hx r (fun s' I' _ => h s' I') hf
/-- behind a call or a block, the state as it is -/
theorem Inv.call' {s' : Shared} {ch : List Addr} (I : Inv X pins σ H s) (ho : s'.os = s.os) (u : Un (frs X.stack) ch H H' s.heap s'.heap) (hok : HOk X.prog X.w H' s'.heap) (hg : AllBare s'.gens)
    (hch : ∀ b ∈ ch, (b ∈ X.ex ∨ X.s₀.heap.objs.size ≤ b) ∧ b ≠ X.env.locals ∧ (∀ x c, X.env.cells.lookup x = some c → c ≠ b) ∧ ∀ p ∈ X.pn ++ pins, p.1 ≠ b) : Inv X pins σ H' s' := by
  obtain ⟨h', g', d', t', o'⟩ := s'
  have e : o' = s.os := ho
  subst e
  exact I.call (g' := g') (t' := t') (d' := d') u hok hg hch
end

/-! ### the judgements -/
/-- an exception: its class, its own dict's address (where it has one), the abstract heap behind it -/
noncomputable abbrev XK := Value → Option Addr → Hp → Prop
noncomputable abbrev St := List (Option V)
noncomputable abbrev VK := V → Hp → Prop
/-- an expression's reading; a test's; an argument list's -/
noncomputable abbrev TE := St → Hp → VK → Prop
noncomputable abbrev TT := St → Hp → (Bool → Hp → Prop) → Prop
noncomputable abbrev TA := St → Hp → (List V → Hp → Prop) → Prop
/-- what is wanted behind a statement -/
structure Ends where
  nx : St → Hp → Prop
  rt : VK
  bk : St → Hp → Prop := fun _ _ => False
  ct : St → Hp → Prop := fun _ _ => False
noncomputable abbrev TS := Ends → St → Hp → Prop

noncomputable def EP (X : Cx) (pins : List (Addr × Obj)) (σ : St) (Q : VK) (u : Value) (s' : Shared) : Prop := ∃ v H', Inv X pins σ H' s' ∧ RelV v u ∧ Q v H'
noncomputable def TP (X : Cx) (pins : List (Addr × Obj)) (σ : St) (Q : Bool → Hp → Prop) (b : Bool) (s' : Shared) : Prop := ∃ H', Inv X pins σ H' s' ∧ Q b H'
noncomputable def AP (X : Cx) (pins : List (Addr × Obj)) (σ : St) (Q : List V → Hp → Prop) (us : List Value) (s' : Shared) : Prop := ∃ vs H', Inv X pins σ H' s' ∧ Vals vs us ∧ Q vs H'
noncomputable def SP (X : Cx) (pins : List (Addr × Obj)) (D : Ends) (f : Flow) (s' : Shared) : Prop :=
  match f with
  | .next => ∃ σ' H', Inv X pins σ' H' s' ∧ D.nx σ' H'
  | .brk => ∃ σ' H', Inv X pins σ' H' s' ∧ D.bk σ' H'
  | .cont => ∃ σ' H', Inv X pins σ' H' s' ∧ D.ct σ' H'
  | .ret u => ∃ v σ' H', Inv X pins σ' H' s' ∧ RelV v u ∧ D.rt v H'

noncomputable def PE (X : Cx) (e : Expr) (t : TE) : Prop :=
  ∀ (pins : List (Addr × Obj)) (s : Shared) (σ : St) (H : Hp) (Q : VK), Inv X pins σ H s → t σ H Q → wpAny (model X.prog X.w) X.A (eval e X.env) (EP X pins σ Q) X.xe s
noncomputable def PT (X : Cx) (e : Expr) (t : TT) : Prop :=
  ∀ (pins : List (Addr × Obj)) (s : Shared) (σ : St) (H : Hp) (Q : Bool → Hp → Prop), Inv X pins σ H s → t σ H Q → wpAny (model X.prog X.w) X.A (isTrue e X.env (eval e X.env)) (TP X pins σ Q) X.xe s
/-- a test whatever its 'whole' is (and, or) -/
noncomputable def PW (X : Cx) (e : Expr) (t : TT) : Prop :=
  ∀ (whole : Sem Value) (pins : List (Addr × Obj)) (s : Shared) (σ : St) (H : Hp) (Q : Bool → Hp → Prop), Inv X pins σ H s → t σ H Q → wpAny (model X.prog X.w) X.A (isTrue e X.env whole) (TP X pins σ Q) X.xe s
theorem PW.pt {X : Cx} {e : Expr} {t : TT} (h : PW X e t) : PT X e t := h _
/-- an argument list (no star), from the left -/
noncomputable def PA (X : Cx) (es : List Expr) (t : TA) : Prop :=
  ∀ (pos : Pos) (pins : List (Addr × Obj)) (s : Shared) (σ : St) (H : Hp) (Q : List V → Hp → Prop), Inv X pins σ H s → t σ H Q → wpAny (model X.prog X.w) X.A (spliced (backTo pos (starEach es X.env))) (AP X pins σ Q) X.xe s
noncomputable def PS (X : Cx) (st : Stmt) (t : TS) : Prop :=
  ∀ (pins : List (Addr × Obj)) (s : Shared) (σ : St) (H : Hp) (D : Ends), Inv X pins σ H s → t D σ H → wpAny (model X.prog X.w) X.A (exec st X.env) (SP X pins D) X.xe s
noncomputable def PSs (X : Cx) (st : List Stmt) (t : TS) : Prop :=
  ∀ (pins : List (Addr × Obj)) (s : Shared) (σ : St) (H : Hp) (D : Ends), Inv X pins σ H s → t D σ H → wpAny (model X.prog X.w) X.A (execs st X.env) (SP X pins D) X.xe s
/-- weaken the end -/
theorem thn {α : Type} {t : Sem α} {Q Q' : α → Shared → Prop} {M : Model} {A : Around} {E : Value → Shared → Prop} {s : Shared} (h : wpAny M A t Q E s) (hQ : ∀ a s, Q a s → Q' a s) : wpAny M A t Q' E s := wpAny_mono h hQ fun _ _ x => x
end L2

namespace L2
open PySem PySem.Spec PyProof.Rows
section
variable {X : Cx}


/-! ### names and constants -/
noncomputable def tVar (i : Nat) : TE := fun σ H Q => ∃ v, σ[i]? = some (some v) ∧ Q v H
noncomputable def tC (v : V) : TE := fun _ H Q => Q v H
theorem pe_var {i : Nat} {x : Str} {pos : Pos} (hN : X.N[i]? = some x) (hv : Vis X.env.scope x) (hd : (x == ("__debug__" : Str)) = false := by decide) (hcd : (x == ("__classdict__" : Str)) = false := by decide) : PE X (.Name x pos) (tVar i) := by
  intro pins s σ H Q I h
  obtain ⟨v, e, h⟩ := h
  obtain ⟨m, hn, hl⟩ := I.loc
  obtain ⟨u, r, l⟩ := hl i x v hN e hv
  have fin : EP X pins σ Q u s := ⟨v, H, I, r, h⟩
  rcases l with ⟨hk, hm⟩ | ⟨hk, c, hc, hcell⟩
  · exact wpAny_Name (wpAny_loadName_local I.ok.kind hk hn hm fin) hd
  · rcases hk with hk | hk
    · exact wpAny_Name (wpAny_loadName_cell I.ok.kind hk hc hcell fin) hd
    · exact wpAny_Name (wpAny_loadName_free I.ok.kind hk hc hcell fin hcd) hd
theorem pe_int {i j pos} : PE X (.Constant (.int i) j pos) (tC (.int i)) := fun _ _ _ H _ I h => wpAny_Constant_int ⟨.int i, H, I.tok _, ⟨_, rfl⟩, h⟩
theorem pe_bl {b j pos} : PE X (.Constant (.bool b) j pos) (tC (.bl b)) := fun _ _ _ H _ I h => Constant_bool ⟨.bl b, H, I, rfl, h⟩
theorem pe_non {j pos} : PE X (.Constant .none j pos) (tC .non) := fun _ _ _ H _ I h => Constant_none ⟨.non, H, I, rfl, h⟩
theorem pe_str {x j pos} : PE X (.Constant (.str x) j pos) (tC (.str x)) := fun _ _ _ H _ I h => Calls.Constant_str ⟨.str x, H, I.tok _, ⟨_, rfl⟩, h⟩

/-- a global name of the def -/
noncomputable def Gl (X : Cx) (x : Str) : Prop := X.env.kindOf x = some .globalImplicit
theorem ld_glob {E : Value → Shared → Prop} {pins : List (Addr × Obj)} {s : Shared} {σ : St} {H : Hp} {x : Str} {u : Value} {pos : Pos} {Q : Value → Shared → Prop} (I : Inv X pins σ H s) (hg : Gl X x) (hm : X.mg x = some u) (h : Q u s)
    (hd : (x == ("__debug__" : Str)) = false := by decide) : wpAny (model X.prog X.w) X.A (eval (.Name x pos) X.env) Q E s :=
  Calls.Name_function_global I.ok.kind hg (Calls.loadGlobal_global (by rw [I.ok.glob]; exact I.mod.glob.keeps I.bk) hm h) hd
theorem ld_blt {E : Value → Shared → Prop} {pins : List (Addr × Obj)} {s : Shared} {σ : St} {H : Hp} {x : Str} {u : Value} {pos : Pos} {Q : Value → Shared → Prop} (I : Inv X pins σ H s) (hg : Gl X x) (hm : X.mg x = none) (hv : bootBuiltins x = some u) (h : Q u s)
    (hn : x ≠ "__name__" := by decide) (hd : (x == ("__debug__" : Str)) = false := by decide) : wpAny (model X.prog X.w) X.A (eval (.Name x pos) X.env) Q E s := by
  obtain ⟨mb, h1, h2⟩ := I.mod.blt
  exact Calls.Name_function_global I.ok.kind hg (Calls.loadGlobal_builtin (by rw [I.ok.glob]; exact I.mod.glob.keeps I.bk) hm (by rw [I.ok.blt]; exact h1.keeps I.bk) ((h2 x hn).trans hv) h) hd
/-- a module's constant, a class, a function, as a value -/
theorem pe_glob {x : Str} {v : V} {u : Value} {pos : Pos} (hg : Gl X x) (hm : X.mg x = some u) (r : RelV v u) (hd : (x == ("__debug__" : Str)) = false := by decide) : PE X (.Name x pos) (tC v) :=
  fun _ _ _ H _ I h => ld_glob I hg hm ⟨v, H, I, r, h⟩ hd
theorem pe_bltn {x : Str} {v : V} {u : Value} {pos : Pos} (hg : Gl X x) (hm : X.mg x = none) (hv : bootBuiltins x = some u) (r : RelV v u) (hn : x ≠ "__name__" := by decide) (hd : (x == ("__debug__" : Str)) = false := by decide) : PE X (.Name x pos) (tC v) :=
  fun _ _ _ H _ I h => ld_blt I hg hm hv ⟨v, H, I, r, h⟩ hn hd

/-! ### arithmetic -/
variable {a b : Expr} {ta tb : TE} {pos : Pos}

/-! ### comparisons -/
noncomputable def PC (X : Cx) (op : CmpOp) (a b : Expr) (t : TE) : Prop :=
  ∀ (pins : List (Addr × Obj)) (s : Shared) (σ : St) (H : Hp) (Q : VK), Inv X pins σ H s → t σ H Q →
    wpAny (model X.prog X.w) X.A (eval a X.env) (fun v s₁ => wpAny (model X.prog X.w) X.A (eval b X.env) (fun u s₂ => wpAny (model X.prog X.w) X.A (compareOp op v u) (EP X pins σ Q) X.xe s₂) X.xe s₁) X.xe s
theorem nobehind (b : Expr) {op : CmpOp} (h : op ≠ .In) (h2 : op ≠ .NotIn) : behindInMarks op b = false := by
  have e1 : (op == CmpOp.In) = false := by cases op <;> first | rfl | exact absurd rfl h
  have e2 : (op == CmpOp.NotIn) = false := by cases op <;> first | rfl | exact absurd rfl h2
  cases b <;> simp [behindInMarks, e1, e2]
/-- is None -/
noncomputable def tIsN (ta : TE) : TE := fun σ H Q => ta σ H fun x H1 => Q (.bl (decide (x = .non))) H1
theorem RelV.none_iff {x : V} {v : Value} (r : RelV x v) : (v == Value.none) = decide (x = .non) := by
  cases x with
  | non => cases r; rfl
  | bl _ => cases r; rfl
  | int _ => obtain ⟨t, rfl⟩ := r; rfl
  | str _ => obtain ⟨t, rfl⟩ := r; rfl
  | byt _ => obtain ⟨t, rfl⟩ := r; rfl
  | flt _ => obtain ⟨t, rfl⟩ := r; rfl
  | ref _ => cases r; rfl
  | ty _ => cases r; rfl
theorem pc_isN {j pos'} (ha : PE X a ta) : PC X .Is a (.Constant .none j pos') (tIsN ta) := by
  intro pins s σ H Q I h
  refine thn (ha pins s σ H _ I h) fun v s1 ⟨x, H1, I1, r1, q1⟩ => ?_
  exact Constant_none (is_none_gen ⟨.bl _, H1, I1, by rw [r1.none_iff]; rfl, q1⟩)
/-- a comparison as a value, as a test -/
noncomputable def tB (t : TE) : TT := fun σ H Q => t σ H fun x H1 => ∃ c, x = .bl c ∧ Q c H1
theorem pt_cmp {op : CmpOp} {t : TE} (h : PC X op a b t) (h1 : behindInMarks op b = false := by first | exact nobehind _ (by decide) (by decide) | rfl) : PT X (.Compare a [op] [b] pos) (tB t) := by
  intro pins s σ H Q I hw
  refine wpAny_isTrue_Compare1 (thn (h pins s σ H _ I hw) fun v s1 h1 => thn h1 fun u s2 h2 => thn h2 fun c s3 ⟨x, H1, I1, r1, q1⟩ => ?_) h1
  obtain ⟨d, rfl, q⟩ := q1
  cases r1
  exact wpAny_truthy_bool ⟨H1, I1, q⟩
/-- an expression whose value is a bool, as a test -/
theorem pt_val {e : Expr} {t : TE} (h : PE X e t) (he : ∀ whole, isTrue e X.env whole = (do let v ← whole; standAt e.pos; holding [v] (truthy v)) := by intro _; rfl) : PT X e (tB t) := by
  intro pins s σ H Q I hw
  refine isTrue_plain (thn (h pins s σ H _ I hw) fun v s1 ⟨x, H1, I1, r1, q1⟩ => ?_) (he _)
  obtain ⟨d, rfl, q⟩ := q1
  cases r1
  exact wpAny_truthy_bool ⟨H1, I1, q⟩

/-! ### and, or, not -/
variable {tA tB' : TT} {rest : List Expr}
noncomputable def tAnd (t u : TT) : TT := fun σ H Q => t σ H fun c H1 => if c = true then u σ H1 Q else Q false H1
noncomputable def tOr (t u : TT) : TT := fun σ H Q => t σ H fun c H1 => if c = true then Q true H1 else u σ H1 Q
noncomputable def tNot (t : TT) : TT := fun σ H Q => t σ H fun c H1 => Q (!c) H1
theorem pw_and1 (ha : PT X a tA) : PW X (.BoolOp .And [a] pos) tA := by
  intro wh pins s σ H Q I h
  refine isTrue_and (thn (ha pins s σ H Q I h) fun c s1 e => ?_)
  cases c with
  | true => exact isTrue_and_nil e
  | false => exact e
theorem pw_or1 (ha : PT X a tA) : PW X (.BoolOp .Or [a] pos) tA := by
  intro wh pins s σ H Q I h
  refine isTrue_or (thn (ha pins s σ H Q I h) fun c s1 e => ?_)
  cases c with
  | false => exact isTrue_or_nil e
  | true => exact e
theorem pw_and (ha : PT X a tA) (hb : PW X (.BoolOp .And (b :: rest) pos) tB') : PW X (.BoolOp .And (a :: b :: rest) pos) (tAnd tA tB') := by
  intro wh pins s σ H Q I h
  refine isTrue_and (thn (ha pins s σ H _ I h) fun c s1 ⟨H1, I1, q1⟩ => ?_)
  cases c with
  | true => exact hb wh pins s1 σ H1 Q I1 q1
  | false => exact ⟨H1, I1, q1⟩
theorem pw_or (ha : PT X a tA) (hb : PW X (.BoolOp .Or (b :: rest) pos) tB') : PW X (.BoolOp .Or (a :: b :: rest) pos) (tOr tA tB') := by
  intro wh pins s σ H Q I h
  refine isTrue_or (thn (ha pins s σ H _ I h) fun c s1 ⟨H1, I1, q1⟩ => ?_)
  cases c with
  | true => exact ⟨H1, I1, q1⟩
  | false => exact hb wh pins s1 σ H1 Q I1 q1
theorem pt_not (ha : PT X a tA) : PT X (.UnaryOp .Not a pos) (tNot tA) := by
  intro pins s σ H Q I h
  exact isTrue_not (ha pins s σ H (fun c H1 => Q (!c) H1) I h)
/-- .. as values (bools) -/
noncomputable def tAndV (ta tb : TE) : TE := fun σ H Q => ta σ H fun x H1 => ∃ c, x = .bl c ∧ if c = true then tb σ H1 Q else Q (.bl false) H1
noncomputable def tOrV (ta tb : TE) : TE := fun σ H Q => ta σ H fun x H1 => ∃ c, x = .bl c ∧ if c = true then Q (.bl true) H1 else tb σ H1 Q
theorem pe_one {op} {t : TE} (h : PE X a t) : PE X (.BoolOp op [a] pos) t := fun pins s σ H Q I hw => BoolOp_one (h pins s σ H Q I hw)
theorem pe_and (ha : PE X a ta) (hb : PE X (.BoolOp .And (b :: rest) pos) tb) : PE X (.BoolOp .And (a :: b :: rest) pos) (tAndV ta tb) := by
  intro pins s σ H Q I h
  refine BoolOp_and (thn (ha pins s σ H _ I h) fun v s1 ⟨x, H1, I1, r1, q1⟩ => ?_)
  obtain ⟨c, rfl, q1⟩ := q1
  cases r1
  refine wpAny_truthy_bool ?_
  cases c with
  | true => exact hb pins s1 σ H1 Q I1 q1
  | false => exact ⟨.bl false, H1, I1, rfl, q1⟩
theorem pe_or (ha : PE X a ta) (hb : PE X (.BoolOp .Or (b :: rest) pos) tb) : PE X (.BoolOp .Or (a :: b :: rest) pos) (tOrV ta tb) := by
  intro pins s σ H Q I h
  refine BoolOp_or (thn (ha pins s σ H _ I h) fun v s1 ⟨x, H1, I1, r1, q1⟩ => ?_)
  obtain ⟨c, rfl, q1⟩ := q1
  cases r1
  refine wpAny_truthy_bool ?_
  cases c with
  | false => exact hb pins s1 σ H1 Q I1 q1
  | true => exact ⟨.bl true, H1, I1, rfl, q1⟩
end
end L2

namespace L2
open PySem PySem.Spec PyProof.Rows

/-! ### a list, a tuple that is read: tracked, frozen, or an object of the module -/
noncomputable def SqL (K : PySem.W.Frag) (H : Hp) (a : Addr) (xs : List V) : Prop :=
  Rd H a (.lst xs) ∨
    ∃ (o : Obj) (its : Array Value) (n : Nat), K.lookup a = some o ∧ o.cls = .type "list" ∧ o.dict = none ∧ o.data = .seq its n ∧ its.size ≤ sizeLine ∧ Vals xs its.toList
noncomputable def SqT (K : PySem.W.Frag) (H : Hp) (a : Addr) (xs : List V) : Prop :=
  Rd H a (.tup xs) ∨
    ∃ (o : Obj) (its : Array Value) (n : Nat), K.lookup a = some o ∧ o.cls = .type "tuple" ∧ o.data = .seq its n ∧ its.size ≤ sizeLine ∧ Vals xs its.toList
noncomputable def absV : Value → Option V
  | .none => some .non
  | .bool b => some (.bl b)
  | .int i _ => some (.int i)
  | .str x _ => some (.str x)
  | .bytes b _ => some (.byt b)
  | .float b _ => some (.flt b)
  | .ref a => some (.ref a)
  | .type n => some (.ty n)
  | _ => none
theorem RelV.abs {x : V} {u : Value} (r : RelV x u) : absV u = some x := by
  cases x with
  | non => cases r; rfl
  | bl _ => cases r; rfl
  | int _ => obtain ⟨t, rfl⟩ := r; rfl
  | str _ => obtain ⟨t, rfl⟩ := r; rfl
  | byt _ => obtain ⟨t, rfl⟩ := r; rfl
  | flt _ => obtain ⟨t, rfl⟩ := r; rfl
  | ref _ => cases r; rfl
  | ty _ => cases r; rfl
theorem RelV.inj {x y : V} {u : Value} (r : RelV x u) (q : RelV y u) : x = y := Option.some.inj (r.abs.symm.trans q.abs)
theorem Vals.inj : ∀ {xs ys : List V} {us : List Value}, Vals xs us → Vals ys us → xs = ys
  | _, _, _, .nil, .nil => rfl
  | _, _, _, .cons r t, .cons r' t' => by rw [r.inj r', Vals.inj t t']
section
variable {X : Cx} {pins : List (Addr × Obj)} {σ : St} {H : Hp} {s : Shared} {a : Addr} {xs ys : List V}
theorem SqL.of {K : PySem.W.Frag} (h : H a = some (.lst xs)) : SqL K H a xs := .inl (.inl h)
theorem SqT.of {K : PySem.W.Frag} (h : H a = some (.tup xs)) : SqT K H a xs := .inl (.inl h)
theorem Inv.list (I : Inv X pins σ H s) (h : SqL X.K H a xs) : ∃ its : List Value, Vals xs its ∧ PlainL s.heap a its.toArray ∧ xs.length ≤ sizeLine := by
  rcases h with h | ⟨o, its, n, hk, hc, hd, hs, hz, r⟩
  · obtain ⟨z, its, n, r, e⟩ := h.ok I.hok
    exact ⟨its, r, ⟨_, n, e, rfl, rfl, rfl⟩, z⟩
  · refine ⟨its.toList, r, ⟨o, n, I.kIn a o hk, hc, hd, by simpa using hs⟩, ?_⟩
    have e := r.length
    simp only [Array.length_toList] at e
    omega
theorem Inv.tuple (I : Inv X pins σ H s) (h : SqT X.K H a xs) : ∃ its : List Value, Vals xs its ∧ IsTup s.heap a its.toArray ∧ xs.length ≤ sizeLine := by
  rcases h with h | ⟨o, its, n, hk, hc, hs, hz, r⟩
  · obtain ⟨z, its, r, p⟩ := h.ok I.hok
    exact ⟨its, r, p, z⟩
  · refine ⟨its.toList, r, ⟨o, I.kIn a o hk, hc, n, by simpa using hs⟩, ?_⟩
    have e := r.length
    simp only [Array.length_toList] at e
    omega
theorem Inv.list_inj (I : Inv X pins σ H s) (h : SqL X.K H a xs) (h' : SqL X.K H a ys) : xs = ys := by
  obtain ⟨its, r, ⟨o, n, e, _, _, d⟩, _⟩ := I.list h
  obtain ⟨its', r', ⟨o', n', e', _, _, d'⟩, _⟩ := I.list h'
  rw [e] at e'; cases e'
  rw [d] at d'
  injection d' with d1 _
  have : its = its' := by simpa using congrArg Array.toList d1
  subst this
  exact r.inj r'
theorem Inv.tuple_inj (I : Inv X pins σ H s) (h : SqT X.K H a xs) (h' : SqT X.K H a ys) : xs = ys := by
  obtain ⟨its, r, ⟨o, e, _, n, d⟩, _⟩ := I.tuple h
  obtain ⟨its', r', ⟨o', e', _, n', d'⟩, _⟩ := I.tuple h'
  rw [e] at e'; cases e'
  rw [d] at d'
  injection d' with d1 _
  have : its = its' := by simpa using congrArg Array.toList d1
  subst this
  exact r.inj r'
end

/-! ### another wish about exceptions -/
noncomputable abbrev Cx.wish (X : Cx) (E : Value → Shared → Prop) : Cx := { X with xe := E }
/-- no exception leaves -/
noncomputable abbrev Cx.nox (X : Cx) : Cx := X.wish fun _ _ => False
theorem Cx.Ok.wish {X : Cx} (ok : X.Ok) (E : Value → Shared → Prop) : (X.wish E).Ok :=
  ⟨ok.mod, ok.kind, ok.glob, ok.blt, ok.above, ok.inj, ok.has, ok.cab, ok.hd, ok.frames, ok.stk, ok.exf, ok.bs, ok.bsz, ok.noex, ok.exfs, ok.funs, ok.frf⟩
theorem Cx.Ok.unwish {X : Cx} {E : Value → Shared → Prop} (ok : (X.wish E).Ok) : X.Ok :=
  ⟨ok.mod, ok.kind, ok.glob, ok.blt, ok.above, ok.inj, ok.has, ok.cab, ok.hd, ok.frames, ok.stk, ok.exf, ok.bs, ok.bsz, ok.noex, ok.exfs, ok.funs, ok.frf⟩
section
variable {X : Cx} {pins : List (Addr × Obj)} {σ : St} {H : Hp} {s : Shared} {E : Value → Shared → Prop}
theorem Inv.wish (I : Inv X pins σ H s) (E : Value → Shared → Prop) : Inv (X.wish E) pins σ H s := ⟨I.ok.wish E, I.os, I.bare, I.base, I.loc, I.cell, I.free, I.freeC, I.pin, I.hok, I.len⟩
theorem Inv.unwish (I : Inv (X.wish E) pins σ H s) : Inv X pins σ H s := ⟨I.ok.unwish, I.os, I.bare, I.base, I.loc, I.cell, I.free, I.freeC, I.pin, I.hok, I.len⟩
theorem SP.unwish {D : Ends} {f : Flow} {s' : Shared} (h : SP (X.wish E) pins D f s') : SP X pins D f s' := by
  cases f with
  | next => obtain ⟨σ', H', I, q⟩ := h; exact ⟨σ', H', I.unwish, q⟩
  | brk => obtain ⟨σ', H', I, q⟩ := h; exact ⟨σ', H', I.unwish, q⟩
  | cont => obtain ⟨σ', H', I, q⟩ := h; exact ⟨σ', H', I.unwish, q⟩
  | ret u => obtain ⟨v, σ', H', I, r, q⟩ := h; exact ⟨v, σ', H', I.unwish, r, q⟩
theorem PE.nox {e : Expr} {t : TE} (h : PE X.nox e t) : PE X e t := fun pins s σ H Q I hw =>
  wpAny_mono (h pins s σ H Q (I.wish _) hw) (fun _ _ ⟨v, H', I', r, q⟩ => ⟨v, H', I'.unwish, r, q⟩) fun _ _ z => False.elim z
theorem PT.nox {e : Expr} {t : TT} (h : PT X.nox e t) : PT X e t := fun pins s σ H Q I hw =>
  wpAny_mono (h pins s σ H Q (I.wish _) hw) (fun _ _ ⟨H', I', q⟩ => ⟨H', I'.unwish, q⟩) fun _ _ z => False.elim z
theorem PSs.nox {st : List Stmt} {t : TS} (h : PSs X.nox st t) : PSs X st t := fun pins s σ H D I hw =>
  wpAny_mono (h pins s σ H D (I.wish _) hw) (fun _ _ q => q.unwish) fun _ _ z => False.elim z
end

/-! ### blocks and small statements -/
section
variable {X : Cx} {st : Stmt} {rest : List Stmt} {t u : TS} {e : Expr} {te : TE} {pos : Pos}
noncomputable def tNext : TS := fun D σ H => D.nx σ H
noncomputable def tSeq (t u : TS) : TS := fun D σ H => t { D with nx := u D } σ H
theorem pss_nil : PSs X [] tNext := fun _ _ σ H _ I h => wpAny_execs_nil ⟨σ, H, I, h⟩
theorem pss_cons (h1 : PS X st t) (h2 : PSs X rest u) : PSs X (st :: rest) (tSeq t u) := by
  intro pins s σ H D I h
  refine wpAny_execs_cons (thn (h1 pins s σ H { D with nx := u D } I h) fun f s1 q => ?_)
  cases f with
  | next =>
    obtain ⟨σ', H', I', q⟩ := q
    exact h2 pins s1 σ' H' D I' q
  | ret v => exact q
  | brk => exact q
  | cont => exact q
theorem pss_one (h1 : PS X st t) : PSs X [st] t := by
  intro pins s σ H D I h
  refine wpAny_execs_cons (thn (h1 pins s σ H D I h) fun f s1 q => ?_)
  cases f with
  | next => exact wpAny_execs_nil q
  | ret v => exact q
  | brk => exact q
  | cont => exact q
/-- in a def's body nothing is shown -/
theorem Inv.quiet {pins : List (Addr × Obj)} {σ : St} {H : Hp} {s : Shared} (I : Inv X pins σ H s) : interactive X.env = false := by simp [interactive, I.ok.kind]
/-- an expression whose value is dropped -/
noncomputable def tDrop (te : TE) : TS := fun D σ H => te σ H fun _ H1 => D.nx σ H1
theorem ps_expr (he : PE X e te) (hs : swapsWith e none pos.line X.env = pure false := by rfl) : PS X (.Expr e pos) (tDrop te) := by
  intro pins s σ H D I h
  exact wpAny_Expr_any (thn (he pins s σ H _ I h) fun v s1 ⟨x, H1, I1, r1, q1⟩ => ⟨σ, H1, I1, q1⟩) I.quiet hs
noncomputable def tRet (te : TE) : TS := fun D σ H => te σ H D.rt
theorem ps_ret (he : PE X e te) : PS X (.Return (some e) pos) (tRet te) := by
  intro pins s σ H D I h
  exact wpAny_Return_some (thn (he pins s σ H _ I h) fun v s1 ⟨x, H1, I1, r1, q1⟩ => ⟨x, σ, H1, I1, r1, q1⟩)
noncomputable def tIfS (c : TT) (t u : TS) : TS := fun D σ H => c σ H fun b H1 => if b = true then t D σ H1 else u D σ H1
theorem ps_if {c : Expr} {a b : List Stmt} {tc : TT} (hc : PT X c tc) (ha : PSs X a t) (hb : PSs X b u) : PS X (.If c a b pos) (tIfS tc t u) := by
  intro pins s σ H D I h
  refine wpAny_If (thn (hc pins s σ H _ I h) fun d s1 ⟨H1, I1, q1⟩ => ?_)
  cases d with
  | true => exact ha pins s1 σ H1 D I1 q1
  | false => exact hb pins s1 σ H1 D I1 q1
end

/-! ### targets -/
noncomputable abbrev TG := V → St → Hp → (St → Hp → Prop) → Prop
noncomputable abbrev TGs := List V → St → Hp → (St → Hp → Prop) → Prop
noncomputable def PG (X : Cx) (target : Expr) (t : TG) : Prop :=
  ∀ (pins : List (Addr × Obj)) (s : Shared) (σ : St) (H : Hp) (v : V) (u : Value) (Q : St → Hp → Prop), Inv X pins σ H s → RelV v u → t v σ H Q →
    wpAny (model X.prog X.w) X.A (assign target X.env u) (fun _ s' => ∃ σ' H', Inv X pins σ' H' s' ∧ Q σ' H') X.xe s
/-- several targets, one after another -/
noncomputable def PGs (X : Cx) (ts : List Expr) (t : TGs) : Prop :=
  ∀ (pins : List (Addr × Obj)) (s : Shared) (σ : St) (H : Hp) (vs : List V) (us : List Value) (Q : St → Hp → Prop), Inv X pins σ H s → Vals vs us → t vs σ H Q →
    wpAny (model X.prog X.w) X.A (assignInOrder ((assignEach ts X.env).map (·.2)) us) (fun _ s' => ∃ σ' H', Inv X pins σ' H' s' ∧ Q σ' H') X.xe s
/-- o[i] = v, by values -/
noncomputable abbrev TSet := V → V → V → Hp → (Hp → Prop) → Prop
noncomputable def PSet (X : Cx) (t : TSet) : Prop :=
  ∀ (pins : List (Addr × Obj)) (s : Shared) (σ : St) (H : Hp) (o i v : V) (ov iv u : Value) (Q : Hp → Prop), Inv X pins σ H s → RelV o ov → RelV i iv → RelV v u → t o i v H Q →
    wpAny (model X.prog X.w) X.A (setItem ov iv u) (fun _ s' => ∃ H', Inv X pins σ H' s' ∧ Q H') X.xe s
section
variable {X : Cx} {pos : Pos}
noncomputable def gName (i : Nat) : TG := fun v σ H Q => Q (σ.set i (some v)) H
theorem pg_name {i : Nat} {x : Str} (hN : X.N.Nodup) (hi : X.N[i]? = some x) (hx : Loc X.env.scope x) (hf : X.fn x = true ∨ X.env.scope.names.lookup x = some .local := by first | exact .inl rfl | exact .inr rfl | assumption) : PG X (.Name x pos) (gName i) := by
  intro pins s σ H v u Q I r h
  exact wpAny_assign_Name (store_ok I hN hi hx r (fun s' I' => ⟨_, H, I', h⟩) hf)
noncomputable def gNil : TGs := fun vs σ H Q => vs = [] ∧ Q σ H
noncomputable def gCons (t : TG) (u : TGs) : TGs := fun vs σ H Q => ∃ v r, vs = v :: r ∧ t v σ H fun σ' H' => u r σ' H' Q
theorem pgs_nil : PGs X [] gNil := by
  intro pins s σ H vs us Q I r h
  obtain ⟨e, h⟩ := h
  subst e
  cases r
  exact assignInOrder_nil ⟨σ, H, I, h⟩
theorem pgs_cons {e : Expr} {es : List Expr} {t : TG} {u : TGs} (h1 : PG X e t) (h2 : PGs X es u)
    (hs : (assignEach (e :: es) X.env).map (·.2) = assign e X.env :: (assignEach es X.env).map (·.2) := by rfl) : PGs X (e :: es) (gCons t u) := by
  intro pins s σ H vs us Q I r h
  obtain ⟨v, vr, e1, h⟩ := h
  subst e1
  cases r with
  | cons r rr =>
    rw [hs]
    refine assignInOrder_cons (thn (h1 pins s σ H _ _ _ I r h) fun _ s1 ⟨σ1, H1, I1, q1⟩ => ?_)
    exact h2 pins s1 σ1 H1 _ _ Q I1 rr q1
/-- (a, b, ..) = a tuple of that length -/
noncomputable def gTup (K : PySem.W.Frag) (n : Nat) (t : TGs) : TG := fun v σ H Q => ∃ a xs, v = .ref a ∧ SqT K H a xs ∧ xs.length = n ∧ t xs σ H Q
theorem pg_tup {es : List Expr} {k : Nat} {t : TGs} {n : Nat} (hc : X.calm = true) (h : PGs X es t)
    (hn : (assignEach es X.env).length = n := by rfl) (hst : (assignEach es X.env).findIdx? (·.1) = none := by rfl) : PG X (.Tuple es k pos) (gTup X.K n t) := by
  intro pins s σ H v u Q I r hw
  obtain ⟨a, xs, e1, hq, hl, hw⟩ := hw
  subst e1
  cases r
  obtain ⟨its, rv, ht, hz⟩ := I.tuple hq
  refine assign_Tuple_tuple (I.ok.hd hc) ht (by simp [hn, ← hl, rv.length]) hst fun h' hx => ?_
  have I1 : Inv X pins σ H { s with heap := h' } := I.kept (t' := s.toks) fun b o e => hx b o (Nat.ne_of_lt (Heap.lt_size e)) e
  exact h pins _ σ H xs _ Q I1 (by simpa using rv) hw
/-- o[i] = .. -/
noncomputable def gSub (to ti : TE) (t : TSet) : TG := fun v σ H Q => to σ H fun o H1 => ti σ H1 fun i H2 => t o i v H2 fun H3 => Q σ H3
theorem pg_sub {o i : Expr} {to ti : TE} {t : TSet} (ho : PE X o to) (hi : PE X i ti) (hs : PSet X t)
    (ha : ∀ v, assign (.Subscript o i pos) X.env v = (do
      let ov ← holding [v] (eval o X.env)
      let iv ← holding [v, ov] (eval i X.env)
      standAt pos
      holding [v, ov, iv] (setItem ov iv v)
      release [v, ov, iv] []) := by intro _; rfl) : PG X (.Subscript o i pos) (gSub to ti t) := by
  intro pins s σ H v u Q I r h
  rw [ha]
  refine wpAny_bind (wpAny_holding (thn (ho pins s σ H _ I h) fun ov s1 ⟨x, H1, I1, r1, q1⟩ => ?_))
  refine wpAny_bind (wpAny_holding (thn (hi pins s1 σ H1 _ I1 q1) fun iv s2 ⟨y, H2, I2, r2, q2⟩ => ?_))
  refine wpAny_bind (wpAny_standAt (wpAny_bind (wpAny_holding (thn (hs pins s2 σ H2 x y v ov iv u _ I2 r1 r2 r q2) fun _ s3 ⟨H3, I3, q3⟩ => ?_))))
  exact wpAny_release ⟨σ, H3, I3, q3⟩
/-- target = value -/
noncomputable def tAsg (te : TE) (g : TG) : TS := fun D σ H => te σ H fun x H1 => g x σ H1 D.nx
theorem ps_asg {tg e : Expr} {te : TE} {g : TG} (he : PE X e te) (hg : PG X tg g) (hs : swapsWithSole [tg] e pos.line X.env = pure false := by rfl) (hw : swappedStores [tg] e X.env = pure none := by rfl)
    (h1 : (assignEach [tg] X.env).map (·.2) = [assign tg X.env] := by rfl) : PS X (.Assign [tg] e pos) (tAsg te g) := by
  intro pins s σ H D I h
  refine wpAny_Assign_stores (thn (he pins s σ H _ I h) fun v s1 ⟨x, H1, I1, r1, q1⟩ => ?_) hs hw
  rw [h1]
  exact thn (hg pins s1 σ H1 x v _ I1 r1 q1) fun _ s2 q => q
/-- name = value -/
theorem ps_set {i : Nat} {x : Str} {e : Expr} {te : TE} {pos' : Pos} (hN : X.N.Nodup) (hi : X.N[i]? = some x) (hx : Loc X.env.scope x) (he : PE X e te) (hs : swapsWith e (some (.Name x pos')) pos.line X.env = pure false := by rfl) (hf : X.fn x = true ∨ X.env.scope.names.lookup x = some .local := by first | exact .inl rfl | exact .inr rfl | assumption) :
    PS X (.Assign [.Name x pos'] e pos) (tAsg te (gName i)) := by
  intro pins s σ H D I h
  refine wpAny_Assign_Name (thn (he pins s σ H _ I h) fun v s1 ⟨y, H1, I1, r1, q1⟩ => ?_) hs
  exact store_ok I1 hN hi hx r1 (fun s2 I2 => ⟨_, H1, I2, q1⟩) hf
end

/-! ### while -/
section
variable {X : Cx} {pos : Pos}
end

/-! ### what a loop or a comprehension walks -/
/-- at turn i: it yields x (the heap may grow), or it stops -/
structure It where
  go : Nat → Hp → Prop
  yld : Nat → Hp → V → Hp → Prop
  stop : Nat → Hp → Prop
/-- the iterator's own objects may turn: they are not the frame's, not pinned, younger than the entry (or a comprehension's own) -/
noncomputable def FpOk (X : Cx) (pins : List (Addr × Obj)) (H : Hp) (b : Addr) : Prop :=
  H b = none ∧ b ≠ X.env.locals ∧ b ∉ X.fs ∧ (b ∈ X.ex ∨ X.s₀.heap.objs.size ≤ b) ∧ (∀ x c, X.env.cells.lookup x = some c → c ≠ b) ∧ ∀ p ∈ X.pn ++ pins, p.1 ≠ b
theorem Inv.fpOk {X : Cx} {pins : List (Addr × Obj)} {σ : St} {H H' : Hp} {s : Shared} {b : Addr} (I : Inv X pins σ H s) (hb : s.heap.objs.size ≤ b) (hn : H' b = none) : FpOk X pins H' b := by
  refine ⟨hn, Nat.ne_of_gt (Nat.lt_of_lt_of_le I.lt hb), I.nofs hb, .inr (Nat.le_trans I.sz hb), fun x c e z => ?_, fun p hp z => ?_⟩
  · obtain ⟨v, q⟩ := I.cell x c e
    exact absurd (Nat.lt_of_lt_of_le q.lt (by rw [z]; exact hb)) (Nat.lt_irrefl _)
  · exact absurd (Nat.lt_of_lt_of_le (Heap.lt_size (I.pin p hp).1) (by rw [z]; exact hb)) (Nat.lt_irrefl _)
structure Turn (P : Program) (w : World) (K : PySem.W.Frag) (tg : Expr) (J : It) (fp : List Addr) (it : Addr) (tn : Nat → Heap → Prop) : Prop where
  mem : it ∈ fp
  obj : ∀ i h, tn i h → ∀ b ∈ fp, ∃ o, h.get? b = some o ∧ ∀ v, o.data ≠ .cell v
  keep : ∀ i h h', tn i h → (∀ b ∈ fp, ∀ o, h.get? b = some o → h'.get? b = some o) → tn i h'
  item : ∀ (X : Cx), X.prog = P → X.w = w → X.K = K → X.calm = true → ∀ (i : Nat) (pins : List (Addr × Obj)) (s : Shared) (σ : St) (H : Hp) (E : Value → Shared → Prop), Inv X pins σ H s → (∀ b ∈ fp, FpOk X pins H b) → tn i s.heap → J.go i H →
    wpAny (model P w) X.A (pyNext (.ref it)) (fun r s1 => ∃ u, r = some u ∧
      wpAny (model P w) X.A (letOwnedTupleGo tg (.ref it) u) (fun _ s2 => ∃ x H', Inv X pins σ H' s2 ∧ RelV x u ∧ J.yld i H x H' ∧ tn (i + 1) s2.heap ∧ ∀ b ∈ fp, H' b = none) E s1) E s
  done : ∀ (X : Cx), X.prog = P → X.w = w → X.K = K → X.calm = true → ∀ (i : Nat) (pins : List (Addr × Obj)) (s : Shared) (σ : St) (H : Hp) (E : Value → Shared → Prop), Inv X pins σ H s → (∀ b ∈ fp, FpOk X pins H b) → tn i s.heap → J.stop i H →
    wpAny (model P w) X.A (pyNext (.ref it)) (fun r s1 => r = none ∧ Inv X pins σ H s1) E s
  self : ∀ (A : Around) (i : Nat) (s : Shared) (Q : Value → Shared → Prop) (E : Value → Shared → Prop), tn i s.heap → Q (.ref it) s → wpAny (model P w) A (pyIter (.ref it)) Q E s
noncomputable abbrev TI := St → Hp → (It → Hp → Prop) → Prop
/-- an iterator has come -/
noncomputable def PIE (X : Cx) (pins : List (Addr × Obj)) (σ : St) (tg : Expr) (R : It → Hp → Prop) (itv : Value) (s2 : Shared) : Prop :=
  ∃ (it : Addr) (fp : List Addr) (tn : Nat → Heap → Prop) (J : It) (H' : Hp), itv = .ref it ∧ Inv X pins σ H' s2 ∧ Turn X.prog X.w X.K tg J fp it tn ∧ tn 0 s2.heap ∧ (∀ b ∈ fp, FpOk X pins H' b) ∧ R J H'
noncomputable def PI (X : Cx) (tg iter : Expr) (wi : TI) : Prop :=
  ∀ (pins : List (Addr × Obj)) (s : Shared) (σ : St) (H : Hp) (R : It → Hp → Prop), Inv X pins σ H s → wi σ H R →
    wpAny (model X.prog X.w) X.A (eval iter X.env) (fun v s1 => wpAny (model X.prog X.w) X.A (pyIter v) (PIE X pins σ tg R) X.xe s1) X.xe s

/-- the step ahead of the store is nothing for an iterator that keeps no tuple -/
theorem go_of {M : Model} {A : Around} {E : Value → Shared → Prop} {s : Shared} {tg : Expr} {it : Addr} {u : Value} {o : Obj} {n : String} {vs : Array Value} {Q : Unit → Shared → Prop} (ho : s.heap.get? it = some o) (hc : o.cls = .type n) (hd : o.data = .fields vs)
    (hn : ["enumerate", "zip", "dict_itemiterator", "dict_reverseitemiterator", "odict_iterator", "itertools.zip_longest", "itertools.pairwise"].contains n = false) (hQ : Q () s) : wpAny M A (letOwnedTupleGo tg (.ref it) u) Q E s := by
  unfold letOwnedTupleGo
  cases tg <;> first
    | exact wpAny_pure hQ
    | (cases u <;> first
        | exact wpAny_pure hQ
        | (refine wpAny_bind (wpAny_load ho ?_)
           rw [hc, hd]
           show wpAny M A (if (["enumerate", "zip", "dict_itemiterator", "dict_reverseitemiterator", "odict_iterator", "itertools.zip_longest", "itertools.pairwise"].contains n && vs[0]? == some (rawInt _)) = true then _ else _) Q E s
           rw [if_neg (by intro h; rw [hn, Bool.false_and] at h; cases h)]
           exact wpAny_pure hQ))

/-- the list at a, as it stands at each turn (a loop may append to it) -/
noncomputable def Itl (K : PySem.W.Frag) (a : Addr) : It :=
  ⟨fun i H => ∃ xs x, SqL K H a xs ∧ xs[i]? = some x, fun i H x H' => H' = H ∧ ∀ xs, SqL K H a xs → xs[i]? = some x, fun i H => ∃ xs, SqL K H a xs ∧ xs.length ≤ i⟩
noncomputable def Itt (K : PySem.W.Frag) (a : Addr) : It :=
  ⟨fun i H => ∃ xs x, SqT K H a xs ∧ xs[i]? = some x, fun i H x H' => H' = H ∧ ∀ xs, SqT K H a xs → xs[i]? = some x, fun i H => ∃ xs, SqT K H a xs ∧ xs.length ≤ i⟩
/-- lo, lo + 1, .. (n of them) -/
noncomputable def Itr (lo : Int) (n : Nat) : It := ⟨fun i _ => i < n, fun i H x H' => H' = H ∧ x = .int (lo + i), fun i _ => n ≤ i⟩
theorem turn_list {P : Program} {w : World} {K : PySem.W.Frag} {tg : Expr} (a it : Addr) : Turn P w K tg (Itl K a) [it] it (fun i h => h.IsListIter it a i) where
  mem := by simp
  obj := fun i h st b hb => by
    have e : b = it := by simpa using hb
    subst e
    obtain ⟨o, e, c, d⟩ := st
    exact ⟨o, e, fun v z => by rw [d] at z; cases z⟩
  keep := fun i h h' st k => st.at fun o e => k it (by simp) o e
  item := by
    intro X hP hw hK hc i pins s σ H E I hf st hg
    subst hP hw hK
    obtain ⟨xs, x, hq, hx⟩ := hg
    obtain ⟨its, rv, p, hz⟩ := I.list hq
    obtain ⟨u, hu, ru⟩ := rv.get hx
    obtain ⟨f0, f1, f2, f3, f4, f5⟩ := hf it (by simp)
    refine wpAny_pyNext_list_item st p.isList (x := u) (by simpa using hu) fun h' st' sb => ?_
    have I1 : Inv X pins σ H { s with heap := h' } := I.turned (t' := s.toks) (fun b o hb e => (sb.2 b hb).trans e) f0 f1 f3 f4 f5
    obtain ⟨o, e, c, d⟩ := id st'
    exact ⟨u, rfl, go_of (s := { s with heap := h' }) e c d (by decide) ⟨x, H, I1, ru, ⟨rfl, fun ys hy => by rw [I.list_inj hy hq]; exact hx⟩, st', fun b hb => (hf b hb).1⟩⟩
  done := by
    intro X hP hw hK hc i pins s σ H E I hf st hg
    subst hP hw hK
    obtain ⟨xs, hq, hx⟩ := hg
    obtain ⟨its, rv, p, hz⟩ := I.list hq
    obtain ⟨f0, f1, f2, f3, f4, f5⟩ := hf it (by simp)
    have hl := rv.length
    exact wpAny_pyNext_list_end (I.ok.hd hc) st p.isList (by simp; omega) fun h' eb => ⟨rfl, I.turned (t' := s.toks) (fun b o hb e => eb b o hb e) f0 f1 f3 f4 f5⟩
  self := fun _ _ _ _ _ st h => wpAny_pyIter_listiter st h
theorem turn_tuple {P : Program} {w : World} {K : PySem.W.Frag} {tg : Expr} (a it : Addr) : Turn P w K tg (Itt K a) [it] it (fun i h => h.IsTupleIter it a i) where
  mem := by simp
  obj := fun i h st b hb => by
    have e : b = it := by simpa using hb
    subst e
    obtain ⟨o, e, c, d⟩ := st
    exact ⟨o, e, fun v z => by rw [d] at z; cases z⟩
  keep := fun i h h' st k => st.at fun o e => k it (by simp) o e
  item := by
    intro X hP hw hK hc i pins s σ H E I hf st hg
    subst hP hw hK
    obtain ⟨xs, x, hq, hx⟩ := hg
    obtain ⟨its, rv, p, hz⟩ := I.tuple hq
    obtain ⟨u, hu, ru⟩ := rv.get hx
    obtain ⟨f0, f1, f2, f3, f4, f5⟩ := hf it (by simp)
    refine wpAny_pyNext_tuple_item st (show s.heap.IsTuple a its.toArray from p) (x := u) (by simpa using hu) fun h' st' sb => ?_
    have I1 : Inv X pins σ H { s with heap := h' } := I.turned (t' := s.toks) (fun b o hb e => (sb.2 b hb).trans e) f0 f1 f3 f4 f5
    obtain ⟨o, e, c, d⟩ := id st'
    exact ⟨u, rfl, go_of (s := { s with heap := h' }) e c d (by decide) ⟨x, H, I1, ru, ⟨rfl, fun ys hy => by rw [I.tuple_inj hy hq]; exact hx⟩, st', fun b hb => (hf b hb).1⟩⟩
  done := by
    intro X hP hw hK hc i pins s σ H E I hf st hg
    subst hP hw hK
    obtain ⟨xs, hq, hx⟩ := hg
    obtain ⟨its, rv, p, hz⟩ := I.tuple hq
    obtain ⟨f0, f1, f2, f3, f4, f5⟩ := hf it (by simp)
    have hl := rv.length
    exact wpAny_pyNext_tuple_end (I.ok.hd hc) st (show s.heap.IsTuple a its.toArray from p) (by simp; omega) fun h' eb => ⟨rfl, I.turned (t' := s.toks) (fun b o hb e => eb b o hb e) f0 f1 f3 f4 f5⟩
  self := fun _ _ _ _ _ st h => wpAny_pyIter_tupleiter st h
theorem turn_range {P : Program} {w : World} {K : PySem.W.Frag} {tg : Expr} (it : Addr) (lo : Int) (n : Nat) : Turn P w K tg (Itr lo n) [it] it (fun i h => IsRangeIter h it (lo + (i : Nat) * 1) ((n : Int) - (i : Nat)) 1) where
  mem := by simp
  obj := fun i h st b hb => by
    have e : b = it := by simpa using hb
    subst e
    exact ⟨_, st, fun v z => by
      have z' : Data.fields _ = Data.cell v := z
      cases z'⟩
  keep := fun i h h' st k => k it (by simp) _ st
  item := by
    intro X hP hw hK hc i pins s σ H E I hf st hg
    subst hP hw hK
    obtain ⟨f0, f1, f2, f3, f4, f5⟩ := hf it (by simp)
    have W := Walks.range (prog := X.prog) (w := X.w) (I.ok.hd hc) it lo 1 n
    refine W.item i s _ _ hg st fun v h' tk hv st' kk => ?_
    obtain ⟨t, rfl⟩ := hv
    have I1 : Inv X pins σ H { s with heap := h', toks := tk } := I.turned (fun b o hb e => kk b o (by simpa using hb) e) f0 f1 f3 f4 f5
    refine ⟨_, rfl, go_of (s := { s with heap := h', toks := tk }) (n := "range_iterator") st' rfl rfl (by decide) ⟨.int (lo + i), H, I1, ⟨t, ?_⟩, ⟨rfl, rfl⟩, st', fun b hb => (hf b hb).1⟩⟩
    rw [Int.mul_one]
  done := by
    intro X hP hw hK hc i pins s σ H E I hf st hg
    subst hP hw hK
    obtain ⟨f0, f1, f2, f3, f4, f5⟩ := hf it (by simp)
    exact wpAny_pyNext_range_end (I.ok.hd hc) st (by have : n ≤ i := hg; omega) fun h' eb => ⟨rfl, I.turned (t' := s.toks) (fun b o hb e => eb b o hb e) f0 f1 f3 f4 f5⟩
  self := fun _ _ _ _ _ st h => wpAny_pyIter_rangeiter st h
end L2

namespace L2
open PySem PySem.Spec PyProof.Rows
section
variable {X : Cx} {tg : Expr}
/-- a range object just made, walked -/
theorem range_it {pins : List (Addr × Obj)} {σ : St} {H : Hp} {s : Shared} {R : It → Hp → Prop} {E : Value → Shared → Prop} {lo hi : Int} {t u v : Tok} {tk : Nat} (I : Inv X pins σ H s) (h1 : -(2 ^ 62) ≤ lo) (h2 : lo < 2 ^ 62) (h3 : -(2 ^ 62) ≤ hi) (h4 : hi < 2 ^ 62)
    (q : R (Itr lo (hi - lo).toNat) H) : wpAny (model X.prog X.w) X.A (pyIter (.ref s.heap.objs.size)) (PIE X pins σ tg R) E { s with heap := s.heap.push { cls := .type "range", data := .fields #[.int lo t, .int hi u, .int 1 v] }, toks := tk } := by
  refine wpAny_pyIter_range (IsRange.new ..) (small_one h1 h2 h3 h4) ?_
  have I1 : Inv X pins σ H { s with heap := s.heap.push { cls := .type "range", data := .fields #[.int lo t, .int hi u, .int 1 v] }, toks := tk } := I.kept fun b o e => Heap.get?_push_of_some _ e
  refine ⟨(s.heap.push { cls := .type "range", data := .fields #[.int lo t, .int hi u, .int 1 v] }).objs.size, [(s.heap.push { cls := .type "range", data := .fields #[.int lo t, .int hi u, .int 1 v] }).objs.size], _, _, H, rfl,
    I1.kept (t' := tk) fun b o e => Heap.get?_push_of_some _ e, turn_range _ lo (hi - lo).toNat, ?_, fun b hb => ?_, q⟩
  · have e1 : lo + ((0 : Nat) : Int) * 1 = lo := by simp
    have e2 : (((hi - lo).toNat : Nat) : Int) - ((0 : Nat) : Int) = Builtin.Range.rangeSize lo hi 1 := by rw [rangeSize_one]; split <;> omega
    show IsRangeIter _ _ (lo + ((0 : Nat) : Int) * 1) ((((hi - lo).toNat : Nat) : Int) - ((0 : Nat) : Int)) 1
    rw [e1, e2]
    exact Heap.get?_push_size _ rfl
  · have e : b = (s.heap.push { cls := .type "range", data := .fields #[.int lo t, .int hi u, .int 1 v] }).objs.size := by simpa using hb
    subst e
    exact I1.fpOk (Nat.le_refl _) (I1.hok.fresh (Nat.le_refl _))
noncomputable def iRng1 (ta : TA) : TI := fun σ H R => ta σ H fun vs H1 => ∃ j : Int, vs = [.int j] ∧ -(2 ^ 62) ≤ j ∧ j < 2 ^ 62 ∧ R (Itr 0 j.toNat) H1
theorem pi_range1 {a : Expr} {ta : TA} {p pos : Pos} (hg : Gl X "range") (hm : X.mg "range" = none) (ha : PA X [a] ta) (hs : starEach [a] X.env = [(false, eval a X.env)] := by rfl) : PI X tg (.Call (.Name "range" p) [a] [] pos) (iRng1 ta) := by
  intro pins s σ H R I h
  refine Call_ (ld_blt I hg hm boot_range (PyProof.Rows.callWith_type1 (thn (ha pos pins s σ H _ I h) fun us s1 ⟨vs, H1, I1, r1, q1⟩ => ?_) hs rfl))
  obtain ⟨j, e, q1, q2, q⟩ := q1
  subst e
  cases r1 with
  | cons r rr =>
    cases rr
    obtain ⟨t, rfl⟩ := r
    exact call_range_1 (range_it I1 (by omega) (by omega) q1 q2 (by simpa using q))

/-! ### for -/
/-- W: the invariant by the turn and a measure; N: what the body is to reach -/
noncomputable def tFor (wi : TI) (g : TG) (tb : TS) : TS := fun D σ H => wi σ H fun J H1 => ∃ W : Nat → Nat → St → Hp → Prop, (∃ m, W 0 m σ H1) ∧ ∀ i m σ H, W i m σ H →
  (J.stop i H ∧ D.nx σ H) ∨ (J.go i H ∧ ∃ N : St → Hp → Prop, (∀ σ' H', N σ' H' → ∃ m', m' < m ∧ W (i + 1) m' σ' H') ∧ ∀ x H', J.yld i H x H' → g x σ H' fun σ2 H2 => tb { D with nx := N, ct := N, bk := D.nx } σ2 H2)
/-- the records at fp as they stand -/
noncomputable def pinsAt (fp : List Addr) (h : Heap) : List (Addr × Obj) := fp.filterMap fun b => (h.get? b).map fun o => (b, o)
theorem mem_pinsAt {fp : List Addr} {h : Heap} {b : Addr} {o : Obj} (hb : b ∈ fp) (e : h.get? b = some o) : (b, o) ∈ pinsAt fp h := List.mem_filterMap.mpr ⟨b, hb, by rw [e]; rfl⟩
theorem of_pinsAt {fp : List Addr} {h : Heap} {p : Addr × Obj} (hp : p ∈ pinsAt fp h) : p.1 ∈ fp ∧ h.get? p.1 = some p.2 := by
  obtain ⟨b, hb, e⟩ := List.mem_filterMap.mp hp
  cases q : h.get? b with
  | none => rw [q] at e; cases e
  | some o =>
    rw [q] at e
    have e' : (b, o) = p := Option.some.inj e
    subst e'
    exact ⟨hb, q⟩
theorem Inv.pinned {pins : List (Addr × Obj)} {σ : St} {H : Hp} {s : Shared} {fp : List Addr} (I : Inv X pins σ H s) (hf : ∀ b ∈ fp, FpOk X pins H b) (ho : ∀ b ∈ fp, ∃ o, s.heap.get? b = some o ∧ ∀ v, o.data ≠ .cell v) : Inv X (pins ++ pinsAt fp s.heap) σ H s :=
  I.pins_of fun p hp => (List.mem_append.mp hp).elim (fun z => I.pin p (List.mem_append_right _ z)) fun z => by
    obtain ⟨hb, e⟩ := of_pinsAt z
    obtain ⟨f0, f1, f2, _⟩ := hf p.1 hb
    obtain ⟨o, e', d⟩ := ho p.1 hb
    rw [e] at e'; cases e'
    exact ⟨e, f0, f1, f2, d⟩
theorem Inv.unpinned {pins pl : List (Addr × Obj)} {σ : St} {H : Hp} {s : Shared} (I : Inv X (pins ++ pl) σ H s) : Inv X pins σ H s := I.pins_of fun p hp => I.pin p (List.mem_append_right _ (List.mem_append_left _ hp))
theorem ps_for {iter : Expr} {body : List Stmt} {wi : TI} {g : TG} {tb : TS} {pos : Pos} (hp : PassesOwn (model X.prog X.w) X.A X.env X.xe) (hc : X.calm = true) (hi : PI X tg iter wi) (hg : PG X tg g) (hb : PSs X body tb)
    (hs : ∀ x, foldedSetIterable iter X.env x = pure x := by intro _; rfl) : PS X (.For tg iter body [] pos) (tFor wi g tb) := by
  intro pins s σ H D I h
  refine wpAny_For (thn (hi pins s σ H _ I h) fun v s1 h1 => thn h1 fun itv s2 h2 => ?_) hs
  obtain ⟨it, fp, tn, J, H2, e, I2, T, st2, f2, W, ⟨m0, w0⟩, turn⟩ := h2
  subst e
  -- what stays true of the iterator's objects through the loop
  have stat : ∀ {H' : Hp}, (∀ b ∈ fp, H' b = none) → ∀ b ∈ fp, FpOk X pins H' b := fun hn b hb => ⟨hn b hb, (f2 b hb).2⟩
  refine codeAny_forLoop_any (fun n s' => ∃ i σ' H', Inv X pins σ' H' s' ∧ tn i s'.heap ∧ (∀ b ∈ fp, H' b = none) ∧ W i n σ' H') ?_ m0 ⟨0, σ, H2, I2, st2, fun b hb => (f2 b hb).1, w0⟩
  rintro n s3 ⟨i, σ3, H3, I3, st3, fr3, w3⟩
  rcases turn i n σ3 H3 w3 with ⟨stop, qn⟩ | ⟨go, N, hN, step⟩
  · refine wpAny_passesOwn hp (thn (T.done X rfl rfl rfl hc i pins s3 σ3 H3 X.xe I3 (stat fr3) st3 stop) fun r s4 ⟨hr, I4⟩ => ?_)
    subst hr
    exact wpAny_execs_nil ⟨σ3, H3, I4, qn⟩
  · refine wpAny_passesOwn hp (thn (T.item X rfl rfl rfl hc i pins s3 σ3 H3 X.xe I3 (stat fr3) st3 go) fun r s4 ⟨u, hr, h4⟩ => ?_)
    subst hr
    refine wpAny_passesOwn hp (thn h4 fun _ s5 ⟨x, H5, I5, r5, y5, st5, fr5⟩ => ?_)
    have I5' := I5.pinned (stat fr5) (T.obj _ _ st5)
    refine wpAny_passesOwn hp (thn (hg _ s5 σ3 H5 x u _ I5' r5 (step x H5 y5)) fun _ s6 ⟨σ6, H6, I6, q6⟩ => ?_)
    refine wpAny_passesOwn hp (thn (hb _ s6 σ6 H6 _ I6 q6) fun f s7 q7 => ?_)
    have again : ∀ {σ7 : St} {H7 : Hp}, Inv X (pins ++ pinsAt fp s5.heap) σ7 H7 s7 → N σ7 H7 → ∃ m, m < n ∧ ∃ i σ' H', Inv X pins σ' H' s7 ∧ tn i s7.heap ∧ (∀ b ∈ fp, H' b = none) ∧ W i m σ' H' := fun {σ7 H7} I7 n7 => by
      obtain ⟨m', hm, w7⟩ := hN σ7 H7 n7
      refine ⟨m', hm, i + 1, σ7, H7, I7.unpinned, T.keep _ _ _ st5 fun b hb o e => (I7.pin (b, o) (List.mem_append_right _ (List.mem_append_right _ (mem_pinsAt hb e)))).1, fun b hb => ?_, w7⟩
      obtain ⟨o, e, d⟩ := T.obj _ _ st5 b hb
      exact (I7.pin (b, o) (List.mem_append_right _ (List.mem_append_right _ (mem_pinsAt hb e)))).2.1
    cases f with
    | next => obtain ⟨σ7, H7, I7, n7⟩ := q7; exact again I7 n7
    | cont => obtain ⟨σ7, H7, I7, n7⟩ := q7; exact again I7 n7
    | brk => obtain ⟨σ7, H7, I7, q7⟩ := q7; exact ⟨σ7, H7, I7.unpinned, q7⟩
    | ret v => obtain ⟨x7, σ7, H7, I7, r7, q7⟩ := q7; exact ⟨x7, σ7, H7, I7.unpinned, r7, q7⟩
end

/-! ### the forms one uses -/
/-- over a list that the body leaves as it is -/
theorem for_list {K : PySem.W.Frag} {a : Addr} {xs : List V} {g : TG} {tb : TS} {D : Ends} {σ : St} {H : Hp} (Pv : Nat → St → Hp → Prop) (h0 : Pv 0 σ H) (hl : ∀ i σ H, i ≤ xs.length → Pv i σ H → SqL K H a xs)
    (hs : ∀ i x σ H, xs[i]? = some x → Pv i σ H → g x σ H fun σ2 H2 => tb { D with nx := Pv (i + 1), ct := Pv (i + 1), bk := D.nx } σ2 H2) (hd : ∀ σ H, Pv xs.length σ H → D.nx σ H) :
    ∃ W : Nat → Nat → St → Hp → Prop, (∃ m, W 0 m σ H) ∧ ∀ i m σ H, W i m σ H →
      ((Itl K a).stop i H ∧ D.nx σ H) ∨ ((Itl K a).go i H ∧ ∃ N : St → Hp → Prop, (∀ σ' H', N σ' H' → ∃ m', m' < m ∧ W (i + 1) m' σ' H') ∧ ∀ x H', (Itl K a).yld i H x H' → g x σ H' fun σ2 H2 => tb { D with nx := N, ct := N, bk := D.nx } σ2 H2) := by
  refine ⟨fun i m σ H => m = xs.length - i ∧ i ≤ xs.length ∧ Pv i σ H, ⟨xs.length, by simp, Nat.zero_le _, h0⟩, ?_⟩
  rintro i m σ H ⟨rfl, hi, p⟩
  have q := hl i σ H hi p
  by_cases hlt : i < xs.length
  · refine .inr ⟨⟨xs, xs[i], q, by simp [hlt]⟩, Pv (i + 1), fun σ' H' p' => ⟨xs.length - (i + 1), by omega, rfl, hlt, p'⟩, fun x H' y => ?_⟩
    obtain ⟨e, y⟩ := y
    subst e
    exact hs i x σ _ (y xs q) p
  · have e : i = xs.length := by omega
    subst e
    exact .inl ⟨⟨xs, q, Nat.le_refl _⟩, hd σ H p⟩
theorem for_tup {K : PySem.W.Frag} {a : Addr} {xs : List V} {g : TG} {tb : TS} {D : Ends} {σ : St} {H : Hp} (Pv : Nat → St → Hp → Prop) (h0 : Pv 0 σ H) (hl : ∀ i σ H, i ≤ xs.length → Pv i σ H → SqT K H a xs)
    (hs : ∀ i x σ H, xs[i]? = some x → Pv i σ H → g x σ H fun σ2 H2 => tb { D with nx := Pv (i + 1), ct := Pv (i + 1), bk := D.nx } σ2 H2) (hd : ∀ σ H, Pv xs.length σ H → D.nx σ H) :
    ∃ W : Nat → Nat → St → Hp → Prop, (∃ m, W 0 m σ H) ∧ ∀ i m σ H, W i m σ H →
      ((Itt K a).stop i H ∧ D.nx σ H) ∨ ((Itt K a).go i H ∧ ∃ N : St → Hp → Prop, (∀ σ' H', N σ' H' → ∃ m', m' < m ∧ W (i + 1) m' σ' H') ∧ ∀ x H', (Itt K a).yld i H x H' → g x σ H' fun σ2 H2 => tb { D with nx := N, ct := N, bk := D.nx } σ2 H2) := by
  refine ⟨fun i m σ H => m = xs.length - i ∧ i ≤ xs.length ∧ Pv i σ H, ⟨xs.length, by simp, Nat.zero_le _, h0⟩, ?_⟩
  rintro i m σ H ⟨rfl, hi, p⟩
  have q := hl i σ H hi p
  by_cases hlt : i < xs.length
  · refine .inr ⟨⟨xs, xs[i], q, by simp [hlt]⟩, Pv (i + 1), fun σ' H' p' => ⟨xs.length - (i + 1), by omega, rfl, hlt, p'⟩, fun x H' y => ?_⟩
    obtain ⟨e, y⟩ := y
    subst e
    exact hs i x σ _ (y xs q) p
  · have e : i = xs.length := by omega
    subst e
    exact .inl ⟨⟨xs, q, Nat.le_refl _⟩, hd σ H p⟩
theorem for_range {lo : Int} {n : Nat} {g : TG} {tb : TS} {D : Ends} {σ : St} {H : Hp} (Pv : Nat → St → Hp → Prop) (h0 : Pv 0 σ H)
    (hs : ∀ i σ H, i < n → Pv i σ H → g (.int (lo + i)) σ H fun σ2 H2 => tb { D with nx := Pv (i + 1), ct := Pv (i + 1), bk := D.nx } σ2 H2) (hd : ∀ σ H, Pv n σ H → D.nx σ H) :
    ∃ W : Nat → Nat → St → Hp → Prop, (∃ m, W 0 m σ H) ∧ ∀ i m σ H, W i m σ H →
      ((Itr lo n).stop i H ∧ D.nx σ H) ∨ ((Itr lo n).go i H ∧ ∃ N : St → Hp → Prop, (∀ σ' H', N σ' H' → ∃ m', m' < m ∧ W (i + 1) m' σ' H') ∧ ∀ x H', (Itr lo n).yld i H x H' → g x σ H' fun σ2 H2 => tb { D with nx := N, ct := N, bk := D.nx } σ2 H2) := by
  refine ⟨fun i m σ H => m = n - i ∧ i ≤ n ∧ Pv i σ H, ⟨n, by simp, Nat.zero_le _, h0⟩, ?_⟩
  rintro i m σ H ⟨rfl, hi, p⟩
  by_cases hlt : i < n
  · refine .inr ⟨hlt, Pv (i + 1), fun σ' H' p' => ⟨n - (i + 1), by omega, rfl, hlt, p'⟩, fun x H' y => ?_⟩
    obtain ⟨e, y⟩ := y
    subst e y
    exact hs i σ _ hlt p
  · have e : i = n := by omega
    subst e
    exact .inl ⟨Nat.le_refl _, hd σ H p⟩
end L2

namespace L2
open PySem PySem.Spec PyProof.Rows

noncomputable abbrev R2 := V → V → Hp → VK → Prop
/-- a two-place operation on values: f is binaryOp op, inplaceOp op or compareOp op -/
noncomputable def OpR (X : Cx) (f : Value → Value → Sem Value) (r : R2) : Prop :=
  ∀ (pins : List (Addr × Obj)) (s : Shared) (σ : St) (H : Hp) (x y : V) (v u : Value) (Q : VK), Inv X pins σ H s → RelV x v → RelV y u → r x y H Q →
    wpAny (model X.prog X.w) X.A (f v u) (EP X pins σ Q) X.xe s
/-- a one-place operation -/
noncomputable def UnR (X : Cx) (f : Value → Sem Value) (r : V → Hp → VK → Prop) : Prop :=
  ∀ (pins : List (Addr × Obj)) (s : Shared) (σ : St) (H : Hp) (x : V) (v : Value) (Q : VK), Inv X pins σ H s → RelV x v → r x H Q →
    wpAny (model X.prog X.w) X.A (f v) (EP X pins σ Q) X.xe s
/-- a call of a value that is known (a builtin, a type) with values -/
noncomputable def CallR (X : Cx) (f : Value) (r : List V → Hp → VK → Prop) : Prop :=
  ∀ (pins : List (Addr × Obj)) (s : Shared) (σ : St) (H : Hp) (xs : List V) (us : List Value) (Q : VK), Inv X pins σ H s → Vals xs us → r xs H Q →
    wpAny (model X.prog X.w) X.A (call f us) (EP X pins σ Q) X.xe s

noncomputable def tOp (r : R2) (ta tb : TE) : TE := fun σ H Q => ta σ H fun x H1 => tb σ H1 fun y H2 => r x y H2 Q
noncomputable def tUn (r : V → Hp → VK → Prop) (ta : TE) : TE := fun σ H Q => ta σ H fun x H1 => r x H1 Q
/-- ints in, under C, and a value out -/
noncomputable def rI (C : Int → Int → Prop) (g : Int → Int → V) : R2 := fun x y H Q => ∃ i j, x = .int i ∧ y = .int j ∧ C i j ∧ Q (g i j) H
noncomputable def rI0 (g : Int → Int → V) : R2 := fun x y H Q => ∃ i j, x = .int i ∧ y = .int j ∧ Q (g i j) H
noncomputable def rU (g : Int → V) : V → Hp → VK → Prop := fun x H Q => ∃ i, x = .int i ∧ Q (g i) H

section
variable {X : Cx} {a b c : Expr} {ta tb tc : TE} {pos : Pos}

theorem binT (ha : PE X a ta) (hb : PE X b tb) {pins : List (Addr × Obj)} {s : Shared} {σ : St} {H : Hp} {R : V → V → Hp → Prop} (I : Inv X pins σ H s)
    (h : ta σ H fun x H1 => tb σ H1 fun y H2 => R x y H2) {Q : Value → Shared → Prop} {f : Value → Value → Sem Value}
    (hf : ∀ v u s2 x y H2, Inv X pins σ H2 s2 → RelV x v → RelV y u → R x y H2 → wpAny (model X.prog X.w) X.A (f v u) Q X.xe s2) :
    wpAny (model X.prog X.w) X.A (eval a X.env) (fun v s₁ => wpAny (model X.prog X.w) X.A (eval b X.env) (fun u s₂ => wpAny (model X.prog X.w) X.A (f v u) Q X.xe s₂) X.xe s₁) X.xe s := by
  refine thn (ha pins s σ H _ I h) fun v s1 ⟨x, H1, I1, r1, q1⟩ => ?_
  refine thn (hb pins s1 σ H1 _ I1 q1) fun u s2 ⟨y, H2, I2, r2, q2⟩ => ?_
  exact hf v u s2 x y H2 I2 r1 r2 q2

theorem pe_op {op : Operator} {r : R2} (ho : OpR X (binaryOp op) r) (ha : PE X a ta) (hb : PE X b tb) : PE X (.BinOp a op b pos) (tOp r ta tb) := by
  intro pins s σ H Q I h
  exact wpAny_BinOp (binT ha hb I h fun v u s2 x y H2 I2 rx ry q => ho pins s2 σ H2 x y v u Q I2 rx ry q)
theorem pe_un {op : UnaryOp} {r : V → Hp → VK → Prop} (ho : UnR X (unaryOp op) r) (ha : PE X a ta) : PE X (.UnaryOp op a pos) (tUn r ta) := by
  intro pins s σ H Q I h
  exact UnaryOp_ (thn (ha pins s σ H _ I h) fun v s1 ⟨x, H1, I1, r1, q1⟩ => ho pins s1 σ H1 x v Q I1 r1 q1)

/-! ### ints -/
theorem opI {f : Value → Value → Sem Value} {C : Int → Int → Prop} {g : Int → Int → Int}
    (rule : ∀ (i j : Int) (t u : Tok) (s : Shared) (Q : Value → Shared → Prop) (E : Value → Shared → Prop), C i j → Q (.int (g i j) s.toks) { s with toks := s.toks + 1 } → wpAny (model X.prog X.w) X.A (f (.int i t) (.int j u)) Q E s) :
    OpR X f (rI C fun i j => .int (g i j)) := by
  intro pins s σ H x y v u Q I rx ry h
  obtain ⟨i, j, rfl, rfl, hc, q⟩ := h
  obtain ⟨t, rfl⟩ := rx
  obtain ⟨t', rfl⟩ := ry
  exact rule i j t t' s _ _ hc ⟨.int (g i j), H, I.tok _, ⟨_, rfl⟩, q⟩
theorem opI0 {f : Value → Value → Sem Value} {g : Int → Int → Int}
    (rule : ∀ (i j : Int) (t u : Tok) (s : Shared) (Q : Value → Shared → Prop) (E : Value → Shared → Prop), Q (.int (g i j) s.toks) { s with toks := s.toks + 1 } → wpAny (model X.prog X.w) X.A (f (.int i t) (.int j u)) Q E s) :
    OpR X f (rI0 fun i j => .int (g i j)) := by
  intro pins s σ H x y v u Q I rx ry h
  obtain ⟨i, j, rfl, rfl, q⟩ := h
  obtain ⟨t, rfl⟩ := rx
  obtain ⟨t', rfl⟩ := ry
  exact rule i j t t' s _ _ ⟨.int (g i j), H, I.tok _, ⟨_, rfl⟩, q⟩
theorem opB0 {f : Value → Value → Sem Value} {g : Int → Int → Bool}
    (rule : ∀ (i j : Int) (t u : Tok) (s : Shared) (Q : Value → Shared → Prop) (E : Value → Shared → Prop), Q (.bool (g i j)) s → wpAny (model X.prog X.w) X.A (f (.int i t) (.int j u)) Q E s) :
    OpR X f (rI0 fun i j => .bl (g i j)) := by
  intro pins s σ H x y v u Q I rx ry h
  obtain ⟨i, j, rfl, rfl, q⟩ := h
  obtain ⟨t, rfl⟩ := rx
  obtain ⟨t', rfl⟩ := ry
  exact rule i j t t' s _ _ ⟨.bl (g i j), H, I, rfl, q⟩

noncomputable def CDiv (i j : Int) : Prop := 0 < j ∧ j < 1073741824
noncomputable def CMul (i j : Int) : Prop := (-(2 ^ 64) < i ∧ i < 2 ^ 64) ∨ (-(2 ^ 64) < j ∧ j < 2 ^ 64)
theorem CMul.ok {i j : Int} (h : CMul i j) : IntMulOk i j := by
  rcases h with ⟨h1, h2⟩ | ⟨h1, h2⟩
  · exact .of_left (intBits_le_64 h1 h2)
  · exact .of_right (intBits_le_64 h1 h2)

theorem op_add : OpR X (binaryOp .Add) (rI0 fun i j => .int (i + j)) := opI0 fun _ _ _ _ _ _ _ q => add_int q
theorem op_mul : OpR X (binaryOp .Mult) (rI CMul fun i j => .int (i * j)) := opI fun _ _ _ _ _ _ _ hc q => mul_int q hc.ok
/-- // by a positive divisor -/
theorem op_fdiv : OpR X (binaryOp .FloorDiv) (rI CDiv fun i j => .int (i / j)) := opI fun i j _ _ _ _ _ hc q => by
  have h1 : (0 : Int) < j := hc.1
  have h2 : j < 1073741824 := hc.2
  exact floordiv_int (by omega) (by rw [Int.fdiv_eq_ediv_of_nonneg i (by omega)]; exact q) (.inl (PyProof.noPylong_small (by omega)))
/-- % by a positive divisor of any size -/
theorem op_mod : OpR X (binaryOp .Mod) (rI (fun _ j => 0 < j) fun i j => .int (i % j)) := opI fun i j _ _ _ _ _ hc q => by
  have h1 : (0 : Int) < j := hc
  exact mod_int' (by omega) (by rw [Int.fmod_eq_emod_of_nonneg i (by omega)]; exact q)


theorem unI {f : Value → Sem Value} {g : Int → Int}
    (rule : ∀ (i : Int) (t : Tok) (s : Shared) (Q : Value → Shared → Prop) (E : Value → Shared → Prop), Q (.int (g i) s.toks) { s with toks := s.toks + 1 } → wpAny (model X.prog X.w) X.A (f (.int i t)) Q E s) :
    UnR X f (rU fun i => .int (g i)) := by
  intro pins s σ H x v Q I rx h
  obtain ⟨i, rfl, q⟩ := h
  obtain ⟨t, rfl⟩ := rx
  exact rule i t s _ _ ⟨.int (g i), H, I.tok _, ⟨_, rfl⟩, q⟩
theorem un_neg : UnR X (unaryOp .USub) (rU fun i => .int (-i)) := unI fun _ _ _ _ _ q => neg_int q

/-! ### bools among ints: n += (a < b) -/
end

/-! ### comparisons -/
/-- the scalars that == tells apart as data does -/
noncomputable def scal : V → V → Bool
  | .non, .non => true | .non, .int _ => true | .int _, .non => true | .non, .bl _ => true | .bl _, .non => true | .non, .str _ => true | .str _, .non => true
  | .int _, .int _ => true | .bl _, .bl _ => true | .str _, .str _ => true | .byt _, .byt _ => true
  | .int _, .str _ => true | .str _, .int _ => true | .bl _, .str _ => true | .str _, .bl _ => true
  | _, _ => false
noncomputable def rEq : R2 := fun x y H Q => scal x y = true ∧ Q (.bl (decide (x = y))) H
noncomputable def rNe : R2 := fun x y H Q => scal x y = true ∧ Q (.bl (!decide (x = y))) H

theorem dec_int {i j : Int} : decide (V.int i = V.int j) = (i == j) := by
  rw [Bool.eq_iff_iff]
  simp
theorem dec_bl {i j : Bool} : decide (V.bl i = V.bl j) = (i == j) := by
  rw [Bool.eq_iff_iff]
  simp
theorem dec_str {i j : Str} : decide (V.str i = V.str j) = (i == j) := by
  rw [Bool.eq_iff_iff]
  simp
theorem dec_byt {i j : Array UInt8} : decide (V.byt i = V.byt j) = (i.toList == j.toList) := by
  rw [Bool.eq_iff_iff]
  cases i
  cases j
  simp

section
variable {X : Cx} {a b c : Expr} {ta tb tc : TE} {pos : Pos}
theorem fin_bl {pins : List (Addr × Obj)} {σ : St} {H : Hp} {s : Shared} {Q : VK} {k k' : Bool} (I : Inv X pins σ H s) (q : Q (.bl k) H) (e : k = k') : EP X pins σ Q (.bool k') s := by
  subst e
  exact ⟨.bl k, H, I, rfl, q⟩
theorem op_eq : OpR X (compareOp .Eq) rEq := by
  intro pins s σ H x y v u Q I rx ry h
  obtain ⟨hs, q⟩ := h
  cases x with
  | non =>
    cases rx
    cases y with
    | non => cases ry; exact PySem.EqNone.eq_none_none (fin_bl I q (by simp))
    | bl j => cases ry; exact PySem.EqNone.eq_none_bool (fin_bl I q (by simp))
    | int j => obtain ⟨t', rfl⟩ := ry; exact PySem.EqNone.eq_none_int (fin_bl I q (by simp))
    | str j => obtain ⟨t', rfl⟩ := ry; exact PySem.EqNone.eq_none_str (fin_bl I q (by simp))
    | _ => exact absurd (show false = true from hs) Bool.false_ne_true
  | bl i =>
    cases rx
    cases y with
    | non => cases ry; exact PySem.EqNone.eq_bool_none (fin_bl I q (by simp))
    | bl j => cases ry; exact eq_bool (fin_bl I q dec_bl)
    | str j => obtain ⟨t', rfl⟩ := ry; exact PySem.EqMixed.eq_bool_str (fin_bl I q (by simp))
    | _ => exact absurd (show false = true from hs) Bool.false_ne_true
  | int i =>
    obtain ⟨t, rfl⟩ := rx
    cases y with
    | non => cases ry; exact PySem.EqNone.eq_int_none (fin_bl I q (by simp))
    | int j => obtain ⟨t', rfl⟩ := ry; exact eq_int (fin_bl I q dec_int)
    | str j => obtain ⟨t', rfl⟩ := ry; exact PySem.EqMixed.eq_int_str (fin_bl I q (by simp))
    | _ => exact absurd (show false = true from hs) Bool.false_ne_true
  | str i =>
    obtain ⟨t, rfl⟩ := rx
    cases y with
    | non => cases ry; exact PySem.EqNone.eq_str_none (fin_bl I q (by simp))
    | bl j => cases ry; exact PySem.EqMixed.eq_str_bool (fin_bl I q (by simp))
    | int j => obtain ⟨t', rfl⟩ := ry; exact PySem.EqMixed.eq_str_int (fin_bl I q (by simp))
    | str j => obtain ⟨t', rfl⟩ := ry; exact eq_str (fin_bl I q dec_str)
    | _ => exact absurd (show false = true from hs) Bool.false_ne_true
  | byt i =>
    obtain ⟨t, rfl⟩ := rx
    cases y with
    | byt j => obtain ⟨t', rfl⟩ := ry; exact PySem.W.eq_bytes (fin_bl I q dec_byt)
    | _ => exact absurd (show false = true from hs) Bool.false_ne_true
  | _ => cases y <;> exact absurd (show false = true from hs) Bool.false_ne_true
theorem op_ne : OpR X (compareOp .NotEq) rNe := by
  intro pins s σ H x y v u Q I rx ry h
  obtain ⟨hs, q⟩ := h
  cases x with
  | non =>
    cases rx
    cases y with
    | non => cases ry; exact PySem.EqNone.ne_none_none (fin_bl I q (by simp))
    | bl j => cases ry; exact PySem.EqNone.ne_none_bool (fin_bl I q (by simp))
    | int j => obtain ⟨t', rfl⟩ := ry; exact PySem.EqNone.ne_none_int (fin_bl I q (by simp))
    | str j => obtain ⟨t', rfl⟩ := ry; exact PySem.EqNone.ne_none_str (fin_bl I q (by simp))
    | _ => exact absurd (show false = true from hs) Bool.false_ne_true
  | bl i =>
    cases rx
    cases y with
    | non => cases ry; exact PySem.EqNone.ne_bool_none (fin_bl I q (by simp))
    | bl j => cases ry; exact ne_bool (fin_bl I q (congrArg not dec_bl))
    | str j => obtain ⟨t', rfl⟩ := ry; exact PySem.EqMixed.ne_bool_str (fin_bl I q (by simp))
    | _ => exact absurd (show false = true from hs) Bool.false_ne_true
  | int i =>
    obtain ⟨t, rfl⟩ := rx
    cases y with
    | non => cases ry; exact PySem.EqNone.ne_int_none (fin_bl I q (by simp))
    | int j => obtain ⟨t', rfl⟩ := ry; exact ne_int (fin_bl I q (congrArg not dec_int))
    | str j => obtain ⟨t', rfl⟩ := ry; exact PySem.EqMixed.ne_int_str (fin_bl I q (by simp))
    | _ => exact absurd (show false = true from hs) Bool.false_ne_true
  | str i =>
    obtain ⟨t, rfl⟩ := rx
    cases y with
    | non => cases ry; exact PySem.EqNone.ne_str_none (fin_bl I q (by simp))
    | bl j => cases ry; exact PySem.EqMixed.ne_str_bool (fin_bl I q (by simp))
    | int j => obtain ⟨t', rfl⟩ := ry; exact PySem.EqMixed.ne_str_int (fin_bl I q (by simp))
    | str j => obtain ⟨t', rfl⟩ := ry; exact ne_str (fin_bl I q (congrArg not dec_str))
    | _ => exact absurd (show false = true from hs) Bool.false_ne_true
  | byt i =>
    obtain ⟨t, rfl⟩ := rx
    cases y with
    | byt j => obtain ⟨t', rfl⟩ := ry; exact PySem.W.ne_bytes (fin_bl I q (congrArg not dec_byt))
    | _ => exact absurd (show false = true from hs) Bool.false_ne_true
  | _ => cases y <;> exact absurd (show false = true from hs) Bool.false_ne_true

theorem op_lt : OpR X (compareOp .Lt) (rI0 fun i j => .bl (decide (i < j))) := opB0 fun _ _ _ _ _ _ _ q => lt_int q
theorem op_le : OpR X (compareOp .LtE) (rI0 fun i j => .bl (decide (i ≤ j))) := opB0 fun _ _ _ _ _ _ _ q => le_int q
theorem op_gt : OpR X (compareOp .Gt) (rI0 fun i j => .bl (decide (j < i))) := opB0 fun _ _ _ _ _ _ _ q => gt_int q
/-- the one string within the other -/
theorem op_in_str : OpR X (compareOp .In) (fun x y H Q => ∃ i j, x = .str i ∧ y = .str j ∧ Q (.bl (!(Builtin.Str.occurrences j i 0 j.length 1).isEmpty)) H) := by
  intro pins s σ H x y v u Q I rx ry h
  obtain ⟨i, j, rfl, rfl, q⟩ := h
  obtain ⟨t, rfl⟩ := rx
  obtain ⟨t', rfl⟩ := ry
  exact in_str (fin_bl I q rfl)



/-- two rules for one operation: by cases -/
theorem OpR.or {f : Value → Value → Sem Value} {r r' : R2} (h : OpR X f r) (h' : OpR X f r') : OpR X f (fun x y H Q => r x y H Q ∨ r' x y H Q) := by
  intro pins s σ H x y v u Q I rx ry q
  rcases q with q | q
  · exact h pins s σ H x y v u Q I rx ry q
  · exact h' pins s σ H x y v u Q I rx ry q

theorem nomark (b : Expr) {op : CmpOp} (h : op ≠ .In := by decide) (h2 : op ≠ .NotIn := by decide) : behindInMarks op b = false := by
  have e1 : (op == CmpOp.In) = false := by cases op <;> first | rfl | exact absurd rfl h
  have e2 : (op == CmpOp.NotIn) = false := by cases op <;> first | rfl | exact absurd rfl h2
  cases b <;> simp [behindInMarks, e1, e2]
/-- a comparison as a value; hm: nomark b, or (for in, not in) by with_unfolding_all rfl -/
theorem pe_cmpR {op : CmpOp} {r : R2} (ho : OpR X (compareOp op) r) (ha : PE X a ta) (hb : PE X b tb) (hm : behindInMarks op b = false) : PE X (.Compare a [op] [b] pos) (tOp r ta tb) := by
  intro pins s σ H Q I h
  exact wpAny_Compare1 (binT ha hb I h fun v u s2 x y H2 I2 rx ry q => ho pins s2 σ H2 x y v u Q I2 rx ry q) hm
/-- a reading of a value as a test -/
noncomputable def tTest (t : TE) : TT := fun σ H Q => t σ H fun x H' => ∃ k, x = .bl k ∧ Q k H'
theorem pt_cmpR {op : CmpOp} {r : R2} (ho : OpR X (compareOp op) r) (ha : PE X a ta) (hb : PE X b tb) (hm : behindInMarks op b = false) : PT X (.Compare a [op] [b] pos) (tTest (tOp r ta tb)) := by
  intro pins s σ H Q I h
  refine wpAny_isTrue_Compare1 (thn (ha pins s σ H _ I h) fun v s1 ⟨x, H1, I1, r1, q1⟩ => thn (hb pins s1 σ H1 _ I1 q1) fun u s2 ⟨y, H2, I2, r2, q2⟩ =>
    thn (ho pins s2 σ H2 x y v u _ I2 r1 r2 q2) fun c s3 ⟨z, H3, I3, r3, k, e, q3⟩ => ?_) hm
  subst e
  cases r3
  exact wpAny_truthy_bool ⟨H3, I3, q3⟩
/-- a op1 b op2 c -/
noncomputable def tChain (r r' : R2) (ta tb tc : TE) : TE := fun σ H Q => ta σ H fun x H1 => tb σ H1 fun y H2 => r x y H2 fun z H3 => ∃ k, z = .bl k ∧
  (if k = true then tc σ H3 fun w' H4 => r' y w' H4 Q else Q (.bl false) H3)
theorem pe_chain {op op' : CmpOp} {r r' : R2} (ho : OpR X (compareOp op) r) (ho' : OpR X (compareOp op') r') (ha : PE X a ta) (hb : PE X b tb) (hc : PE X c tc)
    (hm : lastMarks [op, op'] [b, c] = false := by with_unfolding_all rfl) : PE X (.Compare a [op, op'] [b, c] pos) (tChain r r' ta tb tc) := by
  intro pins s σ H Q I h
  refine Compare_chain (thn (ha pins s σ H _ I h) fun v s1 ⟨x, H1, I1, r1, q1⟩ => chain_link (thn (hb pins s1 σ H1 _ I1 q1) fun u s2 ⟨y, H2, I2, r2, q2⟩ =>
    thn (ho pins s2 σ H2 x y v u _ I2 r1 r2 q2) fun d s3 ⟨z, H3, I3, r3, k, e, q3⟩ => ?_)) hm
  subst e
  cases r3
  refine wpAny_truthy_bool ?_
  cases k with
  | false => exact ite_ff ⟨.bl false, H3, I3, rfl, q3⟩
  | true => exact ite_tt (chain_last (thn (hc pins s3 σ H3 _ I3 q3) fun w' s4 ⟨z', H4, I4, r4, q4⟩ => ho' pins s4 σ H4 y z' u w' Q I4 r2 r4 q4))
theorem pt_chain {op op' : CmpOp} {r r' : R2} (ho : OpR X (compareOp op) r) (ho' : OpR X (compareOp op') r') (ha : PE X a ta) (hb : PE X b tb) (hc : PE X c tc)
    (hm : lastMarks [op, op'] [b, c] = false := by with_unfolding_all rfl) : PT X (.Compare a [op, op'] [b, c] pos) (tTest (tChain r r' ta tb tc)) := by
  intro pins s σ H Q I h
  refine isTrue_chain (thn (ha pins s σ H _ I h) fun v s1 ⟨x, H1, I1, r1, q1⟩ => test_link (thn (hb pins s1 σ H1 _ I1 q1) fun u s2 ⟨y, H2, I2, r2, q2⟩ =>
    thn (ho pins s2 σ H2 x y v u _ I2 r1 r2 q2) fun d s3 ⟨z, H3, I3, r3, k, e, q3⟩ => ?_)) hm
  subst e
  cases r3
  refine wpAny_truthy_bool ?_
  cases k with
  | false =>
    obtain ⟨k', e', q'⟩ := q3
    cases e'
    exact ite_ff ⟨H3, I3, q'⟩
  | true =>
    refine ite_tt (test_last (thn (hc pins s3 σ H3 _ I3 q3) fun w' s4 ⟨z', H4, I4, r4, q4⟩ => thn (ho' pins s4 σ H4 y z' u w' _ I4 r2 r4 q4) fun d' s5 ⟨z2, H5, I5, r5, k2, e2, q5⟩ => ?_))
    subst e2
    cases r5
    exact wpAny_truthy_bool ⟨H5, I5, q5⟩

/-! ### truth -/
theorem line63 : (sizeLine : Nat) < 2 ^ 63 := by rw [sizeLine_eq]; decide

/-! ### strs and bytes -/
theorem op_add_str : OpR X (binaryOp .Add) (fun x y H Q => ∃ i j, x = .str i ∧ y = .str j ∧ i.length + j.length ≤ sizeLine ∧ Q (.str (i ++ j)) H) := by
  intro pins s σ H x y v u Q I rx ry h
  obtain ⟨i, j, rfl, rfl, hz, q⟩ := h
  obtain ⟨t, rfl⟩ := rx
  obtain ⟨t', rfl⟩ := ry
  exact add_str (fun t' tk => ⟨.str (i ++ j), H, I.tok _, ⟨_, rfl⟩, q⟩) hz


/-! ### scalar builtins, by CallR -/
theorem vals1 {x : V} {us : List Value} (r : Vals [x] us) : ∃ u, us = [u] ∧ RelV x u := by
  cases r with
  | cons r1 r2 => cases r2; exact ⟨_, rfl, r1⟩
theorem vals2 {x y : V} {us : List Value} (r : Vals [x, y] us) : ∃ u w', us = [u, w'] ∧ RelV x u ∧ RelV y w' := by
  cases r with
  | cons r1 r2 =>
    cases r2 with
    | cons r3 r4 => cases r4; exact ⟨_, _, rfl, r1, r3⟩
theorem call_int1 : CallR X (.type "int") (fun xs H Q => (∃ i, xs = [.int i] ∧ Q (.int i) H) ∨ ∃ k, xs = [.bl k] ∧ Q (.int (if k then 1 else 0)) H) := by
  intro pins s σ H xs us Q I r h
  rcases h with ⟨i, rfl, q⟩ | ⟨k, rfl, q⟩
  · obtain ⟨u, rfl, t, rfl⟩ := vals1 r
    exact call_int_int ⟨.int i, H, I, ⟨_, rfl⟩, q⟩
  · obtain ⟨u, rfl, r1⟩ := vals1 r
    cases r1
    exact call_int_bool ⟨.int (if k then 1 else 0), H, I.tok _, ⟨_, rfl⟩, q⟩
end
end L2

namespace L2
open PySem PySem.Spec PyProof.Rows

/-! ### an instance, its attributes a map -/
structure ObjM (h : Heap) (x dx C : Addr) (mA : Str → Option Value) : Prop where
  obj : h.get? x = some (PySem.W.instObj C dx)
  ns : h.Ns1 dx mA
  ne : dx ≠ x

theorem lookIn_ns {h : Heap} {dx : Addr} {mA : Str → Option Value} (n : h.Ns1 dx mA) : ∃ od, h.get? dx = some od ∧ ∀ name, PySem.W.lookIn name od = some (mA name) := by
  obtain ⟨o, es, ep, ho, hd, hk, _, hm⟩ := n
  refine ⟨o, ho, fun name => ?_⟩
  have e := hm name
  unfold nsFind findBy at e
  rw [← Array.find?_toList] at e
  unfold PySem.W.lookIn
  rw [hd]
  dsimp only
  split
  · rename_i y q
    rw [q] at e
    exact congrArg some e
  · rename_i q
    rw [q] at e
    have a : es.toList.any (·.refKey) = false := by
      rw [List.any_eq_false]
      intro y hy
      obtain ⟨z, t, hkey⟩ := hk y (Array.mem_toList_iff.mp hy)
      simp [DictEntry.refKey, hkey]
    have a' : ¬ es.toList.any (·.refKey) = true := by rw [a]; exact Bool.false_ne_true
    rw [if_neg a']
    exact congrArg some e

theorem ObjM.look {h : Heap} {x dx C : Addr} {mA : Str → Option Value} (I : ObjM h x dx C mA) : ∃ od, PySem.W.InstAt h x (PySem.W.instObj C dx) C (some od) ∧ ∀ name, PySem.W.lookIn name od = some (mA name) :=
  let ⟨od, ho, hl⟩ := lookIn_ns I.ns
  ⟨od, ⟨I.obj, rfl, rfl, ho⟩, hl⟩

section
variable {prog : Program} {w : World} {A : Around} {E : Value → Shared → Prop} {s : Shared} {K : PySem.W.Frag} {x dx C f : Addr} {mA : Str → Option Value} {name : Str} {v : Value}





end

/-! ### the attributes as a list of pairs -/

theorem RelO.some_of {v : V} {o : Option Value} (r : RelO (some v) o) : ∃ u, o = some u ∧ RelV v u := by
  cases o with
  | none => exact (show False from r).elim
  | some u => exact ⟨u, rfl, r⟩

section
variable {P : Program} {w : World} {H H' : Hp} {h h' : Heap} {a C dx : Addr} {fs fs' : List (Str × V)}
theorem ins_get (hok : HOk P w H h) (e : H a = some (.ins C dx fs)) : ∃ mA, ObjM h a dx C mA ∧ (∀ f, RelO (fs.lookup f) (mA f)) ∧ PySem.Within mA (fs.map (·.1)) ∧ fs.length ≤ 1000 ∧ H dx = some (.own a) := by
  obtain ⟨d, z, ne, ob, mA, n, r, q⟩ := (show ObjOk P w H h a (.ins C dx fs) from hok a _ e)
  exact ⟨mA, ⟨ob, n, ne⟩, r, q, z, d⟩
end

/-! ### what of the text a class must have -/
structure Cls (K : PySem.W.Frag) (C : Addr) : Prop where
  pg : PySem.W.plainGet K C Str.empty = true
  hd : PySem.W.hasDictIn K C = true
  po : PySem.W.plainOver K C = true
  sa : PySem.W.findIn K (.ref C) "__setattr__" = some (some (.builtin "object.__setattr__"))
theorem Cls.get {K : PySem.W.Frag} {C : Addr} (c : Cls K C) (f : Str) : PySem.W.plainGet K C f = true := c.pg
/-- a constant of the class -/
structure Con (K : PySem.W.Frag) (C : Addr) (f : Str) (v : V) (u : Value) : Prop where
  at_ : PySem.W.findIn K (.ref C) f = some (some u)
  rel : RelV v u
  get : PySem.W.specialIn K u "__get__" = some none
  cp : PySem.W.copiedNames.contains f = false
/-- a method: a plain def of the class or of one above it -/
structure Meth (K : PySem.W.Frag) (C : Addr) (m : Str) (f : Addr) : Prop where
  at_ : PySem.W.findIn K (.ref C) m = some (some (.ref f))
  fn : PySem.W.isFn K (.ref f) = true
  kp : PySem.W.keepIn K (.ref f) = true

section
variable {X : Cx} {pins : List (Addr × Obj)} {σ : St} {H : Hp} {s : Shared} {a C dx : Addr} {fs : List (Str × V)} {f : Str} {v : V} {A : Around} {E : Value → Shared → Prop}





/-- a new instance, tracked, without attributes -/
theorem Inv.made (I : Inv X pins σ H s) : Inv X pins σ (upd (upd H s.heap.objs.size (.own (s.heap.objs.size + 1))) (s.heap.objs.size + 1) (.ins C s.heap.objs.size []))
    { s with heap := (s.heap.push PySem.W.emptyDict).push (PySem.W.instObj C s.heap.objs.size) } := by
  have e1 : (s.heap.push PySem.W.emptyDict).get? s.heap.objs.size = some PySem.W.emptyDict := Heap.get?_push_size s.heap rfl
  have e2 : ((s.heap.push PySem.W.emptyDict).push (PySem.W.instObj C s.heap.objs.size)).get? (s.heap.objs.size + 1) = some (PySem.W.instObj C s.heap.objs.size) := by
    have := Heap.get?_push_size (s.heap.push PySem.W.emptyDict) (o := PySem.W.instObj C s.heap.objs.size) rfl
    rwa [Heap.size_push] at this
  have e3 : (s.heap.push PySem.W.emptyDict).Ns s.heap.objs.size (fun _ => none) := ⟨PySem.W.emptyDict, #[], _, e1, rfl, (fun e he => absurd he (by simp)), fun _ => rfl⟩
  have I1 := I.laid (a := s.heap.objs.size) (o := .own (s.heap.objs.size + 1)) (h' := s.heap.push PySem.W.emptyDict) (t' := s.toks) (fun b u q => Heap.get?_push_of_some _ q) (Nat.le_refl _) ⟨_, e1⟩
  refine I1.laid (a := s.heap.objs.size + 1) (o := .ins C s.heap.objs.size []) (t' := s.toks) (fun b u q => Heap.get?_push_of_some _ q) (Nat.le_of_eq (Heap.size_push _ _)) ?_
  have ne : s.heap.objs.size ≠ s.heap.objs.size + 1 := Nat.ne_of_lt (Nat.lt_succ_self _)
  refine ⟨by rw [upd_ne ne, upd_same], Nat.zero_le _, ne, e2, fun _ => none, (Heap.Ns1.of_empty e3).at fun o q => Heap.get?_push_of_some _ q, fun _ => True.intro, fun y hy => absurd rfl hy⟩

end

/-! ### readings and rules -/

section
variable {X : Cx} {o e value : Expr} {f : Str} {pos pos' tpos : Pos} {ta tv : TE}

end

/-! ### isinstance -/
section
variable {X : Cx} {pins : List (Addr × Obj)} {σ : St} {H : Hp} {s : Shared} {A : Around} {E : Value → Shared → Prop} {Q : Value → Shared → Prop} {c : Value} {b : Bool}
/-- the type of a value, as the fragment's deciders take it; for an instance its class -/
inductive TyOf (K : PySem.W.Frag) (H : Hp) : V → Value → Prop where
  | non : TyOf K H .non (.type "NoneType")
  | bl (x : Bool) : TyOf K H (.bl x) (.type "bool")
  | int (i : Int) : TyOf K H (.int i) (.type "int")
  | str (x : Str) : TyOf K H (.str x) (.type "str")
  | flt (x : UInt64) : TyOf K H (.flt x) (.type "float")
  | lst {a : Addr} {xs : List V} (e : H a = some (.lst xs)) : TyOf K H (.ref a) (.type "list")
  | frz {a : Addr} {o : Obj} {xs : List V} (e : H a = some (.frz o (.lst xs))) : TyOf K H (.ref a) (.type "list")
  | tup {a : Addr} {xs : List V} (e : H a = some (.tup xs)) : TyOf K H (.ref a) (.type "tuple")
  | dK {a : Addr} {kvs : List (Key × V)} (e : H a = some (.dK kvs)) : TyOf K H (.ref a) (.type "dict")
  | dT {a : Addr} {kvs : List (List Key × V)} (e : H a = some (.dT kvs)) : TyOf K H (.ref a) (.type "dict")
  | ins {a C dx : Addr} {fs : List (Str × V)} (e : H a = some (.ins C dx fs)) (cl : Cls K C) (ha : PySem.W.findIn K (.ref C) "__class__" = some (some (.builtin "object.__class__")))
      (hn : PySem.W.specialIn K (.builtin "object.__class__") "__get__" = some (some (.builtin "getset_descriptor.__get__"))) (htk : PySem.W.takesIn K (.builtin "object.__class__") = some true)
      (hm : PySem.W.mroIn K C (.type "object") = some true) : TyOf K H (.ref a) (.ref C)
/-- isinstance(x, c) for one class c, a built-in or an own one: kitOne's answer -/
theorem isinst_ok {x : V} {u t : Value} (I : Inv X pins σ H s) (rx : RelV x u) (ty : TyOf X.K H x t) (e : PySem.W.kitOne X.K t c = some b) (h : ∀ tk, Q (.bool b) { s with toks := tk }) :
    wpAny (model X.prog X.w) A (call (.builtin "isinstance") [u, c]) Q E s := by
  cases ty with
  | non => cases (show u = Value.none from rx); exact PySem.W.kia_one PySem.W.kitx_none I.kIn True.intro e (fun z => nomatch z) h
  | bl y => cases (show u = Value.bool y from rx); exact PySem.W.kia_one PySem.W.kitx_bool I.kIn True.intro e (fun z => nomatch z) h
  | int i => obtain ⟨t, q⟩ := (show ∃ t, u = Value.int i t from rx); cases q; exact PySem.W.kia_one PySem.W.kitx_int I.kIn True.intro e (fun z => nomatch z) h
  | str y => obtain ⟨t, q⟩ := (show ∃ t, u = Value.str y t from rx); cases q; exact PySem.W.kia_one PySem.W.kitx_str I.kIn True.intro e (fun z => nomatch z) h
  | flt y => obtain ⟨t, q⟩ := (show ∃ t, u = Value.float y t from rx); cases q; exact PySem.W.kia_one PySem.W.kitx_float I.kIn True.intro e (fun z => nomatch z) h
  | @lst a xs ea =>
    cases (show u = Value.ref a from rx)
    obtain ⟨_, _, n, _, h1⟩ := (show ObjOk X.prog X.w H s.heap a (.lst xs) from I.hok a _ ea)
    exact PySem.W.kia_one PySem.W.kitx_list I.kIn ⟨_, h1, rfl⟩ e (fun z => nomatch z) h
  | @frz a ob xs ea =>
    cases (show u = Value.ref a from rx)
    obtain ⟨_, _, _, n, _, h1⟩ := (show ObjOk X.prog X.w H s.heap a (.frz ob (.lst xs)) from I.hok a _ ea)
    exact PySem.W.kia_one PySem.W.kitx_list I.kIn ⟨_, h1, rfl⟩ e (fun z => nomatch z) h
  | @tup a xs ea =>
    cases (show u = Value.ref a from rx)
    obtain ⟨_, _, _, p⟩ := (show ObjOk X.prog X.w H s.heap a (.tup xs) from I.hok a _ ea)
    obtain ⟨o, h1, h2, _⟩ := p
    exact PySem.W.kia_one PySem.W.kitx_tuple I.kIn ⟨o, h1, h2⟩ e (fun z => nomatch z) h
  | @dK a kvs ea =>
    cases (show u = Value.ref a from rx)
    obtain ⟨_, _, vs, _, p⟩ := (show ObjOk X.prog X.w H s.heap a (.dK kvs) from I.hok a _ ea)
    obtain ⟨o, es, ep, h1, h2, _⟩ := p
    exact PySem.W.kia_one PySem.W.kitx_dict I.kIn ⟨o, h1, h2.1⟩ e (fun z => nomatch z) h
  | @dT a kvs ea =>
    cases (show u = Value.ref a from rx)
    obtain ⟨_, _, xs, _, o, es, ep, h1, h2, _⟩ := (show ObjOk X.prog X.w H s.heap a (.dT kvs) from I.hok a _ ea)
    exact PySem.W.kia_one PySem.W.kitx_dict I.kIn ⟨o, h1, h2.1⟩ e (fun z => nomatch z) h
  | @ins a C dx fs ea cl ha hn htk hm =>
    cases (show u = Value.ref a from rx)
    obtain ⟨mA, O, _⟩ := ins_get I.hok ea
    obtain ⟨od, J, _⟩ := O.look
    exact PySem.W.kia_one (PySem.W.kitx_own (cl.get _) cl.hd ha hn htk hm) I.kIn J e (fun z => nomatch z) h
end
end L2

namespace L2
open PySem PySem.Spec PyProof.Rows

/-! ### room -/
structure Room (k : Nat) (A : Around) : Prop where
  hd : A.handled = none
  dp : A.depth + 3 * k + 5 < recursionLimit
  un : A.units + 16 * k + 200 < cLine
  gd : A.guards = some []
theorem Room.mono {j k : Nat} {A : Around} (r : Room k A) (h : j ≤ k) : Room j A := ⟨r.hd, by have := r.dp; omega, by have := r.un; omega, r.gd⟩
theorem Room.deeper {k : Nat} {A : Around} (r : Room (k + 1) A) (env : Env) : Room k (A.deeper env) :=
  ⟨r.hd, by have := r.dp; show A.depth + 1 + 3 * k + 5 < _; omega, by have := r.un; show A.units + 3 + 16 * k + 200 < _; omega, r.gd⟩
theorem Room.in1 {k : Nat} {A : Around} (r : Room (k + 1) A) : Room k A.in1 :=
  ⟨r.hd, by have := r.dp; show A.depth + 3 * k + 5 < _; omega, by have := r.un; show A.units + 1 + 16 * k + 200 < _; omega, r.gd⟩
theorem Room.depth {k : Nat} {A : Around} (r : Room k A) : A.depth < recursionLimit := by have := r.dp; omega
theorem Room.units {k : Nat} {A : Around} (r : Room k A) : A.units + 64 < cLine := by have := r.un; omega

/-! ### argument lists and displays -/
noncomputable def tNil : TA := fun _ H Q => Q [] H
noncomputable def tCons (ta : TE) (tr : TA) : TA := fun σ H Q => ta σ H fun x H1 => tr σ H1 fun xs H2 => Q (x :: xs) H2
section
variable {X : Cx} {e : Expr} {es : List Expr} {te : TE} {t : TA} {pos : Pos}
theorem pa_nil : PA X [] tNil := fun _ _ _ _ H Q I h => Calls.spliced_nil ⟨[], H, I, .nil, h⟩
theorem pa_cons (ha : PE X e te) (hr : PA X es t) (hs : starEach (e :: es) X.env = (false, eval e X.env) :: starEach es X.env := by rfl) : PA X (e :: es) (tCons te t) := by
  intro pos pins s σ H Q I h
  rw [hs]
  show wpAny _ _ (spliced ((false, eval e X.env) :: backTo pos (starEach es X.env))) _ _ s
  refine Calls.spliced_cons (thn (ha pins s σ H _ I h) fun u s1 ⟨x, H1, I1, r1, q1⟩ => ?_)
  exact thn (hr pos pins s1 σ H1 _ I1 q1) fun us s2 ⟨xs, H2, I2, r2, q2⟩ => ⟨x :: xs, H2, I2, .cons r1 r2, q2⟩

/-- a tuple, a list of written items -/
noncomputable def tTup (t : TA) : TE := fun σ H Q => t σ H fun xs H1 => xs.length ≤ sizeLine ∧ ∀ p, H1 p = none → Q (.ref p) (upd H1 p (.tup xs))
noncomputable def tLst (t : TA) : TE := fun σ H Q => t σ H fun xs H1 => xs.length ≤ sizeLine ∧ ∀ p, H1 p = none → Q (.ref p) (upd H1 p (.lst xs))
theorem pe_tup {x1} (h : PA X es t) : PE X (.Tuple es x1 pos) (tTup t) := by
  intro pins s σ H Q I hq
  refine wpAny_Tuple_spliced (thn (h pos pins s σ H _ I hq) fun us s1 ⟨xs, H1, I1, r, z, q⟩ => ⟨by rw [← r.length]; exact z, ?_⟩)
  have hf : H1 s1.heap.objs.size = none := I1.hok.fresh (Nat.le_refl _)
  refine ⟨.ref s1.heap.objs.size, upd H1 s1.heap.objs.size (.tup xs), I1.laid (t' := s1.toks) (fun b u e => Heap.get?_push_of_some _ e) (Nat.le_refl _) ?_, rfl, q _ hf⟩
  exact ⟨z, us, r, ⟨_, Heap.get?_push_size _ rfl, rfl, _, rfl⟩⟩
theorem pe_lst (h : PA X es t) : PE X (.List es pos) (tLst t) := by
  intro pins s σ H Q I hq
  refine wpAny_List_spliced (thn (h pos pins s σ H _ I hq) fun us s1 ⟨xs, H1, I1, r, z, q⟩ => ⟨by rw [← r.length]; exact z, ?_⟩)
  have hf : H1 s1.heap.objs.size = none := I1.hok.fresh (Nat.le_refl _)
  refine ⟨.ref s1.heap.objs.size, upd H1 s1.heap.objs.size (.lst xs), I1.laid (t' := s1.toks) (fun b u e => Heap.get?_push_of_some _ e) (Nat.le_refl _) ?_, rfl, q _ hf⟩
  exact ⟨z, us, 0, r, Heap.get?_push_size _ rfl⟩
end

/-! ### what a def promises -/
/-- a def's promise: the bound arguments in the parameters' order, the heap, the wanted end, the wanted exception -/
noncomputable abbrev Sp := List V → Hp → VK → XK → Prop
/-- how an exception lies behind a call (file 08 gives it): the callers' frames, abstract heap and state ahead of the call, the wish, the exception, the state -/
noncomputable abbrev CXT := List Env → Hp → Shared → XK → Value → Shared → Prop

/-- the state at a call -/
structure Env0 (P : Program) (w : World) (K : PySem.W.Frag) (mg : Str → Option Value) (base : Heap) (A : Around) (outer : List Env) (s : Shared) (H : Hp) : Prop where
  frames : A.frames = some outer
  mod : Mod K mg base
  bs : ∀ b o, base.get? b = some o → s.heap.get? b = some o ∧ H b = none
  bsz : base.objs.size ≤ s.heap.objs.size
  funs : s.heap.FunFrames base outer
  frf : ∀ b ∈ frs outer, H b = none
  hok : HOk P w H s.heap
  bare : AllBare s.gens
/-- a call's end -/
noncomputable def CE (outer : List Env) (P : Program) (w : World) (H : Hp) (s : Shared) (Q : VK) (u : Value) (s' : Shared) : Prop :=
  ∃ v H', s'.os = s.os ∧ AllBare s'.gens ∧ Un (frs outer) [] H H' s.heap s'.heap ∧ HOk P w H' s'.heap ∧ RelV v u ∧ Q v H'
noncomputable def CR (CX : CXT) (outer : List Env) (P : Program) (w : World) (H : Hp) (s : Shared) (Q : VK) (E : XK) (r : Result) (s' : Shared) : Prop :=
  match r with
  | .ok (.ret u) => CE outer P w H s Q u s'
  | .ok _ => False
  | .error e => CX outer H s E e s'
structure FnOk (P : Program) (w : World) (K : PySem.W.Frag) (mg : Str → Option Value) (base : Heap) (CX : CXT) (k : Nat) (f : Addr) (fd : FuncData) (ps : List Str) (sp : Sp) : Prop where
  len : ∀ vs H Q E, sp vs H Q E → vs.length = ps.length
  run : ∀ (A : Around) (outer : List Env) (s : Shared) (H : Hp) (args : Args) (us : List Value) (vs : List V) (Q : VK) (E : XK), Room k A → Env0 P w K mg base A outer s H → BindsTo s fd args (ps.zip us) → Vals vs us → sp vs H Q E →
    codeAny (model P w) A (.call (.ref f) args) (CR CX outer P w H s Q E) s
theorem FnOk.mono {P : Program} {w : World} {K : PySem.W.Frag} {mg : Str → Option Value} {base : Heap} {CX : CXT} {j k : Nat} {f : Addr} {fd : FuncData} {ps : List Str} {sp : Sp} (F : FnOk P w K mg base CX j f fd ps sp) (h : j ≤ k) :
    FnOk P w K mg base CX k f fd ps sp := ⟨F.len, fun A outer s H args us vs Q E hr => F.run A outer s H args us vs Q E (hr.mono h)⟩

theorem Env0.in1 {P : Program} {w : World} {K : PySem.W.Frag} {mg : Str → Option Value} {base : Heap} {A : Around} {outer : List Env} {s : Shared} {H : Hp} (e : Env0 P w K mg base A outer s H) :
    Env0 P w K mg base A.in1 outer s H := ⟨e.frames, e.mod, e.bs, e.bsz, e.funs, e.frf, e.hok, e.bare⟩

section
variable {X : Cx} {pins : List (Addr × Obj)} {σ : St} {H : Hp} {s s' : Shared}
/-- from a body: what a callee wants -/
theorem Inv.env0 (I : Inv X pins σ H s) : Env0 X.prog X.w X.K X.mg X.base X.A X.stack s H :=
  ⟨I.ok.frames, I.ok.mod, I.bs, Nat.le_trans I.ok.bsz I.sz, I.stack, I.stkFree, I.hok, I.bare⟩
/-- behind a call -/
theorem Inv.after {Q : VK} {u : Value} (I : Inv X pins σ H s) (h : CE X.stack X.prog X.w H s Q u s') : EP X pins σ Q u s' := by
  obtain ⟨v, H', os, bare, un, hok, r, q⟩ := h
  obtain ⟨hh, g, d, t, os'⟩ := s'
  obtain rfl : os' = s.os := os
  exact ⟨v, H', I.call (h' := hh) (g' := g) (d' := d) (t' := t) (ch := []) un hok bare (fun b z => absurd z (by simp)), r, q⟩
end

/-! ### calls -/
/-- f(..): the written arguments, then the defaults dvs; E: what is wanted of an exception -/
noncomputable def tCall (sp : Sp) (dvs : List V) (E : XK) (t : TA) : TE := fun σ H Q => t σ H fun vs H1 => sp (vs ++ dvs) H1 Q E

/-- how the parameters are bound: us the positional arguments, kw the keywords' values by name, ds the defaults that fill up -/
noncomputable def Binds (K : PySem.W.Frag) (fd : FuncData) (ps : List Str) (ds : List Value) : Prop :=
  ∀ (s : Shared) (us : List Value), K.In s.heap → (us ++ ds).length = ps.length → BindsTo s fd ⟨us, []⟩ (ps.zip (us ++ ds))
/-- every parameter is given -/
theorem Binds.all {K : PySem.W.Frag} {fd : FuncData} {ps : List Str} (h : ∀ us : List Value, us.length = ps.length → bindArgs fd ⟨us, []⟩ = pure (ps.zip us)) : Binds K fd ps [] := fun s us _ hl => by
  rw [List.append_nil] at hl ⊢
  exact .of_eq (h us hl)

/-- an exception of a callee reaches what this body wants of exceptions -/
noncomputable def Passes (CX : CXT) (X : Cx) (E : XK) : Prop := ∀ (pins : List (Addr × Obj)) (σ : St) (H : Hp) (s : Shared) (e : Value) (s' : Shared), Inv X pins σ H s → CX X.stack H s E e s' → X.xe e s'

section
variable {X : Cx} {CX : CXT} {k : Nat} {f C : Addr} {fd : FuncData} {ps : List Str} {sp : Sp} {dvs : List V} {ds : List Value} {E : XK} {x m : Str} {p pos apos : Pos} {e o : Expr} {es : List Expr} {ta : TE} {t : TA}

/-- the callee runs -/
theorem run_fn {pins : List (Addr × Obj)} {σ : St} {H : Hp} {s : Shared} {Q : VK} {us : List Value} {vs : List V} (F : FnOk X.prog X.w X.K X.mg X.base CX k f fd ps sp) (hr : Room k X.A) (hb : Binds X.K fd ps ds) (hd : Vals dvs ds) (hx : Passes CX X E)
    (I : Inv X pins σ H s) (r : Vals vs us) (h : sp (vs ++ dvs) H Q E) : wpAny (model X.prog X.w) X.A (call (.ref f) us) (EP X pins σ Q) X.xe s := by
  have r2 : Vals (vs ++ dvs) (us ++ ds) := r.append hd
  have hl : (us ++ ds).length = ps.length := by rw [← r2.length]; exact F.len _ _ _ _ h
  refine wpAny_call (codeAny_mono (F.run X.A X.stack s H ⟨us, []⟩ (us ++ ds) (vs ++ dvs) Q E hr I.env0 (hb s us I.kIn hl) r2 h) fun r s' hq => ?_)
  cases r with
  | error e => exact hx pins σ H s e s' I hq
  | ok fl =>
    cases fl with
    | ret u => exact I.after hq
    | next => exact False.elim hq
    | brk => exact False.elim hq
    | cont => exact False.elim hq

theorem pe_call (F : FnOk X.prog X.w X.K X.mg X.base CX k f fd ps sp) (hr : Room k X.A) (hg : Gl X x) (hm : X.mg x = some (.ref f)) (hk : PySem.W.keepIn X.K (.ref f) = true) (hb : Binds X.K fd ps ds) (hd : Vals dvs ds) (hx : Passes CX X E)
    (ha : PA X (e :: es) t) (hdb : (x == ("__debug__" : Str)) = false := by decide) (he : starEach (e :: es) X.env = (false, eval e X.env) :: starEach es X.env := by rfl) (hpl : (backTo pos (starEach es X.env)).any (·.1) = false := by rfl) :
    PE X (.Call (.Name x p) (e :: es) [] pos) (tCall sp dvs E t) := by
  intro pins s σ H Q I h
  refine wpAny_Call_Name_kw (ld_glob I hg hm ?_ hdb)
  refine PySem.W.callWith_K (h₀ := X.base) I.ok.mod.kin hk (thn (ha pos pins s σ H _ I h) fun us s1 ⟨vs, H1, I1, r, q⟩ => ⟨I1.kIn, ?_⟩) he hpl
  exact run_fn F hr hb hd hx I1 r q


/-- what a class must have to be made -/
structure Mk (K : PySem.W.Frag) (C f : Addr) : Prop where
  makes : PySem.W.makesIn K C = true
  init : PySem.W.findIn K (.ref C) "__init__" = some (some (.ref f))
  fn : PySem.W.isFn K (.ref f) = true
  kp : PySem.W.keepIn K (.ref C) = true

end

/-! ### keywords -/
section
variable {X : Cx} {CX : CXT} {k : Nat} {f C : Addr} {fd : FuncData} {ps ks : List Str} {sp : Sp} {E : XK} {x m : Str} {p pos apos kpos : Pos} {e o : Expr} {es : List Expr} {kws : List Keyword} {te ta : TE} {t tk : TA} {nm : Option Str}

/-- how a call with keywords binds: g puts the positional values us and the keywords' values ws (names ks) in the parameters' order, defaults among them -/
structure KBinds (K : PySem.W.Frag) (fd : FuncData) (ps ks : List Str) (g : List Value → List Value → List Value) (gV : List V → List V → List V) : Prop where
  to : ∀ (s : Shared) (us ws : List Value), K.In s.heap → (g us ws).length = ps.length → BindsTo s fd ⟨us, ks.zip ws⟩ (ps.zip (g us ws))
  rel : ∀ {vs : List V} {us : List Value} {zs : List V} {ws : List Value}, Vals vs us → Vals zs ws → Vals (gV vs zs) (g us ws)
variable {g : List Value → List Value → List Value} {gV : List V → List V → List V}
end

/-! ### a def's body keeps its promise -/
/-- names: the parameters first -/
structure FnScope (N P : List Str) (sc : Scope) : Prop where
  kind : sc.kind = .function
  co : sc.isCoroutine = false
  gen : sc.isGenerator = false
  nd : N.Nodup
  pre : N.take P.length = P
  par : ∀ x ∈ P, sc.names.lookup x = some .local ∨ sc.names.lookup x = some .cell
  nofree : ∀ y ∈ sc.names, y.2 ≠ .free

theorem bindL_out {kindOf : Str → Option NameKind} {x : Str} : ∀ {binds : List (Str × Value)} {m : Str → Option Value}, (∀ v, (x, v) ∉ binds) → bindL kindOf binds m x = m x
  | [], _, _ => rfl
  | (n, v) :: r, m, h => by
    unfold bindL
    rw [bindL_out fun w hw => h w (List.mem_cons_of_mem _ hw)]
    split
    · have : x ≠ n := by rintro rfl; exact h v List.mem_cons_self
      simp [this]
    · rfl
theorem bindC_out {kindOf : Str → Option NameKind} {x : Str} : ∀ {binds : List (Str × Value)} {m : Str → Option Value}, (∀ v, (x, v) ∉ binds) → bindC kindOf binds m x = m x
  | [], _, _ => rfl
  | (n, v) :: r, m, h => by
    unfold bindC
    rw [bindC_out fun w hw => h w (List.mem_cons_of_mem _ hw)]
    split
    · rfl
    · have : x ≠ n := by rintro rfl; exact h v List.mem_cons_self
      simp [this]
theorem bindL_get {kindOf : Str → Option NameKind} {x : Str} {v : Value} : ∀ {P : List Str} {vs : List Value} {i : Nat} {m : Str → Option Value}, P.Nodup → P[i]? = some x → vs[i]? = some v → kindOf x = some .local →
    bindL kindOf (P.zip vs) m x = some v
  | [], _, _, _, _, h, _, _ => by simp at h
  | _ :: _, [], _, _, _, _, h, _ => by simp at h
  | p :: P, w :: vs, 0, m, nd, h1, h2, hk => by
    simp at h1 h2; subst h1; subst h2
    show bindL kindOf ((p, w) :: P.zip vs) m p = _
    unfold bindL
    rw [bindL_out fun v hv => (List.nodup_cons.mp nd).1 (List.of_mem_zip hv).1, if_pos hk]
    simp
  | p :: P, w :: vs, i + 1, m, nd, h1, h2, hk => by
    show bindL kindOf ((p, w) :: P.zip vs) m x = _
    unfold bindL
    exact bindL_get (i := i) (List.nodup_cons.mp nd).2 (by simpa using h1) (by simpa using h2) hk
theorem bindC_get {kindOf : Str → Option NameKind} {x : Str} {v : Value} : ∀ {P : List Str} {vs : List Value} {i : Nat} {m : Str → Option Value}, P.Nodup → P[i]? = some x → vs[i]? = some v → kindOf x ≠ some .local →
    bindC kindOf (P.zip vs) m x = some v
  | [], _, _, _, _, h, _, _ => by simp at h
  | _ :: _, [], _, _, _, _, h, _ => by simp at h
  | p :: P, w :: vs, 0, m, nd, h1, h2, hk => by
    simp at h1 h2; subst h1; subst h2
    show bindC kindOf ((p, w) :: P.zip vs) m p = _
    unfold bindC
    rw [bindC_out fun v hv => (List.nodup_cons.mp nd).1 (List.of_mem_zip hv).1, if_neg hk]
    simp
  | p :: P, w :: vs, i + 1, m, nd, h1, h2, hk => by
    show bindC kindOf ((p, w) :: P.zip vs) m x = _
    unfold bindC
    exact bindC_get (i := i) (List.nodup_cons.mp nd).2 (by simpa using h1) (by simpa using h2) hk

/-- the names' values at the entry -/
noncomputable def start (N : List Str) (vs : List V) : St := vs.map some ++ List.replicate (N.length - vs.length) none

/-- the context of a def's body, at its entry; an exception leaves the frame, then lies as CX says -/
noncomputable def cxOf (CX : CXT) (P : Program) (w : World) (K : PySem.W.Frag) (mg : Str → Option Value) (base : Heap) (N : List Str) (qual : Str) (scope : Scope) (f : Addr) (cd : Value) (A : Around) (outer : List Env) (s : Shared) (H : Hp) (E : XK) : Cx where
  prog := P
  w := w
  K := K
  mg := mg
  base := base
  A := A.deeper (envOfC qual scope s.heap.objs.size f cd)
  N := N
  s₀ := s
  H₀ := H
  env := envOfC qual scope s.heap.objs.size f cd
  outer := outer
  stack := envOfC qual scope s.heap.objs.size f cd :: outer
  ex := []
  calm := true
  fn := fun _ => true
  pn := []
  xe := fun e s' => wpAny (model P w) (A.deeper (envOfC qual scope s.heap.objs.size f cd)) (leaving (envOfC qual scope s.heap.objs.size f cd) e) (fun _ s'' => CX outer H s E e s'') (fun e' s'' => CX outer H s E e' s'') s'

theorem cell_has {sc : Scope} {n : Nat} {x : Str} (h : sc.names.lookup x = some .cell) : ∃ c, (cellsFrom n sc.names []).lookup x = some c := by
  have q := PySem.W.cellsFrom_some sc.names n [] (.inl h)
  exact Option.isSome_iff_exists.mp q

theorem inv_start {CX : CXT} {P : Program} {w : World} {K : PySem.W.Frag} {mg : Str → Option Value} {base : Heap} {N ps : List Str} {qual : Str} {scope : Scope} {f : Addr} {cd : Value} {A : Around} {outer : List Env} {s s1 : Shared} {H : Hp} {E : XK} {us : List Value} {vs : List V}
    (S : FnScope N ps scope) (hd : A.handled = none) (e0 : Env0 P w K mg base A outer s H) (hl : vs.length = ps.length) (r : Vals vs us)
    (x : InCallC s s.heap.objs.size (bindL (envOfC qual scope s.heap.objs.size f cd).kindOf (ps.zip us) fun _ => none) (cellsFrom (s.heap.objs.size + 1) scope.names []) (bindC (envOfC qual scope s.heap.objs.size f cd).kindOf (ps.zip us) fun _ => none) s1) :
    Inv (cxOf CX P w K mg base N qual scope f cd A outer s H E) [] (start N vs) H s1 := by
  have hpl : ps.length ≤ N.length := by have := congrArg List.length S.pre; rw [List.length_take] at this; omega
  obtain ⟨h1, tk, rfl, hk⟩ := x.done
  have noA : ∀ b : Addr, b ∉ (cxOf CX P w K mg base N qual scope f cd A outer s H E).ex := fun b z => absurd (show b ∈ ([] : List Addr) from z) (by simp)
  refine ⟨⟨e0.mod, S.kind, rfl, rfl, Nat.le_refl _, fun y z c h1 h2 => ?_, fun y hy => ?_, fun y c _ h => ?_, fun _ => hd, Around.frames_deeper e0.frames, .inr ⟨rfl, rfl⟩, fun b z => absurd z (noA b), e0.bs, e0.bsz, fun b _ _ => noA b, fun b z => absurd z (noA b), e0.funs, e0.frf⟩,
    rfl, e0.bare, Un.kept hk, ⟨_, x.toInCall.ns, fun i y v h1 h2 h3 => ?_⟩, fun y c h => ⟨_, x.cell y c h⟩, e0.hok.fresh (Nat.le_refl _), fun y c h => ?_, fun p hp => absurd (show p ∈ ([] : List (Addr × Obj)) from hp) (by simp), e0.hok.kept hk, ?_⟩
  · exact name_of_addr x.apart (PySem.mem_of_lookup h1) (PySem.mem_of_lookup h2)
  · have hy : scope.names.lookup y = some .cell ∨ scope.names.lookup y = some .free := hy
    rcases hy with hy | hy
    · exact cell_has hy
    · exact absurd rfl (S.nofree _ (PySem.mem_of_lookup hy))
  · exact Nat.le_of_lt (x.above y c (PySem.mem_of_lookup h))
  · have hi : i < vs.length := by
      unfold start at h2
      by_cases hi : i < vs.length
      · exact hi
      · rw [List.getElem?_append_right (by simpa using hi)] at h2
        rw [List.getElem?_replicate] at h2
        split at h2 <;> cases h2
    have ha : vs[i]? = some v := by
      unfold start at h2
      rw [List.getElem?_append_left (by simpa using hi), List.getElem?_map] at h2
      cases e : vs[i]? with
      | none => rw [e] at h2; cases h2
      | some a => rw [e] at h2; cases h2; rfl
    obtain ⟨u, hu, rv⟩ := r.get ha
    have hp : ps[i]? = some y := by
      rw [← S.pre, List.getElem?_take_of_lt (by omega)]; exact h1
    have ndP : ps.Nodup := by rw [← S.pre]; exact S.nd.sublist (List.take_sublist _ _)
    refine ⟨u, rv, ?_⟩
    rcases S.par y (List.mem_of_getElem? hp) with k | k
    · exact .inl ⟨k, bindL_get ndP hp hu k⟩
    · obtain ⟨c, e⟩ := cell_has (n := s.heap.objs.size + 1) k
      refine .inr ⟨.inl k, c, e, ?_⟩
      have q := x.cell y c e
      rw [bindC_get ndP hp hu (by show scope.names.lookup y ≠ _; rw [k]; decide)] at q
      exact q
  · exact e0.hok.fresh (Nat.le_of_lt (x.above y c (PySem.mem_of_lookup h)))
  · unfold start
    show _ = N.length
    rw [List.length_append, List.length_map, List.length_replicate]
    omega

/-- THE RULE: a def (or a method) of the text, by its body. The body's reading t is chosen for each entry; it is run at the parameters' values -/
theorem fn_of {CX : CXT} {P : Program} {w : World} {K : PySem.W.Frag} {mg : Str → Option Value} {base : Heap} {k : Nat} {f : Addr} {name qual : Str} {params : Arguments} {body : List Stmt} {scope : Scope} {dV kV doc pm cdv ct oc : Value} {an od : Option Addr}
    {osl : Array (Option Value)} {N ps : List Str} {sp : Sp} (lk : K.lookup f = some ⟨oc, od, .func (PySem.W.fnOf name qual params body scope dV kV doc pm an cdv ct), osl⟩) (hcd : PySem.W.codeIn K cdv qual = true) (S : FnScope N ps scope)
    (len : ∀ vs H Q E, sp vs H Q E → vs.length = ps.length)
    (hbody : ∀ (A : Around) (outer : List Env) (s : Shared) (H : Hp) (vs : List V) (Q : VK) (E : XK), Room k (A.deeper (envOfC qual scope s.heap.objs.size f cdv)) → sp vs H Q E →
      ∃ t, PSs (cxOf CX P w K mg base N qual scope f cdv A outer s H E) body t ∧ t { nx := fun _ H' => Q .non H', rt := Q } (start N vs) H) :
    FnOk P w K mg base CX (k + 1) f (PySem.W.fnOf name qual params body scope dV kV doc pm an cdv ct) ps sp := by
  refine ⟨len, fun A outer s H args us vs Q E hr e0 hb r hsp => ?_⟩
  have hl := len _ _ _ _ hsp
  have KX : K.In s.heap := e0.mod.kin.keeps fun b o e => (e0.bs b o e).1
  have lim : s.heap.NoLimit := e0.mod.nolimit.keeps fun b o e => (e0.bs b o e).1
  have hkind : ∀ y ∈ ps.zip us, scope.names.lookup y.1 = some .local ∨ (scope.names.lookup y.1 = some .cell ∧ ((cellsFrom (s.heap.objs.size + 1) scope.names []).lookup y.1).isSome = true) := fun ⟨n, v⟩ hy => by
    rcases S.par n (List.of_mem_zip hy).1 with q | q
    · exact .inl q
    · exact .inr ⟨q, PySem.W.cellsFrom_some _ _ _ (.inl q)⟩
  refine codeAny_call_function hr.depth (KX _ _ lk) rfl S.co S.gen rfl (PySem.W.codeRec_of KX hcd) (hb _ _ _ _ ?_)
  refine wpAny_newFunctionEnv_cells S.kind hkind fun env he s1 x => ?_
  subst he
  refine ⟨lim.keeps x.toInCall.keep, codeAny_func ?_⟩
  obtain ⟨t, ht, hq⟩ := hbody A outer s H vs Q E (hr.deeper _) hsp
  have I : Inv (cxOf CX P w K mg base N qual scope f cdv A outer s H E) [] (start N vs) H s1 := inv_start S hr.hd e0 hl r x
  refine wpAny_mono (ht [] s1 (start N vs) H _ I hq) (fun fl s' hs => ?_) fun e s' hs => hs
  have fin : ∀ {σ' : St} {H' : Hp} {v : V} {u : Value}, Inv (cxOf CX P w K mg base N qual scope f cdv A outer s H E) [] σ' H' s' → RelV v u → Q v H' → CE outer P w H s Q u s' :=
    fun {σ' H' v u} J rv q => ⟨v, H', J.os, J.bare, J.base, J.hok, rv, q⟩
  cases fl with
  | ret u =>
    obtain ⟨v, σ', H', J, rv, q⟩ := hs
    exact fin J rv q
  | next =>
    obtain ⟨σ', H', J, q⟩ := hs
    exact fin (v := V.non) (u := Value.none) J rfl q
  | brk =>
    obtain ⟨_, _, _, q⟩ := hs
    exact False.elim q
  | cont =>
    obtain ⟨_, _, _, q⟩ := hs
    exact False.elim q
end L2

namespace L2
open PySem PySem.Spec PyProof.Rows
section
variable {X : Cx} {x : Str} {p pos : Pos} {e : Expr} {es : List Expr} {t : TA} {id T : String} {r : List V → Hp → VK → Prop}

noncomputable def tCB (r : List V → Hp → VK → Prop) (t : TA) : TE := fun σ H Q => t σ H fun vs H1 => r vs H1 Q
/-- f(e, ..), f a built-in function -/
theorem pe_callB (hc : CallR X (.builtin id) r) (hg : Gl X x) (hm : X.mg x = none) (hv : bootBuiltins x = some (.builtin id)) (ha : PA X (e :: es) t) (hn : x ≠ "__name__" := by decide) (hdb : (x == ("__debug__" : Str)) = false := by decide)
    (he : starEach (e :: es) X.env = (false, eval e X.env) :: starEach es X.env := by rfl) (hpl : (backTo pos (starEach es X.env)).any (·.1) = false := by rfl) : PE X (.Call (.Name x p) (e :: es) [] pos) (tCB r t) := by
  intro pins s σ H Q I h
  refine wpAny_Call_Name_kw (ld_blt I hg hm hv ?_ hn hdb)
  exact PyProof.Rows.callWith_builtin1 (thn (ha pos pins s σ H _ I h) fun us s1 ⟨vs, H1, I1, r1, q1⟩ => hc pins s1 σ H1 vs us Q I1 r1 q1) he hpl
/-- T(e, ..), T a built-in type -/
theorem pe_callTy (hc : CallR X (.type T) r) (hg : Gl X x) (hm : X.mg x = none) (hv : bootBuiltins x = some (.type T)) (ha : PA X (e :: es) t) (hn : x ≠ "__name__" := by decide) (hdb : (x == ("__debug__" : Str)) = false := by decide)
    (he : starEach (e :: es) X.env = (false, eval e X.env) :: starEach es X.env := by rfl) (hpl : (backTo pos (starEach es X.env)).any (·.1) = false := by rfl) : PE X (.Call (.Name x p) (e :: es) [] pos) (tCB r t) := by
  intro pins s σ H Q I h
  refine wpAny_Call_Name_kw (ld_blt I hg hm hv ?_ hn hdb)
  exact PyProof.Rows.callWith_type1 (thn (ha pos pins s σ H _ I h) fun us s1 ⟨vs, H1, I1, r1, q1⟩ => hc pins s1 σ H1 vs us Q I1 r1 q1) he hpl
end
end L2

namespace HT
open PySem PyProof.Rows



section
open PySem.SeqAt
open PySem.AutoSeq1 (wpAny_loadPart')
open PySem.MeetsSeq PySem.MeetsSeq2 PySem.MeetsSeq3

end

section
variable {prog : Program} {w : World} {A : Around} {E : Value → Shared → Prop} {s : Shared}


/-- t + u, t not empty -/
theorem cat_tup {t b : Addr} {vs ws : List Value} {Q : Value → Shared → Prop} (ht : IsTup s.heap t vs.toArray) (hb : IsTup s.heap b ws.toArray) (hv : vs ≠ [])
    (h1 : ws = [] → Q (.ref t) s) (h2 : ws ≠ [] → Q (.ref s.heap.objs.size) { s with heap := s.heap.push { cls := .type "tuple", data := .seq (vs ++ ws).toArray } })
    (hsz : vs.length + ws.length ≤ sizeLine) : wpAny (model prog w) A (binaryOp .Add (.ref t) (.ref b)) Q E s := by
  obtain ⟨⟨cls, dd, data, sl⟩, ho, hc, n, hd⟩ := id ht
  obtain ⟨⟨cls2, dd2, data2, sl2⟩, ho2, hc2, n2, hd2⟩ := id hb
  simp only at hc hd hc2 hd2
  subst hc hd hc2 hd2
  have e : vs.toArray ++ ws.toArray = (vs ++ ws).toArray := by simp
  by_cases hw : ws = []
  · exact concat_meets ⟨_, ho, rfl⟩ ⟨_, ho2, rfl⟩ noFill_tuple_add seq_tuple_add PySem.F.slot_tuple_add PySem.F.entry_tuple_add (PySem.F.args_tuple_add_2 _ _)
      (tuple_addW1 t b vs.toArray ws.toArray n n2 dd dd2 sl sl2 (by simpa using hv) (by simp [hw])) ⟨ho, ho2, h1 hw⟩
  · refine concat_meets ⟨_, ho, rfl⟩ ⟨_, ho2, rfl⟩ noFill_tuple_add seq_tuple_add PySem.F.slot_tuple_add PySem.F.entry_tuple_add (PySem.F.args_tuple_add_2 _ _)
      (tuple_addW2 t b vs.toArray ws.toArray n n2 dd dd2 sl sl2 (by simpa using hv) (by simpa using hw) (by rw [List.size_toArray, List.size_toArray]; exact hsz)) ⟨ho, ho2, ?_⟩
    rw [e]
    exact h2 hw

/-! ### t[a:b], not the whole -/
/-- a slice's bound as a place among n (d where it is left out) -/
noncomputable def sIx (n d : Nat) : Option Int → Nat
  | none => d
  | some v => if v < 0 then (v + (n : Int)).toNat else min v.toNat n
theorem sIx_nat (n d k : Nat) : sIx n d (some (k : Int)) = min k n := by
  show (if (k : Int) < 0 then ((k : Int) + (n : Int)).toNat else min (k : Int).toNat n) = min k n
  rw [if_neg (by omega), Int.toNat_natCast]
theorem sIx_le (n d : Nat) (hd : d ≤ n) (o : Option Int) : sIx n d o ≤ n := by
  cases o with
  | none => exact hd
  | some v =>
    show (if v < 0 then (v + (n : Int)).toNat else min v.toNat n) ≤ n
    by_cases hv : v < 0
    · rw [if_pos hv]; omega
    · rw [if_neg hv]; exact Nat.min_le_right _ _
theorem clip_eq (v : Int) (n d : Nat) : (if v < 0 then max (v + (n : Int)) 0 else min v (n : Int)) = ((sIx n d (some v) : Nat) : Int) := by
  show (if v < 0 then max (v + (n : Int)) 0 else min v (n : Int)) = (((if v < 0 then (v + (n : Int)).toNat else min v.toNat n) : Nat) : Int)
  by_cases hv : v < 0
  · simp only [if_pos hv]; omega
  · simp only [if_neg hv]; omega
theorem adjust_gen (lo hi : Option Int) (n : Nat) : Builtin.Slice.sliceAdjust lo hi 1 (n : Int) = (((sIx n 0 lo : Nat) : Int), ((sIx n n hi : Nat) : Int)) := by
  have h1 : ¬ ((1 : Int) < 0) := by omega
  unfold Builtin.Slice.sliceAdjust
  simp only [h1, if_false]
  refine Prod.ext ?_ ?_
  · cases lo with
    | none => rfl
    | some v => exact clip_eq v n 0
  · cases hi with
    | none => rfl
    | some v => exact clip_eq v n n
theorem places_gen (i j : Nat) : Builtin.Slice.slicePlaces (i : Int) (j : Int) 1 = j - i := by
  unfold Builtin.Slice.slicePlaces
  have h1 : (1 : Int) > 0 := by omega
  simp only [h1, if_true, Int.ediv_one]
  split <;> omega
theorem slicePart_ {v : Value} {o : Option Int} {Q : Option Int → Shared → Prop} (p : IsPart v o) (h : Q o s) : wpAny (model prog w) A (Builtin.Slice.slicePartIndex v) Q E s := by
  cases p with
  | none => exact slicePart_none h
  | int i t => exact slicePart_int h
theorem sliceApplied_gen {sl : Addr} {vl vu : Value} {lo hi : Option Int} {n : Nat} {Q : Int × Int × Nat → Shared → Prop} (hs : s.heap.IsSliceOf sl vl vu .none) (pl : IsPart vl lo) (pu : IsPart vu hi)
    (h : Q (((sIx n 0 lo : Nat) : Int), 1, sIx n n hi - sIx n 0 lo) s) : wpAny (model prog w) A (Builtin.Slice.sliceApplied (.ref sl) (pure (n : Int))) Q E s := by
  obtain ⟨os, hos, hcs, hds⟩ := id hs
  unfold Builtin.Slice.sliceApplied Builtin.Slice.sliceFields
  refine wpAny_bind (wpAny_bind (wpAny_field hos hds (x := vl) rfl (wpAny_bind (wpAny_field hos hds (x := vu) rfl (wpAny_bind (wpAny_field hos hds (x := .none) rfl (wpAny_pure ?_)))))))
  refine wpAny_bind (slicePart_none ?_)
  show wpAny _ _ (if ((1 : Int) == 0) = true then _ else _) _ _ s
  rw [if_neg (by decide)]
  refine wpAny_bind (slicePart_ pl (wpAny_bind (slicePart_ pu (wpAny_bind (wpAny_pure ?_)))))
  show wpAny _ _ (match Builtin.Slice.sliceAdjust lo hi 1 (n : Int) with | (lo, hi) => pure (lo, (1 : Int), Builtin.Slice.slicePlaces lo hi 1)) _ _ s
  rw [adjust_gen lo hi n]
  show wpAny _ _ (pure (((sIx n 0 lo : Nat) : Int), (1 : Int), Builtin.Slice.slicePlaces ((sIx n 0 lo : Nat) : Int) ((sIx n n hi : Nat) : Int) 1)) _ _ s
  rw [places_gen]
  exact wpAny_pure h
theorem pick_gen (xs : Array Value) (i k : Nat) : ((List.range k).filterMap fun (m : Nat) => xs[((i : Int) + (m : Int) * 1).toNat]?).toArray = ((xs.toList.drop i).take k).toArray := by
  have e : (fun (m : Nat) => xs[((i : Int) + (m : Int) * 1).toNat]?) = fun m => xs[i + m]? := by
    funext m
    have : ((i : Int) + (m : Int) * 1).toNat = i + m := by omega
    rw [this]
  rw [e]
  have := pick_run xs i k
  rw [List.filterMap_map] at this
  have e2 : ((fun x => xs[x]?) ∘ fun x => i + x) = fun m => xs[i + m]? := rfl
  rw [e2] at this
  rw [this]

theorem getItem_tuple_cut {t sl : Addr} {items : Array Value} {vl vu : Value} {lo hi : Option Int} {Q : Value → Shared → Prop} (ht : IsTup s.heap t items) (hs : s.heap.IsSliceOf sl vl vu .none) (pl : IsPart vl lo) (pu : IsPart vu hi)
    (hw : ¬ (sIx items.size 0 lo = 0 ∧ sIx items.size items.size hi = items.size))
    (h : Q (.ref s.heap.objs.size) { s with heap := s.heap.push { cls := .type "tuple", data := .seq ((items.toList.drop (sIx items.size 0 lo)).take (sIx items.size items.size hi - sIx items.size 0 lo)).toArray } })
    (hsz : items.size ≤ sizeLine) : wpAny (model prog w) A (getItem (.ref t) (.ref sl)) Q E s := by
  have htake : sizeOk (.seq ((items.toList.drop (sIx items.size 0 lo)).take (sIx items.size items.size hi - sIx items.size 0 lo)).toArray) := by
    show ((items.toList.drop (sIx items.size 0 lo)).take (sIx items.size items.size hi - sIx items.size 0 lo)).toArray.size ≤ sizeLine
    rw [List.size_toArray, List.length_take, List.length_drop, Array.length_toList]
    omega
  have hj : sIx items.size items.size hi ≤ items.size := sIx_le _ _ (Nat.le_refl _) hi
  obtain ⟨os, hos, hcs, hds⟩ := id hs
  have hTs : s.TypeIs (.ref sl) "slice" := ⟨os, hos, hcs⟩
  unfold getItem
  try with_reducible refine wpAny_holding ?_
  first | refine wpAny_bind (wpAny_pure ?_) | skip
  refine wpAny_bind (wpAny_sequenceKey ht.typeIs (by decide) ?_)
  refine wpAny_bind (wpAny_callSpecial?_slot (name := Str.ofString "__getitem__") ht.typeIs PyProof.Rows.slot_tuple_getitem
    (wpAny_call_entry PyProof.Rows.slot_tuple_getitem ht.typeIs entry_tuple_getitem ?_ (args_tuple_getitem _ _)))
  show wpAny _ _ (Builtin.Tuple.tupleItemsOf (.ref t) >>= _) _ _ s
  refine wpAny_bind (tupleItemsOf_ ht ?_)
  refine wpAny_bind (wpAny_typeOf hTs ?_)
  rw [if_pos (by decide)]
  refine wpAny_bind (sliceApplied_gen hs pl pu ?_)
  have hno : ¬ ((((sIx items.size 0 lo : Nat) : Int) == 0 && (1 : Int) == 1 && (sIx items.size items.size hi - sIx items.size 0 lo) == items.size) = true) := by
    intro q
    rw [Bool.and_eq_true, Bool.and_eq_true] at q
    have q1 : ((sIx items.size 0 lo : Nat) : Int) = 0 := eq_of_beq q.1.1
    have q2 : sIx items.size items.size hi - sIx items.size 0 lo = items.size := eq_of_beq q.2
    exact hw ⟨by omega, by omega⟩
  show wpAny _ _ (if (((sIx items.size 0 lo : Nat) : Int) == 0 && (1 : Int) == 1 && (sIx items.size items.size hi - sIx items.size 0 lo) == items.size) = true then _ else _) _ _ s
  rw [if_neg hno, pick_gen]
  first
    | exact wpAny_bind (m := Builtin.Tuple.tupleExact _) (wpAny_newObj_type (wpAny_pure ⟨_, rfl, wpAny_pure h⟩) htake)
    | exact wpAny_bind (m := Builtin.Tuple.tupleExact _) (wpAny_newObj_type (wpAny_bind (wpAny_pure (wpAny_pure ⟨_, rfl, wpAny_pure h⟩))) htake)
    | exact wpAny_bind (wpAny_bind (m := Builtin.Tuple.tupleExact _) (wpAny_newObj_type (wpAny_pure (wpAny_pure ⟨_, rfl, wpAny_pure h⟩)) htake))
    | exact wpAny_bind (wpAny_bind (m := Builtin.Tuple.tupleExact _) (wpAny_newObj_type (wpAny_pure ⟨_, rfl, wpAny_pure h⟩) htake))
end
end HT

namespace L2
open PySem PySem.Spec PyProof.Rows

/-! ### the parts of a slice -/
noncomputable abbrev TO := St → Hp → (Option Int → Hp → Prop) → Prop
/-- a slice's part (left out, or an int) -/
noncomputable def PO (X : Cx) (e : Option Expr) (t : TO) : Prop :=
  ∀ (pins : List (Addr × Obj)) (s : Shared) (σ : St) (H : Hp) (Q : Option Int → Hp → Prop), Inv X pins σ H s → t σ H Q →
    wpAny (model X.prog X.w) X.A (evalPart e X.env) (fun u s' => ∃ o H', Inv X pins σ H' s' ∧ IsPart u o ∧ Q o H') X.xe s
noncomputable def tNoPart : TO := fun _ H Q => Q none H
noncomputable def tPart (t : TE) : TO := fun σ H Q => t σ H fun x H1 => ∃ i, x = .int i ∧ Q (some i) H1


section
variable {X : Cx} {e : Expr} {te : TE} {lo hi : Option Expr} {tl th : TO} {pos p2 : Pos}

theorem po_none : PO X none tNoPart := by
  intro pins s σ H Q I h
  rw [evalPart_none]
  exact wpAny_pure ⟨none, H, I, .none, h⟩
theorem po_some (h : PE X e te) : PO X (some e) (tPart te) := by
  intro pins s σ H Q I hw
  rw [evalPart_some]
  refine thn (h pins s σ H _ I hw) fun u s1 ⟨x, H1, I1, r1, q1⟩ => ?_
  obtain ⟨i, rfl, q⟩ := q1
  obtain ⟨t, rfl⟩ := r1
  exact ⟨some i, H1, I1, .int i t, q⟩

/-- what a slice of a value is, by values: the slice object stands at sl -/
noncomputable def SlR (X : Cx) (r : V → Option Int → Option Int → Hp → VK → Prop) : Prop :=
  ∀ (pins : List (Addr × Obj)) (s : Shared) (σ : St) (H : Hp) (x : V) (v vl vu : Value) (lo hi : Option Int) (sl : Addr) (Q : VK), Inv X pins σ H s → RelV x v → s.heap.IsSliceOf sl vl vu .none → IsPart vl lo → IsPart vu hi → r x lo hi H Q →
    ∃ T id, typeLookup (.type T) "__getitem__" = pure (some (.builtin id)) ∧ s.TypeIs v T ∧ wpAny (model X.prog X.w) X.A (getItem v (.ref sl)) (EP X pins σ Q) X.xe s
theorem SlR.or {r r' : V → Option Int → Option Int → Hp → VK → Prop} (h : SlR X r) (h' : SlR X r') : SlR X (fun x lo hi H Q => r x lo hi H Q ∨ r' x lo hi H Q) := by
  intro pins s σ H x v vl vu lo hi sl Q I rx hs pl pu q
  rcases q with q | q
  · exact h pins s σ H x v vl vu lo hi sl Q I rx hs pl pu q
  · exact h' pins s σ H x v vl vu lo hi sl Q I rx hs pl pu q
noncomputable def tSl (r : V → Option Int → Option Int → Hp → VK → Prop) (te : TE) (tl th : TO) : TE := fun σ H Q => te σ H fun x H1 => tl σ H1 fun l H2 => th σ H2 fun u H3 => r x l u H3 Q
/-- a[lo:hi], any a -/
theorem pe_slice {r : V → Option Int → Option Int → Hp → VK → Prop} (hr : SlR X r) (he : PE X e te) (hl : PO X lo tl) (hu : PO X hi th) : PE X (.Subscript e (.Slice lo hi none p2) pos) (tSl r te tl th) := by
  intro pins s σ H Q I h
  refine Subscript_ (thn (he pins s σ H _ I h) fun v s1 ⟨x, H1, I1, r1, q1⟩ => ?_)
  refine wpAny_Slice (thn (hl pins s1 σ H1 _ I1 q1) fun vl s2 ⟨l, H2, I2, pl, q2⟩ => thn (hu pins s2 σ H2 _ I2 q2) fun vu s3 ⟨u, H3, I3, pu, q3⟩ => ?_)
  rw [evalPart_none]
  refine wpAny_pure ?_
  have I4 : Inv X pins σ H3 { s3 with heap := s3.heap.push { cls := .type "slice", data := .fields #[vl, vu, .none] } } := I3.kept (t' := s3.toks) fun b ob q => Heap.get?_push_of_some _ q
  obtain ⟨T, id, hT, ht, hg⟩ := hr pins { s3 with heap := s3.heap.push { cls := .type "slice", data := .fields #[vl, vu, .none] } } σ H3 x v vl vu l u s3.heap.objs.size Q I4 r1 (Heap.IsSliceOf.new ..) pl pu q3
  show wpAny (model X.prog X.w) X.A (subscriptTail e (.Slice lo hi none p2) v (.ref s3.heap.objs.size)) (EP X pins σ Q) X.xe { s3 with heap := s3.heap.push { cls := .type "slice", data := .fields #[vl, vu, .none] } }
  exact tail_any (ops := [.ref s3.heap.objs.size, v]) ht hT hg (by with_unfolding_all rfl)

/-- the items of xs[lo:hi] -/
noncomputable def cutV (xs : List V) (lo hi : Option Int) : List V := (xs.drop (HT.sIx xs.length 0 lo)).take (HT.sIx xs.length xs.length hi - HT.sIx xs.length 0 lo)
theorem cutV_length (xs : List V) (lo hi : Option Int) : (cutV xs lo hi).length ≤ xs.length := by
  unfold cutV
  rw [List.length_take, List.length_drop]
  omega
/-- t[lo:hi], not the whole of it (the whole would be t itself) -/
noncomputable def rSlT (K : PySem.W.Frag) : V → Option Int → Option Int → Hp → VK → Prop := fun x lo hi H Q => ∃ a xs, x = .ref a ∧ SqT K H a xs ∧
  ¬ (HT.sIx xs.length 0 lo = 0 ∧ HT.sIx xs.length xs.length hi = xs.length) ∧ ∀ p, H p = none → Q (.ref p) (upd H p (.tup (cutV xs lo hi)))
theorem sl_tup : SlR X (rSlT X.K) := by
  intro pins s σ H x v vl vu lo hi sl Q I rx hs pl pu h
  obtain ⟨a, xs, rfl, hx, hw, q⟩ := h
  cases rx
  obtain ⟨its, r, ht, hz⟩ := I.tuple hx
  have hlen : its.toArray.size = xs.length := by rw [List.size_toArray]; exact r.length.symm
  refine ⟨"tuple", _, PyProof.Rows.slot_tuple_getitem.lookup, ht.typeIs, ?_⟩
  refine HT.getItem_tuple_cut ht hs pl pu (by rw [hlen]; exact hw) ?_ (by rw [hlen]; exact hz)
  rw [hlen]
  refine ⟨.ref s.heap.objs.size, _, I.laid (t' := s.toks) (o := .tup (cutV xs lo hi)) (fun b ob q => Heap.get?_push_of_some _ q) (Nat.le_refl _) ?_, rfl, q _ (I.hok.fresh (Nat.le_refl _))⟩
  exact ⟨Nat.le_trans (cutV_length xs lo hi) hz, _, (r.drop (HT.sIx xs.length 0 lo)).take (HT.sIx xs.length xs.length hi - HT.sIx xs.length 0 lo), IsTup.new _ _⟩

/-! ### t < u, t + u -/
/-- t + u, t not empty: u empty gives t itself -/
noncomputable def rCatT (K : PySem.W.Frag) : R2 := fun x y H Q => ∃ a b xs ys, x = .ref a ∧ y = .ref b ∧ SqT K H a xs ∧ SqT K H b ys ∧ xs ≠ [] ∧ xs.length + ys.length ≤ sizeLine ∧
  (ys = [] → Q (.ref a) H) ∧ (ys ≠ [] → ∀ p, H p = none → Q (.ref p) (upd H p (.tup (xs ++ ys))))
theorem Vals.nil_iff {xs : List V} {us : List Value} (r : Vals xs us) : us = [] ↔ xs = [] := by
  cases r with
  | nil => simp
  | cons _ _ => simp
theorem op_catT : OpR X (binaryOp .Add) (rCatT X.K) := by
  intro pins s σ H x y v u Q I rx ry h
  obtain ⟨a, b, xs, ys, rfl, rfl, ha, hb, hx, hz, q1, q2⟩ := h
  cases rx
  cases ry
  obtain ⟨its, r1, p1, _⟩ := I.tuple ha
  obtain ⟨its2, r2, p2, _⟩ := I.tuple hb
  refine HT.cat_tup p1 p2 (fun z => hx (r1.nil_iff.mp z)) (fun z => ⟨.ref a, H, I, rfl, q1 (r2.nil_iff.mp z)⟩) (fun z => ?_) (by rw [← r1.length, ← r2.length]; exact hz)
  refine ⟨.ref s.heap.objs.size, _, I.laid (t' := s.toks) (o := .tup (xs ++ ys)) (fun b ob q => Heap.get?_push_of_some _ q) (Nat.le_refl _) ?_, rfl, q2 (fun w => z (r2.nil_iff.mpr w)) _ (I.hok.fresh (Nat.le_refl _))⟩
  exact ⟨by rw [List.length_append]; exact hz, _, r1.append r2, IsTup.new _ _⟩
end
end L2

namespace L2
open PySem PySem.Spec PyProof.Rows

/-! ### places -/
/-- the place that an index of any sign means -/
noncomputable def ixN (n : Nat) (i : Int) : Option Nat := if 0 ≤ i then (if i < n then some i.toNat else none) else if -(n : Int) ≤ i then some (i + n).toNat else none
noncomputable def atI {α : Type} (xs : List α) (i : Int) : Option α := (ixN xs.length i).bind fun j => xs[j]?
theorem ixN_seq {n : Nat} {i : Int} {j : Nat} (h : ixN n i = some j) : seqIndex? i n = some j ∧ j < n ∧ -(n : Int) ≤ i ∧ i < n := by
  unfold ixN at h
  by_cases h0 : 0 ≤ i
  · rw [if_pos h0] at h
    by_cases h1 : i < n
    · rw [if_pos h1] at h
      have e : i.toNat = j := Option.some.inj h
      exact ⟨by rw [seqIndex_of h0 h1, e], by omega, by omega, h1⟩
    · rw [if_neg h1] at h; cases h
  · rw [if_neg h0] at h
    by_cases h1 : -(n : Int) ≤ i
    · rw [if_pos h1] at h
      have e : (i + n).toNat = j := Option.some.inj h
      exact ⟨by rw [seqIndex_neg (by omega) h1, e], by omega, h1, by omega⟩
    · rw [if_neg h1] at h; cases h
theorem atI_get {α : Type} {xs : List α} {i : Int} {v : α} (h : atI xs i = some v) : ∃ j, seqIndex? i xs.length = some j ∧ xs[j]? = some v ∧ j < xs.length ∧ -(xs.length : Int) ≤ i ∧ i < xs.length := by
  unfold atI at h
  cases e : ixN xs.length i with
  | none => rw [e] at h; cases h
  | some j =>
    rw [e] at h
    obtain ⟨h1, h2, h3, h4⟩ := ixN_seq e
    exact ⟨j, h1, h, h2, h3, h4⟩
theorem atI_nat {α : Type} {xs : List α} {j : Nat} {v : α} (h : xs[j]? = some v) : atI xs (j : Int) = some v := by
  have hj : j < xs.length := (List.getElem?_eq_some_iff.mp h).1
  have e : ixN xs.length (j : Int) = some j := by
    unfold ixN
    rw [if_pos (by omega), if_pos (by omega)]; simp
  unfold atI; rw [e]; exact h

/-! ### what may be subscripted -/
/-- what stands as an index of a plain subscript -/
noncomputable def PlainIx (b : Expr) : Prop := ∀ o i, subscripted b false o i = operate [o, i] (getItem o i)
/-- a subscript by values -/
noncomputable def IxR (X : Cx) (r : R2) : Prop :=
  ∀ (value slice : Expr) (pins : List (Addr × Obj)) (s : Shared) (σ : St) (H : Hp) (x y : V) (v u : Value) (Q : VK), Inv X pins σ H s → RelV x v → RelV y u → r x y H Q →
    subscripted slice false v u = operate [v, u] (getItem v u) → wpAny (model X.prog X.w) X.A (subscriptTail value slice v u) (EP X pins σ Q) X.xe s
/-- a call of a builtin's method by values: the receiver, the arguments -/
noncomputable def MtR (X : Cx) (id : String) (r : V → List V → Hp → VK → Prop) : Prop :=
  ∀ (pins : List (Addr × Obj)) (s : Shared) (σ : St) (H : Hp) (x : V) (xs : List V) (v : Value) (us : List Value) (Q : VK), Inv X pins σ H s → RelV x v → Vals xs us → r x xs H Q →
    wpAny (model X.prog X.w) X.A (call (.builtin id) (v :: us)) (EP X pins σ Q) X.xe s
section
variable {X : Cx} {a b : Expr} {ta tb : TE} {pos : Pos}
theorem IxR.or {r r' : R2} (h : IxR X r) (h' : IxR X r') : IxR X (fun x y H Q => r x y H Q ∨ r' x y H Q) := by
  intro value slice pins s σ H x y v u Q I rx ry q hs
  rcases q with q | q
  · exact h value slice pins s σ H x y v u Q I rx ry q hs
  · exact h' value slice pins s σ H x y v u Q I rx ry q hs
theorem MtR.or {id : String} {r r' : V → List V → Hp → VK → Prop} (h : MtR X id r) (h' : MtR X id r') : MtR X id (fun x xs H Q => r x xs H Q ∨ r' x xs H Q) := by
  intro pins s σ H x xs v us Q I rx rs q
  rcases q with q | q
  · exact h pins s σ H x xs v us Q I rx rs q
  · exact h' pins s σ H x xs v us Q I rx rs q
/-- a[b] -/
theorem pe_ix {r : R2} (hr : IxR X r) (ha : PE X a ta) (hb : PE X b tb) (hs : PlainIx b) : PE X (.Subscript a b pos) (tOp r ta tb) := by
  intro pins s σ H Q I h
  exact Subscript_ (binT ha hb I h fun v u s2 x y H2 I2 rx ry q => hr a b pins s2 σ H2 x y v u Q I2 rx ry q (hs _ _))

noncomputable def rIxL (K : PySem.W.Frag) : R2 := fun x y H Q => ∃ p xs i v, x = .ref p ∧ y = .int i ∧ SqL K H p xs ∧ atI xs i = some v ∧ Q v H
noncomputable def rIxT (K : PySem.W.Frag) : R2 := fun x y H Q => ∃ p xs i v, x = .ref p ∧ y = .int i ∧ SqT K H p xs ∧ atI xs i = some v ∧ Q v H
noncomputable def rIxS : R2 := fun x y H Q => ∃ z i c, x = .str z ∧ y = .int i ∧ z.length ≤ sizeLine ∧ atI z.cps.toList i = some c ∧ Q (.str ⟨#[c]⟩) H
theorem ix_list : IxR X (rIxL X.K) := by
  intro value slice pins s σ H x y v u Q I rx ry h hs
  obtain ⟨p, xs, i, z, rfl, rfl, hq, he, q⟩ := h
  cases rx
  obtain ⟨t, rfl⟩ := ry
  obtain ⟨its, r, pl, hz⟩ := I.list hq
  obtain ⟨j, h1, h2, h3, h4, h5⟩ := atI_get he
  obtain ⟨w, ew, rw'⟩ := r.get h2
  have hl := r.length
  have hn := line63
  have fin : EP X pins σ Q w s := ⟨z, H, I, rw', q⟩
  by_cases h0 : 0 ≤ i
  · have hj : i.toNat = j := by
      rw [seqIndex_of h0 h5] at h1
      exact Option.some.inj h1
    exact item_listR pl.isList h0 (by omega) (by rw [hj]; simpa using ew) fin hs
  · have hj : (i + (its.toArray.size : Int)).toNat = j := by
      rw [seqIndex_neg (by omega) h4] at h1
      rw [List.size_toArray, ← hl]
      exact Option.some.inj h1
    exact subscriptTail_builtinR (x := w) pl.isList.typeIs slot_list_getitem.lookup
      (wpAny_getItem_list_neg (Q := fun r s' => r = w ∧ EP X pins σ Q r s') pl.isList (by omega) (by rw [List.size_toArray] <;> omega) (by omega) (by rw [hj]; simpa using ew) ⟨rfl, fin⟩) hs
theorem ix_tup : IxR X (rIxT X.K) := by
  intro value slice pins s σ H x y v u Q I rx ry h hs
  obtain ⟨p, xs, i, z, rfl, rfl, hq, he, q⟩ := h
  cases rx
  obtain ⟨t, rfl⟩ := ry
  obtain ⟨its, r, pl, hz⟩ := I.tuple hq
  obtain ⟨j, h1, h2, h3, h4, h5⟩ := atI_get he
  obtain ⟨w, ew, rw'⟩ := r.get h2
  have hl := r.length
  have hn := line63
  have fin : EP X pins σ Q w s := ⟨z, H, I, rw', q⟩
  exact subscriptTail_builtinR (x := w) pl.typeIs slot_tuple_getitem.lookup
    (getItem_tuple (j := j) (Q := fun r s' => r = w ∧ EP X pins σ Q r s') pl (by omega) (by omega) (by rw [List.size_toArray, ← hl]; exact h1) (by simpa using ew) ⟨rfl, fin⟩) hs
theorem ix_str : IxR X rIxS := by
  intro value slice pins s σ H x y v u Q I rx ry h hs
  obtain ⟨z, i, c, rfl, rfl, hz, he, q⟩ := h
  obtain ⟨t, rfl⟩ := rx
  obtain ⟨t', rfl⟩ := ry
  obtain ⟨j, h1, h2, h3, h4, h5⟩ := atI_get he
  have hl : z.cps.toList.length = z.length := by simp [Str.length]
  rw [hl] at h1 h4 h5
  have hn := line63
  exact tail_any (typeIs_str s z t) slot_str_getitem.lookup (getItem_str (c := c) (by
    have e1 : decide (i < -(2 ^ 63 : Int)) = false := decide_eq_false (by omega)
    have e2 : decide (i ≥ 2 ^ 63) = false := decide_eq_false (by omega)
    rw [e1, e2, Bool.or_false]) (by rw [h1]; simpa using h2) ⟨.str ⟨#[c]⟩, H, I.tok _, ⟨_, rfl⟩, q⟩) hs

/-! ### xs[i] = v, any sign -/
/-- the list's object behind a store -/
theorem mapSeq_set (its : List Value) (n j : Nat) (u : Value) : Obj.mapSeq (·.setIfInBounds j u) { cls := .type "list", data := .seq its.toArray n } = { cls := .type "list", data := .seq (its.set j u).toArray n } := by
  simp [Obj.mapSeq]
theorem Inv.lst {pins : List (Addr × Obj)} {σ : St} {H : Hp} {s : Shared} {p : Addr} {xs : List V} (I : Inv X pins σ H s) (h : H p = some (.lst xs)) :
    ∃ (its : List Value) (n : Nat), Vals xs its ∧ s.heap.get? p = some { cls := .type "list", data := .seq its.toArray n } ∧ xs.length ≤ sizeLine := by
  obtain ⟨z, its, n, r, e⟩ := I.hok p _ h
  exact ⟨its, n, r, e, z⟩
/-- the list at p is written by an update of its object -/
theorem Inv.lstUpd {pins : List (Addr × Obj)} {σ : St} {H : Hp} {s : Shared} {p : Addr} {xs ys : List V} {its its' : List Value} {n n' : Nat} {f : Obj → Obj} (I : Inv X pins σ H s) (h : H p = some (.lst xs))
    (ho : s.heap.get? p = some { cls := .type "list", data := .seq its.toArray n }) (hf : f { cls := .type "list", data := .seq its.toArray n } = { cls := .type "list", data := .seq its'.toArray n' }) (r : Vals ys its') (hz : ys.length ≤ sizeLine) (t : Nat) :
    Inv X pins σ (upd H p (.lst ys)) { s with heap := s.heap.update p f, toks := t } := by
  have e : (s.heap.update p f).get? p = some { cls := .type "list", data := .seq its'.toArray n' } := by
    rw [Heap.get?_update_self f ho (by rw [hf] <;> rfl), hf]
  refine I.write (x := p) (e := p) (by rw [h]; trivial) (.inl rfl) (fun b u hb q => (Heap.get?_update_other _ _ (Ne.symm hb)).trans q) ⟨_, e⟩ ?_
  exact ⟨hz, its', n', r, e⟩
noncomputable def rSetL : V → V → V → Hp → (Hp → Prop) → Prop := fun o i v H Q => ∃ p xs k j, o = .ref p ∧ i = .int k ∧ H p = some (.lst xs) ∧ ixN xs.length k = some j ∧ Q (upd H p (.lst (xs.set j v)))
theorem set_list : PSet X rSetL := by
  intro pins s σ H o i v ov iv u Q I ro ri rv h
  obtain ⟨p, xs, k, j, rfl, rfl, hp, hj, q⟩ := h
  cases ro
  obtain ⟨t, rfl⟩ := ri
  obtain ⟨its, n, r, ho, hz⟩ := I.lst hp
  obtain ⟨h1, h2, h3, h4⟩ := ixN_seq hj
  have hl := r.length
  have hn := line63
  have I' : Inv X pins σ (upd H p (.lst (xs.set j v))) { s with heap := s.heap.update p (Obj.mapSeq (·.setIfInBounds j u)) } :=
    I.lstUpd hp ho (mapSeq_set its n j u) (r.set rv j) (by rw [List.length_set]; exact hz) s.toks
  by_cases h0 : 0 ≤ k
  · have hk : k.toNat = j := by
      rw [seqIndex_of h0 h4] at h1
      exact Option.some.inj h1
    exact PySem.W.ki_setAt ho h0 (by omega) (by rw [List.size_toArray, ← hl]; exact h4) (by rw [hk]; exact ⟨_, I', q⟩)
  · have hk : (k + (its.toArray.size : Int)).toNat = j := by
      rw [seqIndex_neg (by omega) h3] at h1
      rw [List.size_toArray, ← hl]
      exact Option.some.inj h1
    exact PySem.W.ki_setBack ho (by omega) (by rw [List.size_toArray, ← hl]; exact h3) (by omega) (by rw [hk]; exact ⟨_, I', q⟩)

/-! ### slices -/
theorem slice_bounds (lo hi : Option Int) (n : Nat) : (sliceBounds lo hi none n).1 = ((HT.sIx n 0 lo : Nat) : Int) ∧ (sliceBounds lo hi none n).2.1 = ((HT.sIx n n hi : Nat) : Int) ∧ (sliceBounds lo hi none n).2.2 = 1 := by
  refine ⟨?_, ?_, rfl⟩
  · cases lo with
    | none => simp [sliceBounds, HT.sIx]
    | some i =>
      simp only [sliceBounds, HT.sIx, Option.getD_none, show (1 : Int) > 0 by decide, if_true]
      by_cases h : i < 0
      · simp only [h, if_true] <;> omega
      · simp only [h, if_false] <;> omega
  · cases hi with
    | none => simp [sliceBounds, HT.sIx]
    | some i =>
      simp only [sliceBounds, HT.sIx, Option.getD_none, show (1 : Int) > 0 by decide, if_true]
      by_cases h : i < 0
      · simp only [h, if_true] <;> omega
      · simp only [h, if_false] <;> omega
theorem slicePick_cut (its : List Value) (lo hi : Option Int) : slicePick its.toArray lo hi none = ((its.drop (HT.sIx its.length 0 lo)).take (HT.sIx its.length its.length hi - HT.sIx its.length 0 lo)).toArray := by
  obtain ⟨h1, h2, h3⟩ := slice_bounds lo hi its.toArray.size
  unfold slicePick
  rw [h1, h2, h3]
  simp only [sliceRange_one, pick_run, List.size_toArray] <;> rfl
/-- xs[lo:hi] of a list: a new list -/
noncomputable def rSlL (K : PySem.W.Frag) : V → Option Int → Option Int → Hp → VK → Prop := fun x lo hi H Q => ∃ a xs, x = .ref a ∧ SqL K H a xs ∧ ∀ p, H p = none → Q (.ref p) (upd H p (.lst (cutV xs lo hi)))
theorem sl_list : SlR X (rSlL X.K) := by
  intro pins s σ H x v vl vu lo hi sl Q I rx hs pl pu h
  obtain ⟨a, xs, rfl, hx, q⟩ := h
  cases rx
  obtain ⟨its, r, ht, hz⟩ := I.list hx
  have hlen := r.length
  refine ⟨"list", _, slot_list_getitem.lookup, ht.isList.typeIs, ?_⟩
  refine wpAny_getItem_list_slice ht.isList hs pl pu .none (by simp) ?_ (by rw [List.size_toArray] <;> omega)
  rw [slicePick_cut, ← hlen]
  refine ⟨.ref s.heap.objs.size, _, I.laid (t' := s.toks) (o := .lst (cutV xs lo hi)) (fun b ob q => Heap.get?_push_of_some _ q) (Nat.le_refl _) ?_, rfl, q _ (I.hok.fresh (Nat.le_refl _))⟩
  exact ⟨Nat.le_trans (cutV_length xs lo hi) hz, _, 0, (r.drop (HT.sIx xs.length 0 lo)).take (HT.sIx xs.length xs.length hi - HT.sIx xs.length 0 lo), Heap.get?_push_size _ rfl⟩

/-! ### in, not in: flat items -/

/-! ### len, list(x), tuple(x) of any list or tuple that is read -/
theorem call_len_seq : CallR X (.builtin "len") (fun xs H Q => ∃ p ys, xs = [.ref p] ∧ (SqL X.K H p ys ∨ SqT X.K H p ys) ∧ Q (.int ys.length) H) := by
  intro pins s σ H xs us Q I r h
  obtain ⟨p, ys, rfl, hq, q⟩ := h
  obtain ⟨u, rfl, rx⟩ := vals1 r
  cases rx
  have hn := line63
  rcases hq with hq | hq
  · obtain ⟨its, r', pl, hz⟩ := I.list hq
    have hlen := r'.length
    exact Calls.call_len_list pl.isList (by simp only [List.size_toArray] <;> omega) ⟨.int ys.length, H, I.tok _, ⟨s.toks + 1, by rw [List.size_toArray, hlen]⟩, q⟩
  · obtain ⟨its, r', pl, hz⟩ := I.tuple hq
    have hlen := r'.length
    exact len_tuple pl (by simp only [List.size_toArray] <;> omega) ⟨.int ys.length, H, I.tok _, ⟨s.toks + 1, by rw [List.size_toArray, hlen]⟩, q⟩
theorem call_len_str : CallR X (.builtin "len") (fun xs H Q => ∃ z, xs = [.str z] ∧ z.length ≤ sizeLine ∧ Q (.int z.length) H) := by
  intro pins s σ H xs us Q I r h
  obtain ⟨z, rfl, hz, q⟩ := h
  obtain ⟨u, rfl, t, rfl⟩ := vals1 r
  have hn := line63
  exact len_str (by omega) ⟨.int z.length, H, I.tok _, ⟨_, rfl⟩, q⟩
theorem CallR.or {f : Value} {r r' : List V → Hp → VK → Prop} (h : CallR X f r) (h' : CallR X f r') : CallR X f (fun xs H Q => r xs H Q ∨ r' xs H Q) := by
  intro pins s σ H xs us Q I rs q
  rcases q with q | q
  · exact h pins s σ H xs us Q I rs q
  · exact h' pins s σ H xs us Q I rs q
theorem call_tuple_of : CallR X (.type "tuple") (fun xs H Q => ∃ p ys, xs = [.ref p] ∧ ((SqL X.K H p ys ∧ ∀ l, H l = none → Q (.ref l) (upd H l (.tup ys))) ∨ (SqT X.K H p ys ∧ Q (.ref p) H))) := by
  intro pins s σ H xs us Q I r h
  obtain ⟨p, ys, rfl, h⟩ := h
  obtain ⟨u, rfl, rx⟩ := vals1 r
  cases rx
  rcases h with ⟨hq, q⟩ | ⟨hq, q⟩
  · obtain ⟨its, r', pl, hz⟩ := I.list hq
    have hlen := r'.length
    refine call_tuple_list pl.isList (fun h' kp => ?_) (by simp only [List.size_toArray] <;> omega)
    have I1 : Inv X pins σ H { s with heap := h' } := I.kept (t' := s.toks) kp
    have I2 : Inv X pins σ (upd H h'.objs.size (.tup ys)) { s with heap := h'.push { cls := .type "tuple", data := .seq its.toArray } } :=
      I1.laid (t' := s.toks) (fun b o e => Heap.get?_push_of_some _ e) (Nat.le_refl _) (show ObjOk X.prog X.w _ _ _ (.tup ys) from ⟨hz, its, r', IsTup.new _ _⟩)
    exact ⟨.ref h'.objs.size, _, I2, rfl, q _ (I1.hok.fresh (Nat.le_refl _))⟩
  · obtain ⟨its, r', pl, hz⟩ := I.tuple hq
    exact call_tuple_same pl ⟨.ref p, H, I, rfl, q⟩

/-! ### the call of a builtin's method: o.m(..) -/
/-- the value is of that builtin type -/
noncomputable def tyV (K : PySem.W.Frag) (T : String) (x : V) (H : Hp) : Prop := match x with
  | .str _ => T = "str"
  | .int _ => T = "int"
  | .ref p => (T = "list" ∧ ∃ xs, SqL K H p xs) ∨ (T = "tuple" ∧ ∃ o, K.lookup p = some o ∧ o.cls = .type "tuple" ∧ o.dict = none) ∨
      (T = "dict" ∧ ((∃ kvs, H p = some (.dK kvs)) ∨ ∃ kvs, H p = some (.dT kvs))) ∨ (T = "set" ∧ ∃ S n, H p = some (.set S n))
  | _ => False
theorem tyV_is {pins : List (Addr × Obj)} {σ : St} {H : Hp} {s : Shared} {T : String} {x : V} {v : Value} (I : Inv X pins σ H s) (r : RelV x v) (ty : tyV X.K T x H) :
    s.TypeIs v T ∧ ∀ a, v = .ref a → ∃ ob, s.heap.get? a = some ob ∧ ob.dict = none := by
  cases x with
  | str z =>
    obtain ⟨t, rfl⟩ := r
    cases (show T = "str" from ty)
    exact ⟨typeIs_str s z t, fun _ e => nomatch e⟩
  | int i =>
    obtain ⟨t, rfl⟩ := r
    cases (show T = "int" from ty)
    exact ⟨typeIs_int s i t, fun _ e => nomatch e⟩
  | ref p =>
    cases r
    rcases ty with ⟨rfl, xs, hq⟩ | ⟨rfl, o, hk, hc, hd⟩ | ⟨rfl, hk⟩ | ⟨rfl, S, n, hk⟩
    · obtain ⟨its, _, pl, _⟩ := I.list hq
      refine ⟨pl.isList.typeIs, fun a e => ?_⟩
      cases e
      obtain ⟨o, n, e, c, hd, _⟩ := pl
      exact ⟨o, e, hd⟩
    · refine ⟨⟨o, I.kIn p o hk, hc⟩, fun a e => ?_⟩
      cases e
      exact ⟨o, I.kIn _ o hk, hd⟩
    · have z : ∃ o, s.heap.get? p = some o ∧ o.ExactDict := by
        rcases hk with ⟨kvs, hk⟩ | ⟨kvs, hk⟩
        · obtain ⟨_, _, _, _, o, _, _, e, ex, _⟩ := I.hok p _ hk
          exact ⟨o, e, ex⟩
        · obtain ⟨_, _, _, _, o, _, _, e, ex, _⟩ := I.hok p _ hk
          exact ⟨o, e, ex⟩
      obtain ⟨o, e, ex⟩ := z
      refine ⟨⟨o, e, ex.1⟩, fun a e2 => ?_⟩
      cases e2
      exact ⟨o, e, ex.2.1⟩
    · obtain ⟨o, _, _, _, e, ex, _⟩ := I.hok p _ hk
      refine ⟨⟨o, e, ex.1⟩, fun a e2 => ?_⟩
      cases e2
      exact ⟨o, e, ex.2.1⟩
  | _ => exact False.elim ty
noncomputable def tBM (K : PySem.W.Frag) (T : String) (r : V → List V → Hp → VK → Prop) (to : TE) (t : TA) : TE := fun σ H Q => to σ H fun x H1 => tyV K T x H1 ∧ t σ H1 fun xs H2 => r x xs H2 Q
variable {o e : Expr} {es : List Expr} {to : TE} {t : TA} {name : Str} {apos cpos : Pos} {T id : String} {r : V → List V → Hp → VK → Prop}
theorem pe_bm (pa : PlainAttrs T) (slot : Slot T name id) (hty : typeOf (.builtin id) = pure (.type "method_descriptor")) (hm : MtR X id r) (ho : PE X o to) (ha : PA X (e :: es) t)
    (hbase : attributeBase o name X.env (eval o X.env) = eval o X.env := by rfl)
    (hfew : ((backTo cpos (starEach (e :: es) X.env)).all (fun x => !x.1) && (backToKw cpos (keywordEach [] X.env)).all (fun x => x.1.isSome)
      && decide ((e :: es).length + ([] : List Keyword).length + (if ([] : List Keyword).isEmpty then 0 else 1) < 30)) = true := by rfl)
    (hline : (apos.endLine == cpos.line) = true := by rfl) (hs : starEach (e :: es) X.env = (false, eval e X.env) :: starEach es X.env := by rfl) (hplain : (backTo cpos (starEach es X.env)).any (·.1) = false := by rfl) :
    PE X (.Call (.Attribute o name apos) (e :: es) [] cpos) (tBM X.K T r to t) := by
  intro pins s σ H Q I h
  refine wpAny_Call_method_late hbase hfew hline rfl (thn (ho pins s σ H _ I h) fun v s1 ⟨x, H1, I1, r1, ty, q1⟩ => ?_)
  obtain ⟨h1, h2⟩ := tyV_is I1 r1 ty
  refine ⟨T, id, pa, slot, hty, h1, h2, ?_⟩
  have hA := ha cpos pins s1 σ H1 _ I1 q1
  rw [hs] at hA ⊢
  refine Calls.callWith_builtin (by show (false || (backTo cpos (starEach es X.env)).any (·.1)) = false; rw [hplain] <;> rfl) (Calls.evalArgs_plain ?_)
  exact thn hA fun us s2 ⟨vs, H2, I2, r2, q2⟩ => hm pins s2 σ H2 x vs v us Q I2 r1 r2 q2
/- xs.append(e), list.index on a module's tuple .. are MtR facts of 06m -/
end
end L2

namespace L2
open PySem PySem.Spec PyProof.Rows

noncomputable def MtM (X : Cx) (id : String) (r : V → List V → Hp → VK → Prop) : Prop :=
  ∀ (pins : List (Addr × Obj)) (s : Shared) (σ : St) (H : Hp) (x : V) (xs : List V) (v : Value) (us : List Value) (Q : VK), Inv X pins σ H s → RelV x v → Vals xs us → r x xs H Q →
    wpAny (model X.prog X.w) X.A (call (.builtin id) (v :: us)) (EP X pins σ Q) X.xe s

/-! ### lists of values -/
theorem Vals.one : ∀ {x : V} {us : List Value}, Vals [x] us → ∃ u, us = [u] ∧ RelV x u
  | _, _, .cons r .nil => ⟨_, rfl, r⟩
theorem Vals.two : ∀ {x y : V} {us : List Value}, Vals [x, y] us → ∃ u v, us = [u, v] ∧ RelV x u ∧ RelV y v
  | _, _, _, .cons r (.cons q .nil) => ⟨_, _, rfl, r, q⟩
theorem Vals.zero : ∀ {us : List Value}, Vals [] us → us = []
  | _, .nil => rfl
theorem Vals.dropLast {xs : List V} {us : List Value} (h : Vals xs us) : Vals xs.dropLast us.dropLast := by
  induction h with
  | nil => exact .nil
  | cons r t ih =>
    cases t with
    | nil => exact .nil
    | cons q t' => exact .cons r ih
theorem Vals.reverse {xs : List V} {us : List Value} (h : Vals xs us) : Vals xs.reverse us.reverse := by
  induction h with
  | nil => exact .nil
  | cons r t ih => rw [List.reverse_cons, List.reverse_cons]; exact Vals.append ih (.cons r .nil)
theorem Vals.rep {xs : List V} {us : List Value} (h : Vals xs us) : ∀ k : Nat, Vals (List.replicate k xs).flatten (List.replicate k us).flatten
  | 0 => .nil
  | k + 1 => by
    rw [List.replicate_succ, List.replicate_succ, List.flatten_cons, List.flatten_cons]
    exact Vals.append h (Vals.rep h k)
theorem foldl_rep (its : List Value) : ∀ (k : Nat) (acc : List Value),
    List.foldl (fun x1 x2 => x1 ++ x2) acc.toArray (List.replicate k its.toArray) = (acc ++ (List.replicate k its).flatten).toArray
  | 0, acc => by simp
  | k + 1, acc => by
    have e : acc.toArray ++ its.toArray = (acc ++ its).toArray := by simp
    have e2 : (acc ++ its) ++ (List.replicate k its).flatten = acc ++ (List.replicate (k + 1) its).flatten := by
      rw [List.replicate_succ, List.flatten_cons, List.append_assoc]
    rw [← e2, ← foldl_rep its k (acc ++ its), ← e, List.replicate_succ, List.foldl_cons]

section
variable {X : Cx} {pins : List (Addr × Obj)} {σ : St} {H : Hp} {s : Shared} {l b : Addr} {xs ys zs : List V}

/-! ### the two steps: a tracked list is rewritten, a new list is laid -/
theorem Inv.lset {its its' : List Value} {n : Nat} {f : Array Value → Array Value} {t' : Nat} (I : Inv X pins σ H s) (hH : H l = some (.lst xs))
    (e : s.heap.get? l = some { cls := .type "list", data := .seq its.toArray n }) (hf : f its.toArray = its'.toArray) (hv : Vals ys its') (hz : ys.length ≤ sizeLine) :
    Inv X pins σ (upd H l (.lst ys)) { s with heap := s.heap.update l (Obj.mapSeq f), toks := t' } := by
  have q := PySem.IsL.update e f
  rw [hf] at q
  refine I.write (x := l) (e := l) (by rw [hH]; exact trivial) (.inl rfl) (fun b' u hb hu => (Heap.get?_update_other s.heap (Obj.mapSeq f) (Ne.symm hb)).trans hu) ⟨_, q⟩ ?_
  exact ⟨hz, its', _, hv, q⟩
theorem Inv.lnew {its : List Value} {t' : Nat} (I : Inv X pins σ H s) (hv : Vals ys its) (hz : ys.length ≤ sizeLine) :
    Inv X pins σ (upd H s.heap.objs.size (.lst ys)) { s with heap := s.heap.push { cls := .type "list", data := .seq its.toArray }, toks := t' } :=
  I.laid (fun _ _ q => Heap.get?_push_of_some _ q) (Nat.le_refl _) ⟨hz, its, 0, hv, Heap.get?_push_size _ rfl⟩
theorem Inv.fresh (I : Inv X pins σ H s) : H s.heap.objs.size = none := I.hok.fresh (Nat.le_refl _)
theorem Inv.lstM (I : Inv X pins σ H s) (hH : H l = some (.lst xs)) : xs.length ≤ sizeLine ∧ ∃ (its : List Value) (n : Nat), Vals xs its ∧ xs.length = its.length ∧ s.heap.get? l = some { cls := .type "list", data := .seq its.toArray n } := by
  obtain ⟨z, its, n, r, e⟩ := I.hok l _ hH
  exact ⟨z, its, n, r, r.length, e⟩

theorem notLongL {n : Nat} (h : n ≤ sizeLine) : Builtin.List.listTooLong n = false := by
  unfold Builtin.List.listTooLong
  exact decide_eq_false (by omega)
end

section
variable {X : Cx}

/-! ### methods -/
noncomputable def rAppend : V → List V → Hp → VK → Prop := fun x vs H Q => ∃ l xs y, x = .ref l ∧ vs = [y] ∧ H l = some (.lst xs) ∧ xs.length < sizeLine ∧ Q .non (upd H l (.lst (xs ++ [y])))
theorem mt_append : MtM X "list.append" rAppend := by
  intro pins s σ H x vs v us Q I rx rv h
  obtain ⟨l, xs, y, rfl, rfl, hH, hz, q⟩ := h
  cases rx
  obtain ⟨u, rfl, ru⟩ := rv.one
  obtain ⟨z, its, n, r, hl, e⟩ := I.lstM hH
  refine call_meets F.slot_list_append ⟨_, e, rfl⟩ F.entry_list_append (F.args_list_append_2 _ _) (PySem.list_append l its.toArray n u (by rw [List.size_toArray]; omega)) ⟨e, ?_⟩
  refine ⟨.non, _, I.lset (its' := its ++ [u]) hH e (by simp) (r.append (.cons ru .nil)) ?_, rfl, q⟩
  rw [List.length_append, List.length_singleton]
  omega






/-! ### list + list, list += list, list * int -/
/-- a list times an int (a negative one is nothing) -/
noncomputable def rRep : R2 := fun x y H Q => ∃ l k xs, x = .ref l ∧ y = .int k ∧ H l = some (.lst xs) ∧ -(2 ^ 63) ≤ k ∧ k < 2 ^ 63 ∧ xs.length * k.toNat ≤ sizeLine ∧
  ∀ p, H p = none → Q (.ref p) (upd H p (.lst (List.replicate k.toNat xs).flatten))
theorem len_rep {α : Type} (xs : List α) (k : Nat) : (List.replicate k xs).flatten.length = k * xs.length := by
  induction k with
  | zero => simp
  | succ k ih => rw [List.replicate_succ, List.flatten_cons, List.length_append, ih, Nat.succ_mul, Nat.add_comm]
theorem op_rep : OpR X (binaryOp .Mult) rRep := by
  intro pins s σ H x y v u Q I rx ry h
  obtain ⟨l, k, xs, rfl, rfl, hH, h1, h2, hz, q⟩ := h
  cases rx
  obtain ⟨t, rfl⟩ := ry
  obtain ⟨z, its, n, r, hl, e⟩ := I.lstM hH
  have hlen : its.toArray.size * k.toNat ≤ sizeLine := by rw [List.size_toArray, ← hl]; exact hz
  have hcap : ¬ its.toArray.size * k.toNat > (2 ^ 63 - 1) / 8 := by
    have : (sizeLine : Nat) ≤ (2 ^ 63 - 1) / 8 := by decide
    omega
  have hfit : ¬ (!Builtin.List.listFitsIndex k) = true := by
    rw [fitsIndex_both h1 h2]
    exact Bool.false_ne_true
  have hlong : ¬ Builtin.List.listTooLong (its.toArray.size * k.toNat) = true := by
    rw [notLongL hlen]
    exact Bool.false_ne_true
  have hnew : List.foldl (fun x1 x2 => x1 ++ x2) #[] (List.replicate (if its.toArray.isEmpty = true then 0 else k.toNat) its.toArray) = (List.replicate k.toNat its).flatten.toArray := by
    have f0 : ∀ m : Nat, List.foldl (fun x1 x2 => x1 ++ x2) #[] (List.replicate m its.toArray) = (List.replicate m its).flatten.toArray := fun m => by
      have := foldl_rep its m []
      rw [List.nil_append] at this
      exact this
    rw [f0]
    cases its with
    | nil => simp
    | cons a r' => rw [if_neg (by simp)]
  refine wpAny_binaryOp_repeat_ref (T := "list") (U := "int") (by decide) ⟨_, e, rfl⟩ (fun s' => typeIs_int s' k t) noFill_list_mul F.fills_int_mul F.slot_int_rmul repeat_list F.slot_int_index.lookup
    (call_meets F.slot_int_rmul (typeIs_int s k t) F.entry_int_rmul (F.args_int_rmul_2 _ _) (int___rmul___int_list k t l its.toArray n)
      ⟨e, rfl, ⟨_, e, rfl⟩, call_meets F.slot_list_mul ⟨_, e, rfl⟩ F.entry_list_mul (F.args_list_mul_2 _ _) (AutoListH.list___mul___list_int_3 l its.toArray n k t hfit hcap hlong) ⟨e, ?_⟩⟩)
  rw [hnew]
  exact ⟨.ref _, _, I.lnew (t' := s.toks) (r.rep k.toNat) (by rw [len_rep, Nat.mul_comm]; exact hz), rfl, q _ I.fresh⟩

/-! ### del xs[i] -/
end

/-! ### xs[a:b] = ys -/
section
variable {prog : Program} {w : World} {A : Around} {E : Value → Shared → Prop} {s : Shared}
set_option maxRecDepth 100000 in
end

section
variable {X : Cx}
end
end L2


namespace L2
open PySem PySem.Spec PyProof.Rows

/-! ### lists of pairs as tables -/
section
variable {κ : Type} [DecidableEq κ]
noncomputable def valV (kvs : List (κ × V)) (k : κ) : Option V := (kvs.find? fun kv => decide (kv.1 = k)).map (·.2)
/-- in its place, or at the end -/
noncomputable def putK (kvs : List (κ × V)) (k : κ) (v : V) : List (κ × V) :=
  if (kvs.any fun kv => decide (kv.1 = k)) = true then kvs.map (fun kv => if kv.1 = k then (kv.1, v) else kv) else kvs ++ [(k, v)]
noncomputable def dropK (kvs : List (κ × V)) (k : κ) : List (κ × V) := kvs.filter fun kv => decide (kv.1 ≠ k)

theorem valV_pos {p : κ × V} {r : List (κ × V)} {k : κ} (e : p.1 = k) : valV (p :: r) k = some p.2 := by simp [valV, List.find?_cons, e]
theorem valV_neg {p : κ × V} {r : List (κ × V)} {k : κ} (e : ¬ p.1 = k) : valV (p :: r) k = valV r k := by simp [valV, List.find?_cons, e]
theorem valV_any (k : κ) : ∀ kvs : List (κ × V), (kvs.any fun kv => decide (kv.1 = k)) = (valV kvs k).isSome
  | [] => rfl
  | p :: r => by
    rw [List.any_cons]
    by_cases e : p.1 = k
    · simp only [valV_pos e, decide_eq_true e, Bool.true_or, Option.isSome_some]
    · rw [valV_neg e, decide_eq_false e, Bool.false_or]; exact valV_any k r
theorem length_putK (kvs : List (κ × V)) (k : κ) (v : V) : (putK kvs k v).length ≤ kvs.length + 1 := by
  unfold putK
  split
  · rw [List.length_map]; omega
  · rw [List.length_append, List.length_cons, List.length_nil]; omega

theorem RelO.isSome_eq {o : Option V} {u : Option Value} (r : RelO o u) : o.isSome = u.isSome := by
  cases o with
  | none => cases u with
    | none => rfl
    | some _ => exact (show False from r).elim
  | some _ => cases u with
    | none => exact (show False from r).elim
    | some _ => rfl
theorem RelO.getD {o : Option V} {u : Option Value} {d : V} {d' : Value} (r : RelO o u) (rd : RelV d d') : RelV (o.getD d) (u.getD d') := by
  cases o with
  | none => cases u with
    | none => exact rd
    | some _ => exact (show False from r).elim
  | some _ => cases u with
    | none => exact (show False from r).elim
    | some _ => exact r

/-- raw tables of the same keys -/
theorem KV.val {kvs : List (κ × V)} {vs : List (κ × Value)} (r : KV kvs vs) (k : κ) : RelO (valV kvs k) (valueAt vs k) := by
  unfold KV at r
  induction r with
  | nil => exact True.intro
  | @cons p q ps qs h t ih =>
    obtain ⟨h1, h2⟩ := h
    by_cases e : p.1 = k
    · have e' : q.1 = k := h1.symm.trans e
      have b : valueAt (q :: qs) k = some q.2 := by simp [valueAt, List.find?_cons, e']
      rw [valV_pos e, b]; exact h2
    · have e' : ¬ q.1 = k := fun z => e (h1.trans z)
      have b : valueAt (q :: qs) k = valueAt qs k := by simp [valueAt, List.find?_cons, e']
      rw [valV_neg e, b]; exact ih
theorem KV.any {kvs : List (κ × V)} {vs : List (κ × Value)} (r : KV kvs vs) (k : κ) : (kvs.any fun kv => decide (kv.1 = k)) = vs.any fun kv => decide (kv.1 = k) := by
  unfold KV at r
  induction r with
  | nil => rfl
  | cons h t ih => rw [List.any_cons, List.any_cons, ih, h.1]
theorem KV.repl {kvs : List (κ × V)} {vs : List (κ × Value)} (r : KV kvs vs) (k : κ) {y : V} {u : Value} (ry : RelV y u) :
    KV (kvs.map fun kv => if kv.1 = k then (kv.1, y) else kv) (vs.map fun kv => if kv.1 = k then (kv.1, u) else kv) := by
  unfold KV at r ⊢
  induction r with
  | nil => exact .nil
  | @cons p q ps qs h t ih =>
    rw [List.map_cons, List.map_cons]
    refine .cons ?_ ih
    obtain ⟨h1, h2⟩ := h
    by_cases e : p.1 = k
    · rw [if_pos e, if_pos (h1.symm.trans e)]; exact ⟨h1, ry⟩
    · rw [if_neg e, if_neg (fun z => e (h1.trans z))]; exact ⟨h1, h2⟩
theorem KV.put {kvs : List (κ × V)} {vs : List (κ × Value)} (r : KV kvs vs) (k : κ) {y : V} {u : Value} (ry : RelV y u) : KV (putK kvs k y) (stored vs k u) := by
  unfold putK stored
  rw [r.any k]
  by_cases e : (vs.any fun kv => decide (kv.1 = k)) = true
  · rw [if_pos e, if_pos e]; exact r.repl k ry
  · rw [if_neg e, if_neg e]; exact Paired.snoc r ⟨rfl, ry⟩
theorem KV.drop {kvs : List (κ × V)} {vs : List (κ × Value)} (r : KV kvs vs) (k : κ) : KV (dropK kvs k) (without vs k) := by
  unfold KV at r ⊢
  unfold dropK without
  induction r with
  | nil => exact .nil
  | @cons p q ps qs h t ih =>
    obtain ⟨h1, h2⟩ := h
    rw [List.filter_cons, List.filter_cons]
    by_cases e : p.1 = k
    · have a : ¬ decide (p.1 ≠ k) = true := by simp [e]
      have b : ¬ decide (q.1 ≠ k) = true := by simp [h1.symm.trans e]
      rw [if_neg a, if_neg b]; exact ih
    · have e' : ¬ q.1 = k := fun z => e (h1.trans z)
      have a : decide (p.1 ≠ k) = true := by simp [e]
      have b : decide (q.1 ≠ k) = true := by simp [e']
      rw [if_pos a, if_pos b]; exact .cons ⟨h1, h2⟩ ih
theorem KV.keys {kvs : List (κ × V)} {vs : List (κ × Value)} (r : KV kvs vs) : kvs.map (·.1) = vs.map (·.1) := by
  unfold KV at r
  induction r with
  | nil => rfl
  | cons h t ih => rw [List.map_cons, List.map_cons, ih, h.1]
theorem KV.length {kvs : List (κ × V)} {vs : List (κ × Value)} (r : KV kvs vs) : kvs.length = vs.length := Paired.length r
end


/-! ### a tracked dict, its keys ints and texts or tuples of these -/
theorem kV_is {P : Program} {w : World} {k : Key} {u : Value} (r : RelV (kV k) u) : (mixKind P w).is k u = true := by
  cases k with
  | inl i => obtain ⟨t, e⟩ := (show ∃ t, u = Value.int i t from r); subst e; exact mixKind_int P w i t
  | inr x => obtain ⟨t, e⟩ := (show ∃ t, u = Value.str x t from r); subst e; exact mixKind_str P w x t
theorem items_are {P : Program} {w : World} : ∀ {ks : List Key} {us : List Value}, Vals (ks.map kV) us → ItemsAre (mixKind P w) ks us
  | [], _, r => by rw [List.map_nil] at r; cases r; exact .nil
  | k :: ks, _, r => by
    rw [List.map_cons] at r
    cases r with
    | cons h t => exact .cons (kV_is h) (items_are t)

/-- raw entries of a dict with tuple keys -/
noncomputable abbrev KT (H : Hp) : List (List Key × V) → List (List Key × Addr × Value) → Prop := Paired fun p q => p.1 = q.1 ∧ H q.2.1 = some (.tup (p.1.map kV)) ∧ RelV p.2 q.2.2
theorem KT.val {H : Hp} {kvs : List (List Key × V)} {xs : List (List Key × Addr × Value)} (r : KT H kvs xs) (k : List Key) : RelO (valV kvs k) ((atKey xs k).map (·.2)) := by
  induction r with
  | nil => exact True.intro
  | @cons p q ps qs h t ih =>
    obtain ⟨h1, _, h2⟩ := h
    by_cases e : p.1 = k
    · have e' : q.1 = k := h1.symm.trans e
      have b : atKey (q :: qs) k = some q.2 := by simp [atKey, List.find?_cons, e']
      rw [valV_pos e, b]; exact h2
    · have e' : ¬ q.1 = k := fun z => e (h1.trans z)
      have b : atKey (q :: qs) k = atKey qs k := by simp [atKey, List.find?_cons, e']
      rw [valV_neg e, b]; exact ih
theorem KT.repl {H : Hp} {kvs : List (List Key × V)} {xs : List (List Key × Addr × Value)} (r : KT H kvs xs) (k : List Key) {y : V} {u : Value} (ry : RelV y u) :
    KT H (kvs.map fun kv => if kv.1 = k then (kv.1, y) else kv) (xs.map (putAt k u)) := by
  induction r with
  | nil => exact .nil
  | @cons p q ps qs h t ih =>
    rw [List.map_cons, List.map_cons]
    refine .cons ?_ ih
    obtain ⟨h1, h2, h3⟩ := h
    unfold putAt
    by_cases e : p.1 = k
    · rw [if_pos e, if_pos (h1.symm.trans e)]; exact ⟨h1, h2, ry⟩
    · rw [if_neg e, if_neg (fun z => e (h1.trans z))]; exact ⟨h1, h2, h3⟩
theorem KT.put {H : Hp} {kvs : List (List Key × V)} {xs : List (List Key × Addr × Value)} (r : KT H kvs xs) (k : List Key) {b : Addr} {y : V} {u : Value} (hb : H b = some (.tup (k.map kV))) (ry : RelV y u) :
    KT H (putK kvs k y) (storedH xs k b u) := by
  have e : (kvs.any fun kv => decide (kv.1 = k)) = (atKey xs k).isSome := by
    rw [valV_any, (r.val k).isSome_eq, Option.isSome_map]
  unfold putK storedH
  rw [e]
  by_cases q : (atKey xs k).isSome = true
  · rw [if_pos q, if_pos q]; exact r.repl k ry
  · rw [if_neg q, if_neg q]; exact Paired.snoc r ⟨rfl, hb, ry⟩
theorem KT.keeps {H H' : Hp} {kvs : List (List Key × V)} {xs : List (List Key × Addr × Value)} (r : KT H kvs xs) (ht : ∀ b ys, H b = some (.tup ys) → H' b = some (.tup ys)) : KT H' kvs xs :=
  Paired.mapP r fun _ _ z => ⟨z.1, ht _ _ z.2.1, z.2.2⟩

section
variable {P : Program} {w : World} {H : Hp} {h : Heap} {a : Addr}
theorem rd_of {u : HO} (ok : HOk P w H h) (e : Rd H a u) : ObjOk P w H h a u := e.ok ok
theorem dk_rd {kvs : List (Key × V)} (ok : HOk P w H h) (e : Rd H a (.dK kvs)) : kvs.length ≤ sizeLine ∧ (a == sysModules) = false ∧ ∃ vs, KV kvs vs ∧ h.DictOf (mixKind P w) a vs :=
  show ObjOk P w H h a (.dK kvs) from rd_of ok e
theorem dk_of {kvs : List (Key × V)} (ok : HOk P w H h) (e : H a = some (.dK kvs)) : kvs.length ≤ sizeLine ∧ (a == sysModules) = false ∧ ∃ vs, KV kvs vs ∧ h.DictOf (mixKind P w) a vs := dk_rd ok (.inl e)
/-- a tracked tuple of ints and texts is a key -/
theorem key_of {ks : List Key} (ok : HOk P w H h) (e : H a = some (.tup (ks.map kV))) : (tupleKind (mixKind P w)).is h ks a := by
  obtain ⟨_, its, r, o, h1, h2, n, h3⟩ := (show ObjOk P w H h a (.tup (ks.map kV)) from ok a _ e)
  exact ⟨o, its.toArray, n, h1, h2, h3, by simpa using items_are r⟩
theorem dt_rd {kvs : List (List Key × V)} (ok : HOk P w H h) (e : Rd H a (.dT kvs)) : kvs.length ≤ sizeLine ∧ (a == sysModules) = false ∧
    ∃ xs, KT H kvs xs ∧ h.DictOfH (tupleKind (mixKind P w)) a xs := by
  obtain ⟨z, y, xs, r, o, es, ep, h1, h2, h3, h4, h5⟩ := (show ObjOk P w H h a (.dT kvs) from rd_of ok e)
  refine ⟨z, y, xs, r, o, es, ep, h1, h2, h3, h4, fun x hx => ?_, h5⟩
  have all : ∀ {l : List (List Key × V)} {m : List (List Key × Addr × Value)}, KT H l m → ∀ x ∈ m, (tupleKind (mixKind P w)).is h x.1 x.2.1 := by
    intro l m q
    induction q with
    | nil => intro x hx; exact nomatch hx
    | @cons p q ps qs hq t ih =>
      intro x hx
      rcases List.mem_cons.mp hx with e | hx
      · subst e
        exact key_of ok (by rw [← hq.1]; exact hq.2.1)
      · exact ih x hx
  exact all r x hx
end

/-- what the dict at a holds at the key y -/
noncomputable def DGet (H : Hp) (a : Addr) (y : V) (r : Option V) : Prop :=
  (∃ kvs k, Rd H a (.dK kvs) ∧ y = kV k ∧ r = valV kvs k) ∨ ∃ kvs k b, Rd H a (.dT kvs) ∧ y = .ref b ∧ H b = some (.tup (k.map kV)) ∧ r = valV kvs k
/-- the heap behind a[y] = v -/
noncomputable def DPut (H : Hp) (a : Addr) (y v : V) (H' : Hp) : Prop :=
  (∃ kvs k, H a = some (.dK kvs) ∧ y = kV k ∧ kvs.length < sizeLine ∧ H' = upd H a (.dK (putK kvs k v))) ∨
  ∃ kvs k b, H a = some (.dT kvs) ∧ y = .ref b ∧ H b = some (.tup (k.map kV)) ∧ kvs.length < sizeLine ∧ H' = upd H a (.dT (putK kvs k v))
theorem DGet.k {H : Hp} {a : Addr} {kvs : List (Key × V)} {k : Key} (e : H a = some (.dK kvs)) : DGet H a (kV k) (valV kvs k) := .inl ⟨kvs, k, .inl e, rfl, rfl⟩
theorem DGet.t {H : Hp} {a b : Addr} {kvs : List (List Key × V)} {k : List Key} (e : H a = some (.dT kvs)) (eb : H b = some (.tup (k.map kV))) : DGet H a (.ref b) (valV kvs k) := .inr ⟨kvs, k, b, .inl e, rfl, eb, rfl⟩
theorem DPut.k {H : Hp} {a : Addr} {kvs : List (Key × V)} {k : Key} {v : V} (e : H a = some (.dK kvs)) (hl : kvs.length < sizeLine) : DPut H a (kV k) v (upd H a (.dK (putK kvs k v))) := .inl ⟨kvs, k, e, rfl, hl, rfl⟩
theorem DPut.t {H : Hp} {a b : Addr} {kvs : List (List Key × V)} {k : List Key} {v : V} (e : H a = some (.dT kvs)) (eb : H b = some (.tup (k.map kV))) (hl : kvs.length < sizeLine) :
    DPut H a (.ref b) v (upd H a (.dT (putK kvs k v))) := .inr ⟨kvs, k, b, e, rfl, eb, hl, rfl⟩


section
variable {X : Cx} {pins : List (Addr × Obj)} {σ : St} {H : Hp} {s : Shared} {a : Addr} {y v : V} {u r : Value} {o : Option V} {A : Around} {E : Value → Shared → Prop}

theorem Inv.big (I : Inv X pins σ H s) : sysModules < s.heap.objs.size := by
  have h : mainGlobals < s.heap.objs.size := (I.mod.glob.keeps I.bk).lt
  exact Nat.lt_trans (by decide) h

/-- d[y], there -/
theorem d_getItem {Q : Value → Shared → Prop} (hu : A.units + 1 < cLine) (I : Inv X pins σ H s) (g : DGet H a y (some v)) (ry : RelV y u) (h : ∀ w' s', Inv X pins σ H s' → RelV v w' → Q w' s') :
    wpAny (model X.prog X.w) A (getItem (.ref a) u) Q E s := by
  rcases g with ⟨kvs, k, e, ey, l⟩ | ⟨kvs, k, b, e, ey, eb, l⟩
  · subst ey
    obtain ⟨z, hd, vs, rel, dd⟩ := dk_rd I.hok e
    obtain ⟨w', hw, rw'⟩ := RelO.some_of (v := v) (o := valueAt vs k) (by rw [l]; exact rel.val k)
    exact wpAny_getItem_of (kV_is ry) dd.mapOf hw (h w' _ (I.tok _) rw')
  · subst ey
    cases (show u = Value.ref b from ry)
    obtain ⟨z, hd, xs, rel, dd⟩ := dt_rd I.hok e
    obtain ⟨w', hw, rw'⟩ := RelO.some_of (v := v) (o := (atKey xs k).map (·.2)) (by rw [l]; exact rel.val k)
    obtain ⟨p, hp, hp2⟩ := Option.map_eq_some_iff.mp hw
    refine wpAny_getItem_heap (tupleKind_room_in1 hu) (key_of I.hok eb) dd hp ?_
    rw [hp2]
    exact h w' _ (I.tok _) rw'
/-- a dict's object is replaced -/
theorem d_write {h' : Heap} {t' : Nat} {ob : HO} (I : Inv X pins σ H s) (mu : Mut (H a)) (hs : Heap.SameBut a s.heap h') (he : ∃ q, h'.get? a = some q) (new : ObjOk X.prog X.w (upd H a ob) h' a ob) :
    Inv X pins σ (upd H a ob) { s with heap := h', toks := t' } :=
  I.write (x := a) (e := a) mu (.inl rfl) (fun b q hb z => (hs.2 b hb).trans z) he new
theorem dk_new {P : Program} {w : World} {H' : Hp} {h' : Heap} {kvs : List (Key × V)} {vs : List (Key × Value)} (z : kvs.length ≤ sizeLine) (hd : (a == sysModules) = false) (rel : KV kvs vs) (dd : h'.DictOf (mixKind P w) a vs) :
    ObjOk P w H' h' a (.dK kvs) := ⟨z, hd, vs, rel, dd⟩
end

section
variable {X : Cx} {pins : List (Addr × Obj)} {σ : St} {H : Hp} {s : Shared} {a : Addr} {kvs : List (Key × V)} {k : Key} {u : Value} {A : Around} {E : Value → Shared → Prop}
end


/-! ### readings and rules -/
/-- the element of a subscription, not a slice -/
noncomputable def NoSl (i : Expr) : Prop := ∀ ov iv, subscripted i false ov iv = operate [ov, iv] (getItem ov iv)
theorem subD_of {prog : Program} {w : World} {A : Around} {E : Value → Shared → Prop} {s : Shared} {env : Env} {value slice : Expr} {pos : Pos} {T id : String} {Q : Value → Shared → Prop}
    (hl : typeLookup (.type T) "__getitem__" = pure (some (.builtin id))) (hs : NoSl slice)
    (h : wpAny (model prog w) A (eval value env) (fun o s₁ => wpAny (model prog w) A (eval slice env) (fun i s₂ => s₂.TypeIs o T ∧ wpAny (model prog w) A (getItem o i) Q E s₂) E s₁) E s) :
    wpAny (model prog w) A (eval (.Subscript value slice pos) env) Q E s := by
  refine Subscript_ (wpAny_mono h (fun o s₁ h₁ => wpAny_mono h₁ (fun i s₂ h₂ => ?_) fun _ _ x => x) fun _ _ x => x)
  obtain ⟨hT, h₂⟩ := h₂
  unfold subscriptTail
  refine wpAny_bind ?_
  rw [getitemInPython_of_ne hT.not_modules]
  refine wpAny_bind (wpAny_specialOf hT hl ?_)
  have fin : wpAny (model prog w) A (subscripted slice false o i) (fun r s₃ => wpAny (model prog w) A (letTemporaryGo value o r >>= fun _ => pure r) Q E s₃) E s₂ := by
    rw [hs o i]
    exact wpAny_operating (wpAny_mono h₂ (fun r s₃ h₃ => wpAny_bind (wpAny_letTemporaryGo (wpAny_pure h₃))) fun _ _ x => x)
  first
    | exact wpAny_pure (wpAny_bind fin)
    | exact wpAny_bind (wpAny_pure (wpAny_bind fin))
    | exact wpAny_bind fin

theorem dict_typeIs {X : Cx} {pins : List (Addr × Obj)} {σ : St} {H : Hp} {s : Shared} {a : Addr} {y : V} {o : Option V} (I : Inv X pins σ H s) (g : DGet H a y o) : s.TypeIs (.ref a) "dict" := by
  rcases g with ⟨kvs, k, e, _, _⟩ | ⟨kvs, k, b, e, _, _, _⟩
  · obtain ⟨_, _, vs, _, dd⟩ := dk_rd I.hok e
    exact dd.typeIs
  · obtain ⟨_, _, xs, _, dd⟩ := dt_rd I.hok e
    exact dd.typeIs

/-- d[y] -/
noncomputable def tDGet (td ty : TE) : TE := fun σ H Q => td σ H fun x H1 => ty σ H1 fun y H2 => ∃ a v, x = .ref a ∧ DGet H2 a y (some v) ∧ Q v H2

section
variable {X : Cx} {o i e value : Expr} {pos pos' tpos : Pos} {td ty tv : TE}
theorem pe_dget (hu : X.A.units + 1 < cLine) (ho : PE X o td) (hi : PE X i ty) (hs : NoSl i) : PE X (.Subscript o i pos) (tDGet td ty) := by
  intro pins s σ H Q I h
  refine subD_of PySem.F.slot_dict_getitem.lookup hs (thn (ho pins s σ H _ I h) fun u s1 ⟨x, H1, I1, rx, q1⟩ => thn (hi pins s1 σ H1 _ I1 q1) fun iv s2 ⟨y, H2, I2, ry, a, v, ex, g, q2⟩ => ?_)
  subst ex
  obtain rfl : u = Value.ref a := rx
  exact ⟨dict_typeIs I2 g, d_getItem hu I2 g ry fun w' s3 I3 rw' => ⟨v, H2, I3, rw', q2⟩⟩
end


/-! ### displays -/
theorem dk_empty {P : Program} {w : World} {H : Hp} (h : Heap) (hb : sysModules < h.objs.size) : ObjOk P w H (h.push { cls := .type "dict", data := .dict #[] }) h.objs.size (.dK []) :=
  ⟨Nat.zero_le _, beq_eq_false_iff_ne.mpr (Ne.symm (Nat.ne_of_lt hb)), [], .nil, Heap.DictOf.new h⟩
section
variable {X : Cx} {pos : Pos}
end

/-- the pairs of a display, from the left -/
noncomputable def tPairs : List (TE × TE) → St → Hp → (List (V × V) → Hp → Prop) → Prop
  | [], _, H, Q => Q [] H
  | (tk, tv) :: r, σ, H, Q => tk σ H fun x H1 => tv σ H1 fun y H2 => tPairs r σ H2 fun ps H3 => Q ((x, y) :: ps) H3
noncomputable abbrev VV : List (V × V) → List (Value × Value) → Prop := Paired fun p q => RelV p.1 q.1 ∧ RelV p.2 q.2
noncomputable def PPs (X : Cx) (pos : Pos) (keys : List (Option Expr)) (values : List Expr) (trs : List (TE × TE)) : Prop :=
  ∀ (pins : List (Addr × Obj)) (s : Shared) (σ : St) (H : Hp) (Q : List (V × V) → Hp → Prop), Inv X pins σ H s → tPairs trs σ H Q →
    wpAny (model X.prog X.w) X.A (evalPairs (pairTrees keys values X.env pos)) (fun vs s' => ∃ ps H', Inv X pins σ H' s' ∧ VV ps vs ∧ Q ps H') X.xe s
theorem pps_nil {X : Cx} {pos : Pos} : PPs X pos [] [] [] := fun pins s σ H Q I h => pairTrees_nil_walk ⟨[], H, I, .nil, h⟩
theorem pps_cons {X : Cx} {pos : Pos} {k v : Expr} {ks : List (Option Expr)} {vs : List Expr} {tk tv : TE} {trs : List (TE × TE)} (hk : PE X k tk) (hv : PE X v tv) (hr : PPs X pos ks vs trs) :
    PPs X pos (some k :: ks) (v :: vs) ((tk, tv) :: trs) := fun pins s σ H Q I h =>
  pairTrees_cons_walk (thn (hk pins s σ H _ I h) fun u s1 ⟨x, H1, I1, rx, q1⟩ => thn (hv pins s1 σ H1 _ I1 q1) fun w2 s2 ⟨y, H2, I2, ry, q2⟩ =>
    thn (hr pins s2 σ H2 _ I2 q2) fun ws s3 ⟨ps, H3, I3, rel, q3⟩ => ⟨(x, y) :: ps, H3, I3, .cons ⟨rx, ry⟩ rel, q3⟩)

noncomputable def mergeK (kvs more : List (Key × V)) : List (Key × V) := more.foldl (fun acc kv => putK acc kv.1 kv.2) kvs
theorem KV.merge : ∀ {more : List (Key × V)} {rs : List (Key × Value)} {kvs : List (Key × V)} {vs : List (Key × Value)}, KV more rs → KV kvs vs → KV (mergeK kvs more) (merged vs rs) := by
  intro more rs kvs vs r
  unfold KV at r
  induction r generalizing kvs vs with
  | nil => intro q; exact q
  | @cons p q ps qs h t ih =>
    intro r0
    have e : KV (putK kvs p.1 p.2) (stored vs q.1 q.2) := by
      have := r0.put p.1 h.2
      rw [← h.1]; exact this
    exact ih e
theorem length_mergeK : ∀ (more kvs : List (Key × V)), (mergeK kvs more).length ≤ kvs.length + more.length
  | [], kvs => by show kvs.length ≤ kvs.length + 0; omega
  | p :: r, kvs => by
    have h1 := length_mergeK r (putK kvs p.1 p.2)
    have h2 := length_putK kvs p.1 p.2
    show (mergeK (putK kvs p.1 p.2) r).length ≤ _
    rw [List.length_cons]; omega
theorem carries_of {P : Program} {w : World} : ∀ {kvs : List (Key × V)} {ws : List (Value × Value)}, VV (kvs.map fun kv => (kV kv.1, kv.2)) ws → ∃ rs, Carries (mixKind P w) ws rs ∧ KV kvs rs
  | [], _, r => by rw [List.map_nil] at r; cases r; exact ⟨[], True.intro, .nil⟩
  | p :: kvs, _, r => by
    rw [List.map_cons] at r
    cases r with
    | @cons a b as bs h t =>
      obtain ⟨rs, c, q⟩ := carries_of (P := P) (w := w) t
      obtain ⟨b1, b2⟩ := b
      exact ⟨(p.1, b2) :: rs, ⟨kV_is h.1, rfl, c⟩, .cons ⟨rfl, h.2⟩ q⟩
/-- {k: v, ..} with keys ints and texts; the new dict stands empty while the pairs are made -/
noncomputable def tDisp (trs : List (TE × TE)) : TE := fun σ H Q => ∀ p, H p = none → tPairs trs σ (upd H p (.dK [])) fun ps H2 => H2 p = some (.dK []) ∧ ∃ kvs : List (Key × V), ps = kvs.map (fun kv => (kV kv.1, kv.2)) ∧ kvs.length ≤ 15 ∧ Q (.ref p) (upd H2 p (.dK (mergeK [] kvs)))
theorem pe_disp {X : Cx} {pos : Pos} {keys : List (Option Expr)} {values : List Expr} {trs : List (TE × TE)} (h : PPs X pos keys values trs) (hall : keys.all (·.isSome) = true) (hl : keys.length = values.length) (h0 : keys ≠ [])
    (h15 : keys.length ≤ 15) : PE X (.Dict keys values pos) (tDisp trs) := by
  intro pins s σ H Q I q
  have hn := I.hok.fresh (Nat.le_refl s.heap.objs.size)
  have I1 := I.laid (a := s.heap.objs.size) (o := .dK []) (h' := s.heap.push { cls := .type "dict", data := .dict #[] }) (t' := s.toks) (fun _ _ q => Heap.get?_push_of_some _ q) (Nat.le_refl _) (dk_empty s.heap I.big)
  refine wpAny_Dict_walk (knd := mixKind X.prog X.w) hall hl h0 h15 (thn (h pins _ σ _ _ I1 (q _ hn)) fun ws s2 ⟨ps, H2, I2, rel, e, kvs, ep, lk, q2⟩ => ?_)
  subst ep
  obtain ⟨rs, c, rk⟩ := carries_of (P := X.prog) (w := X.w) rel
  obtain ⟨z, hd, vs0, r0, dd⟩ := dk_of I2.hok e
  cases r0
  refine ⟨rs, c, dd, fun h' dd' hs => ⟨.ref s.heap.objs.size, _, ?_, rfl, q2⟩⟩
  have hz : (mergeK [] kvs).length ≤ sizeLine := by
    have h1 := length_mergeK kvs []
    rw [List.length_nil] at h1
    rw [sizeLine_eq]; omega
  have he : ∃ q, h'.get? s.heap.objs.size = some q := let ⟨q, _, _, hq, _⟩ := dd'; ⟨q, hq⟩
  exact d_write I2 (by rw [e]; exact True.intro) hs he (dk_new hz hd (rk.merge .nil) dd')


/-! ### methods -/
/-- a method call o.m(e) of a built-in, with one argument: what must be seen of the text -/
structure M1 (X : Cx) (o : Expr) (m : Str) (apos : Pos) (e : Expr) (cpos : Pos) : Prop where
  base : attributeBase o m X.env (eval o X.env) = eval o X.env
  few : ((backTo cpos (starEach [e] X.env)).all (fun x => !x.1) && (backToKw cpos (keywordEach [] X.env)).all (fun x => x.1.isSome)
    && decide (([e] : List Expr).length + ([] : List Keyword).length + (if ([] : List Keyword).isEmpty then 0 else 1) < 30)) = true
  line : (apos.endLine == cpos.line) = true
  trees : backTo cpos (starEach [e] X.env) = [(false, eval e X.env)]
structure M2 (X : Cx) (o : Expr) (m : Str) (apos : Pos) (e f : Expr) (cpos : Pos) : Prop where
  base : attributeBase o m X.env (eval o X.env) = eval o X.env
  few : ((backTo cpos (starEach [e, f] X.env)).all (fun x => !x.1) && (backToKw cpos (keywordEach [] X.env)).all (fun x => x.1.isSome)
    && decide (([e, f] : List Expr).length + ([] : List Keyword).length + (if ([] : List Keyword).isEmpty then 0 else 1) < 30)) = true
  line : (apos.endLine == cpos.line) = true
  trees : backTo cpos (starEach [e, f] X.env) = [(false, eval e X.env), (false, eval f X.env)]

/-- a is a dict, whatever its keys -/
noncomputable def IsD (H : Hp) (a : Addr) : Prop := (∃ kvs, Rd H a (.dK kvs)) ∨ ∃ kvs, Rd H a (.dT kvs)
theorem isD_at {X : Cx} {pins : List (Addr × Obj)} {σ : St} {H : Hp} {s : Shared} {a : Addr} (I : Inv X pins σ H s) (d : IsD H a) :
    s.TypeIs (.ref a) "dict" ∧ (∀ b, Value.ref a = .ref b → ∃ ob, s.heap.get? b = some ob ∧ ob.dict = none) ∧ (a == sysModules) = false := by
  rcases d with ⟨kvs, e⟩ | ⟨kvs, e⟩
  · obtain ⟨_, hd, vs, _, dd⟩ := dk_rd I.hok e
    refine ⟨dd.typeIs, fun b q => ?_, hd⟩
    cases q
    obtain ⟨ob, _, _, h1, h2, _⟩ := dd
    exact ⟨ob, h1, h2.2.1⟩
  · obtain ⟨_, hd, xs, _, dd⟩ := dt_rd I.hok e
    refine ⟨dd.typeIs, fun b q => ?_, hd⟩
    cases q
    obtain ⟨ob, _, _, h1, h2, _⟩ := dd
    exact ⟨ob, h1, h2.2.1⟩

section
variable {X : Cx} {pins : List (Addr × Obj)} {σ : St} {H : Hp} {s : Shared} {a : Addr} {y d : V} {u r : Value} {o : Option V} {A : Around} {E : Value → Shared → Prop}
/-- d.get(y, x) -/
theorem d_get2 {Q : Value → Shared → Prop} (hu : A.units + 1 < cLine) (I : Inv X pins σ H s) (g : DGet H a y o) (ry : RelV y u) (rd : RelV d r) (h : ∀ w' s', Inv X pins σ H s' → RelV (o.getD d) w' → Q w' s') :
    wpAny (model X.prog X.w) A (call (.builtin "dict.get") [.ref a, u, r]) Q E s := by
  rcases g with ⟨kvs, k, e, ey, l⟩ | ⟨kvs, k, b, e, ey, eb, l⟩
  · subst ey
    obtain ⟨z, hd, vs, rel, dd⟩ := dk_rd I.hok e
    refine call_meetsIn PySem.F.slot_dict_get dd.typeIs PySem.F.entry_dict_get (PySem.F.args_dict_get_3 _ _ _) (meets_dict_get_default (mixKind X.prog X.w) a (kV_is ry) hd r) ⟨_, dd.mapOf, h _ _ (I.tok _) ?_⟩
    rw [l]
    exact (rel.val k).getD rd
  · subst ey
    cases (show u = Value.ref b from ry)
    obtain ⟨z, hd, xs, rel, dd⟩ := dt_rd I.hok e
    refine call_meetsIn PySem.F.slot_dict_get dd.typeIs PySem.F.entry_dict_get (PySem.F.args_dict_get_3 _ _ _) (meetsH_dict_get_default (tupleKind (mixKind X.prog X.w)) a b hd r) ⟨tupleKind_room_in1 hu, k, xs, key_of I.hok eb, dd, h _ _ (I.tok _) ?_⟩
    rw [l]
    exact (rel.val k).getD rd
end

noncomputable def tDGet2 (td ty tx : TE) : TE := fun σ H Q => td σ H fun x H1 => ∃ a, x = .ref a ∧ IsD H1 a ∧ ty σ H1 fun y H2 => tx σ H2 fun z H3 => ∃ o, DGet H3 a y o ∧ Q (o.getD z) H3
section
variable {X : Cx} {o e f : Expr} {apos cpos : Pos} {td ty tx : TE}
theorem pe_dget2 (hu : X.A.units + 1 < cLine) (ho : PE X o td) (he : PE X e ty) (hf : PE X f tx) (m : M2 X o "get" apos e f cpos) : PE X (.Call (.Attribute o "get" apos) [e, f] [] cpos) (tDGet2 td ty tx) := by
  intro pins s σ H Q I h
  refine wpAny_Call_method m.base m.few m.line PySem.F.plainAttrs_dict PySem.F.slot_dict_get PySem.F.type_dict_get (thn (ho pins s σ H _ I h) fun u s1 ⟨x, H1, I1, rx, a, ex, d, q1⟩ => ?_)
  subst ex
  obtain rfl : u = Value.ref a := rx
  obtain ⟨t1, t2, _⟩ := isD_at I1 d
  refine ⟨t1, t2, ?_⟩
  rw [m.trees]
  refine Calls.callWith_builtin rfl (Calls.evalArgs_plain (Calls.spliced_cons (thn (he pins s1 σ H1 _ I1 q1) fun iv s2 ⟨y, H2, I2, ry, q2⟩ =>
    Calls.spliced_cons (thn (hf pins s2 σ H2 _ I2 q2) fun fv s3 ⟨z, H3, I3, rz, ov, g, q3⟩ => Calls.spliced_nil ?_))))
  exact d_get2 hu I3 g ry rz fun w' s4 I4 rw' => ⟨_, H3, I4, rw', q3⟩
end

/-! ### dict(d): a copy -/
section
variable {X : Cx} {pins : List (Addr × Obj)} {σ : St} {H : Hp} {s : Shared} {a : Addr} {kvs : List (Key × V)} {A : Around} {E : Value → Shared → Prop}
end


section
variable {X : Cx} {pins : List (Addr × Obj)} {σ : St} {H : Hp} {s : Shared} {a : Addr} {y : V} {u : Value} {A : Around} {E : Value → Shared → Prop}
end
end L2

namespace Att
open PySem PySem.W PySem.Calls PyProof.Rows

/-! ### the script -/
theorem ints_of_wellAll {P : Params} {h : Heap} : ∀ (ns : List Int) (vs : List Value), WellAll P h vs (ns.map WData.int) → IntsAre vs ns := by
  intro ns
  induction ns with
  | nil =>
    intro vs w
    rw [List.map_nil] at w
    cases w
    exact .nil
  | cons n ns ih =>
    intro vs w
    rw [List.map_cons] at w
    cases w with
    | cons a b =>
      cases a
      exact .cons _ _ (ih _ b)

theorem script_of {l : OpenLaw} {n : Nat} (hn : l.most = some n) {P : Params} {h : Heap} {args : List WData} {vals : List Value}
    (hpre : l.row.toRowW.claim.pre args = true) (hwl : WellAll P h vals args) :
    ∃ a vs ns, vals = [Value.ref a] ∧ args = [WData.list (ns.map WData.int)] ∧ h.get? a = some { cls := .type "list", data := .seq vs.toArray } ∧ IntsAre vs ns ∧ ns.length ≤ n := by
  have hsh : WShape.hasAll [] args [.list .int] = true := (pre_splitW hpre).1
  have hc : l.pre.holds [] { args := args } = true := (pre_splitW hpre).2
  obtain ⟨d, r, rfl, h1, h2⟩ := hasAllW_cons hsh
  obtain rfl := hasAllW_nil h2
  obtain ⟨xs, rfl, h3⟩ := hasW_list h1
  obtain ⟨ns, rfl⟩ := items_int h3
  have hlen : ns.length ≤ n := by
    unfold OpenLaw.pre at hc
    have h4 : (WTm.not (.lt (.lit (.int (n : Int))) (.len (.arg 0)))).holds [] { args := [.list (ns.map .int)] } = true := by
      have h4 := (holds_andW hc).1
      rw [hn] at h4
      exact h4
    have h5 := condW_of h4 (w_not (w_lt w_lit (w_len_list (w_arg rfl))))
    rw [List.length_map] at h5
    refine Nat.le_of_not_lt fun q => ?_
    have q' : (n : Int) < ((ns.length : Nat) : Int) := by omega
    first
      | (rw [decide_eq_true q'] at h5; exact absurd h5 (by decide))
      | (simp at h5; omega)
  cases hwl with
  | cons w1 w2 =>
    cases w2
    cases w1 with
    | list ho hall => exact ⟨_, _, ns, rfl, rfl, ho, ints_of_wellAll ns _ hall, hlen⟩

theorem post_true (l : OpenLaw) (args : List WData) : l.row.toRowW.claim.post args (.bool true) args = true :=
  postW_of (r := l.row.toRowW) (X := (true == true))
    (show WShape.has [] (.bool true) .bool = true by first | rfl | decide | simp [WShape.has, WShape.arms, WShape.armsAll])
    (show (WTm.eq .res (.lit (.bool true))).value [] { args := args, res := some (.bool true), after := args } = some (.bool (true == true)) from w_eq_bool (w_res rfl) w_lit) rfl

/-! ### the attachment: holds_open's last premise (the goal 'hc' behind k_head) from a wpAny of the law's body -/

/-- the same from a codeAny of the CALL (for a layer whose function contracts speak of calls) -/
theorem attach_call {l : OpenLaw} {n : Nat} {q : Program} {loose : List Str} {XP : (Str → Option Value) → Heap → Prop} {YP : World → Heap → Prop} {d : DefRec}
    (hn : l.most = some n) (hdf : d.params.defaults = [])
    (call : ∀ (w : World) (s₀ s₁ : Shared) (mg mb : Str → Option Value) (fa : Addr) (o : Obj) (pm cd doc : Value) (a : Addr) (vs : List Value) (ns : List Int),
      Ground q loose [] XP w s₀ mg mb s₁.heap → YP w s₁.heap →
      s₁.heap.get? fa = some o → o.data = .func (docDef d.name d.params d.body d.scope pm cd doc) → s₁.heap.CodeRec cd d.name → mg d.name = some (.ref fa) →
      s₁.heap.get? a = some { cls := .type "list", data := .seq vs.toArray } → IntsAre vs ns → ns.length ≤ n → s₁.gens = #[] →
      codeAny (model l.prog w) callerA (.call (.ref fa) ⟨[.ref a], []⟩) (fun r s' => r = .ok (.ret (.bool true)) ∧ OldK s₁.heap s'.heap ∧ s'.os = s₁.os ∧ AllBare s'.gens) s₁) :
    WalkO q loose XP YP l.row.toRowW d [] (fun f vs => PySem.call f vs) := by
  intro w s₀ s₁ mg mb G Y fa o pm cd doc dV kV ho hd hcd hD hmg hg args vals as hpre hlay hrd hwl hlo
  obtain rfl : dV = .none := Dflts.none hD hdf
  obtain rfl : kV = .none := Dflts.noKw hD
  obtain ⟨a, vs, ns, rfl, rfl, hobj, hints, hlen⟩ := script_of hn hpre hwl
  refine enter_call (codeAny_mono (call w s₀ s₁ mg mb fa o pm cd doc a vs ns G Y ho (fd_plain hd) hcd hmg hobj hints hlen hg) fun r s' hq => ?_)
  obtain ⟨rfl, h2, h3, h4⟩ := hq
  exact ⟨.inl ⟨.bool true, .bool true, [], rfl, fun _ => rfl, .bool true, post_true l _, fun _ => ⟨List.Pairwise.nil, fun _ hm => (nomatch hm)⟩⟩, h2, h3, h4⟩


/-! ### rules over ANY heap (no ledger) from facts about the written part K: the library's own take a ledger (News) for what they write -/
section
variable {prog : Program} {w : World} {A : Around} {E : Value → Shared → Prop} {s : Shared} {K : Frag}





/-! the whole heap as the ledger: makes every rule that writes through a ledger a rule over any heap -/
noncomputable def ledger (h : Heap) (L d : Addr) : List (Addr × Obj) := (List.range h.objs.size).filterMap fun a => if a = L ∨ a = d then none else (h.get? a).map fun o => (a, o)

end
end Att

namespace L2
open PySem PySem.Spec PyProof.Rows

theorem vals_ints : ∀ {vs : List Value} {ns : List Int}, IntsAre vs ns → Vals (ns.map V.int) vs
  | _, _, .nil => .nil
  | _, _, .cons n t h => .cons ⟨t, rfl⟩ (vals_ints h)

/-- nothing is tracked but the script, known to the object (or it is an object of the module) -/
noncomputable def Only (H : Hp) : Prop := ∀ b, H b = none ∨ ∃ o xs, H b = some (.frz o (.lst xs))

/-- THE HEAD: the law's promise, at the heap behind the top. F, the promise of the law's def, may use that base is part of the heap (so K.In base, base.Ns mainGlobals mg stand in Mod) -/
theorem law_call {P : Program} {w : World} {K : PySem.W.Frag} {mg mb : Str → Option Value} {CX : CXT} {k : Nat} {fa a : Addr} {fd : FuncData} {x : Str} {sp : Sp} {s₁ : Shared} {vs : List Value} {ns : List Int}
    (KX : K.In s₁.heap) (hns : s₁.heap.Ns mainGlobals mg) (hb : s₁.heap.Ns builtinsNs mb) (hbb : ∀ x : Str, x ≠ "__name__" → mb x = bootBuiltins x) (hlim : s₁.heap.NoLimit) (hg : s₁.gens = #[])
    (ha : s₁.heap.get? a = some { cls := .type "list", data := .seq vs.toArray }) (hi : IntsAre vs ns) (hl : ns.length ≤ sizeLine) (hr : Room k callerA)
    (F : ∀ base : Heap, K.In base → base.Ns mainGlobals mg → FnOk P w K mg base CX k fa fd [x] sp) (hbind : ∀ (s : Shared) (u : Value), BindsTo s fd ⟨[u], []⟩ [(x, u)])
    (hsp : ∀ H : Hp, Only H → SqL K H a (ns.map V.int) → sp [.ref a] H (fun v _ => v = .bl true) fun _ _ _ => False)
    (hCX : ∀ H e s', CX [] H s₁ (fun _ _ _ => False) e s' → False) :
    codeAny (model P w) callerA (.call (.ref fa) ⟨[.ref a], []⟩) (fun r s' => r = .ok (.ret (.bool true)) ∧ OldK s₁.heap s'.heap ∧ s'.os = s₁.os ∧ AllBare s'.gens) s₁ := by
  have rv := vals_ints hi
  have lenV := hi.length
  -- from an abstract heap in which nothing but the script may be tracked
  have core : ∀ H : Hp, Only H → SqL K H a (ns.map V.int) → HOk P w H s₁.heap → (∀ b, H b ≠ none → b = a) → (H a ≠ none → K.lookup a = none) →
      codeAny (model P w) callerA (.call (.ref fa) ⟨[.ref a], []⟩) (fun r s' => r = .ok (.ret (.bool true)) ∧ OldK s₁.heap s'.heap ∧ s'.os = s₁.os ∧ AllBare s'.gens) s₁ := by
    intro H hO hS hok hA hK
    have base_of : ∀ {b : Addr} {o : Obj}, s₁.heap.get? b = some o → H b = none → (hidT s₁.heap H).get? b = some o := fun e n => hidT_get e n
    have noA : ∀ {b : Addr} {o : Obj} {es : Array DictEntry} {ep : Nat}, s₁.heap.get? b = some o → o.data = .dict es ep → H b = none := fun {b o es ep} e d => by
      cases q : H b with
      | none => rfl
      | some u =>
        have e' : b = a := hA b (by rw [q]; simp)
        subst e'
        rw [ha] at e; cases e
        have d' : Data.seq vs.toArray _ = Data.dict es ep := d
        cases d'
    have nsK : ∀ {b : Addr} {m : Str → Option Value}, s₁.heap.Ns b m → (hidT s₁.heap H).Ns b m := fun {b m} ⟨o, es, ep, e, d, r⟩ => ⟨o, es, ep, base_of e (noA e d), d, r⟩
    have hKb : K.In (hidT s₁.heap H) := fun b o e => base_of (KX b o e) (by
      cases q : H b with
      | none => rfl
      | some u =>
        have e' : b = a := hA b (by rw [q]; simp)
        subst e'
        rw [hK (by rw [q]; simp)] at e; cases e)
    have hM : Mod K mg (hidT s₁.heap H) := ⟨hKb, nsK hns, ⟨mb, nsK hb, hbb⟩, let ⟨mc, h1, h2⟩ := hlim; ⟨mc, nsK h1, h2⟩⟩
    have e0 : Env0 P w K mg (hidT s₁.heap H) callerA [] s₁ H := ⟨rfl, hM, fun b o e => of_hidT e, Nat.le_of_eq (hidT_size _ _), trivial, fun b hb => absurd (show b ∈ ([] : List Addr) from hb) (by simp), hok, .of_eq hg⟩
    refine codeAny_mono ((F _ hKb (nsK hns)).run callerA [] s₁ H ⟨[.ref a], []⟩ [.ref a] [.ref a] _ _ hr e0 (hbind s₁ (.ref a)) (.cons rfl .nil) (hsp H hO hS)) fun r s' h => ?_
    cases r with
    | error e => exact (hCX H e s' h).elim
    | ok fl =>
      cases fl with
      | next => exact False.elim h
      | brk => exact False.elim h
      | cont => exact False.elim h
      | ret u =>
        obtain ⟨v, H', os, bare, un, hok', r', q⟩ := h
        have q' : v = .bl true := q
        subst q'
        obtain rfl : u = Value.bool true := r'
        refine ⟨rfl, OldK.of_keep fun b o e => ?_, os, bare⟩
        cases q : H b with
        | none => exact un.keep b o e q (by intro z; exact absurd (show b ∈ ([] : List Addr) from z) (by simp)) (by simp)
        | some u =>
          rcases hO b with z | ⟨ob, xs, z⟩
          · rw [q] at z; cases z
          · have z2 := un.frzs b ob _ z
            obtain ⟨e1, _⟩ := hok b _ z
            obtain ⟨e2, _⟩ := hok' b _ z2
            rw [e] at e1; cases e1
            exact e2
  cases hk : K.lookup a with
  | some o =>
    -- the script is one of the module's own objects
    have e := KX a o hk
    rw [ha] at e
    cases e
    refine core (fun _ => none) (fun _ => .inl rfl) (.inr ⟨_, vs.toArray, _, hk, rfl, rfl, rfl, by rw [List.size_toArray, lenV]; exact hl, by simpa using rv⟩) (fun b u z => by have z' : (none : Option HO) = some u := z; cases z') (fun b z => absurd rfl z) fun z => absurd rfl z
  | none =>
    refine core (fun b => if b = a then some (.frz { cls := .type "list", data := .seq vs.toArray } (.lst (ns.map V.int))) else none) (fun b => ?_) (.inl (.inr ⟨{ cls := .type "list", data := .seq vs.toArray }, if_pos rfl⟩)) (fun b u z => ?_) (fun b z => ?_) fun _ => hk
    · by_cases hb : b = a
      · exact .inr ⟨_, _, if_pos hb⟩
      · exact .inl (if_neg hb)
    · by_cases hb : b = a
      · have z' := (if_pos hb).symm.trans z
        cases z'
        subst hb
        exact ⟨ha, by rw [List.length_map]; exact hl, vs, _, rv, ha⟩
      · have z' := (if_neg hb).symm.trans z
        cases z'
    · by_cases hb : b = a
      · exact hb
      · exact absurd (if_neg hb) z
end L2

namespace L2
open PySem PySem.Spec PyProof.Rows

noncomputable abbrev KOf {K : PySem.W.Frag} {h : Heap} (_ : K.In h) : PySem.W.Frag := K

/-- the goal that k_head leaves (case hc), from the law's promise. F gives the function object fd (K's own) once, then the promise over every base -/
theorem walk_of {l : PySem.W.OpenLaw} {n k : Nat} {q : Program} {loose : List Str} {XP : (Str → Option Value) → Heap → Prop} {YP : World → Heap → Prop} {d : DefRec} {K : Params → PySem.W.Frag} {CX : World → CXT} {sp : World → Sp} {x : Str}
    (hn : l.most = some n) (hn2 : n ≤ sizeLine) (hdf : d.params.defaults = []) (hr : Room k callerA)
    (hY : ∀ (w : World) (h : Heap), YP w h → (K w.params).In h)
    (F : ∀ (w : World) (mg : Str → Option Value) (fa : Addr) (h : Heap), (K w.params).In h → h.Ns mainGlobals mg → mg d.name = some (.ref fa) →
      ∃ fd : FuncData, (∀ (s : Shared) (u : Value), BindsTo s fd ⟨[u], []⟩ [(x, u)]) ∧
        ∀ base : Heap, (K w.params).In base → base.Ns mainGlobals mg → FnOk l.prog w (K w.params) mg base (CX w) k fa fd [x] (sp w))
    (hsp : ∀ (w : World) (H : Hp) (a : Addr) (ns : List Int), ns.length ≤ n → Only H → SqL (K w.params) H a (ns.map V.int) → sp w [.ref a] H (fun v _ => v = .bl true) fun _ _ _ => False)
    (hCX : ∀ (w : World) (H : Hp) (s : Shared) (e : Value) (s' : Shared), CX w [] H s (fun _ _ _ => False) e s' → False) :
    PySem.W.WalkO q loose XP YP l.row.toRowW d [] (fun f vs => PySem.call f vs) := by
  refine Att.attach_call hn hdf fun w s₀ s₁ mg mb fa o pm cd doc a vs ns G Y ho hd hcd hmg hobj hints hlen hg => ?_
  have KX := hY w _ Y
  obtain ⟨fd, hb, hF⟩ := F w mg fa _ KX G.T.g hmg
  exact law_call KX G.T.g G.T.b G.T.builtins G.T.nolimit hg hobj hints (Nat.le_trans hlen hn2) hr hF hb (fun H hO hS => hsp w H a ns hlen hO hS) fun H e s' => hCX w H s₁ e s'
end L2

/- THE LAST THEOREM (shape; LID, My.* are yours):
   My.Adr: a structure of the addresses that your layer names (classes, functions); My.Txt K t: a structure (Prop) of the equations over K;
   My.txt_mk : {K} {implicit addresses ..} (e1 : nsIn K mainGlobals "law" = some (some (.ref f))) (e2 : K.lookup f = some ⟨oc, od, .func (fnOf "law" "law" params body scope dV kV doc pm an cdv ct), sl⟩) (e3 : codeIn K cdv "law" = true) .. : ∃ t, My.Txt K t

set_option maxRecDepth 100000 in
set_option maxHeartbeats 0 in
theorem PySem.Challenge.cw_LID_holds : PySem.Challenge.rw_LID.Holds := by
  w_on; o_law; k_head; (case hw => w_witness2)
  k_fill
  refine L2.walk_of (l := PySem.Challenge.rw_LID) (n := 63) (k := 40) (x := "script") (CX := fun w => ..) (sp := fun _ => My.sp_law) rfl (by decide) rfl ⟨rfl, by decide, by decide⟩ (fun w h Y => PySem.W.kIn_of Y) ?F ?S ?C
  case F =>
    intro w mg fa h KX G hmg
    have T : ∃ t, My.Txt (L2.KOf KX) t := by
      dsimp only [L2.KOf]                          -- K must stand as «<heap const> w.params» for k_is
      refine' My.txt_mk ?e1 ?e2 ?e3 ..
      (case e1 => PySem.W.k_is)                    -- in the order: a name -> its address -> its object -> its parts
      (case e2 => PySem.W.k_is)
      ..
    obtain ⟨t, T⟩ := T
    have e0 := hmg.symm.trans (PySem.W.mg_of KX G T.law)
    cases e0                                       -- fa is the law's own address
    exact ⟨_, fun s u => .of_eq rfl, fun base kb nb => My.law_fn T kb nb⟩     -- if «.of_eq rfl» comes too early: refine' ⟨_, ?b, fun base kb nb => My.law_fn T kb nb⟩; exact fun s u => .of_eq rfl
  case S => exact fun w H a ns hl hO hS => ..
  case C => exact ..
(the tactic k_is has no namespace: write k_is) -/

/-! SHORT WORDS over the layer: a def of the text, its body, what a loop and a test want. -/
namespace L2
open PySem PySem.Spec PyProof.Rows

/-! ### the text by places -/
noncomputable def defArgs (s : Stmt) : Arguments := match s with
  | .FunctionDef _ a _ _ _ _ _ _ _ _ => a
  | _ => { posonlyargs := [], args := [], vararg := none, kwonlyargs := [], kw_defaults := [], kwarg := none, defaults := [] }
noncomputable def defBody (s : Stmt) : List Stmt := match s with
  | .FunctionDef _ _ b _ _ _ _ _ _ _ => b
  | _ => []
noncomputable def defScope (s : Stmt) : Scope := match s with
  | .FunctionDef _ _ _ _ _ _ sc _ _ _ => sc
  | _ => { kind := .function, names := [], isGenerator := false, isCoroutine := false }

/-! ### no exception leaves a def -/
noncomputable abbrev CX0 : CXT := fun _ _ _ _ _ _ => False
noncomputable abbrev E0 : XK := fun _ _ _ => False
theorem pass0 {X : Cx} : Passes CX0 X E0 := fun _ _ _ _ _ _ _ h => h.elim

/-! ### a def (or method) of the text as it stands behind the top -/
structure Fun (K : PySem.W.Frag) (x qual : Str) (st : Stmt) (f : Addr) (fd : FuncData) : Prop where
  ex : ∃ (oc : Value) (od : Option Addr) (kV doc pm : Value) (an : Option Addr) (cdv ct : Value) (osl : Array (Option Value)),
    fd = PySem.W.fnOf x qual (defArgs st) (defBody st) (defScope st) .none kV doc pm an cdv ct ∧ K.lookup f = some ⟨oc, od, .func fd, osl⟩ ∧ PySem.W.codeIn K cdv qual = true
  kp : PySem.W.keepIn K (.ref f) = true
section
variable {P : Program} {w : World} {K : PySem.W.Frag} {mg : Str → Option Value} {base : Heap}
/-- THE RULE for a def: its body as a term of rules, and the reading of that term -/
theorem Fun.ok {x qual : Str} {st : Stmt} {f : Addr} {fd : FuncData} {N ps : List Str} {k : Nat} {sp : Sp} (F : Fun K x qual st f fd) (S : FnScope N ps (defScope st)) (len : ∀ vs H Q E, sp vs H Q E → vs.length = ps.length)
    (hbody : ∀ (cdv : Value) (A : Around) (outer : List Env) (s : Shared) (H : Hp) (vs : List V) (Q : VK) (E : XK), Room k (A.deeper (envOfC qual (defScope st) s.heap.objs.size f cdv)) → sp vs H Q E →
      ∃ t, PSs (cxOf CX0 P w K mg base N qual (defScope st) f cdv A outer s H E).nox (defBody st) t ∧ t { nx := fun _ H' => Q .non H', rt := Q } (start N vs) H) : FnOk P w K mg base CX0 (k + 1) f fd ps sp := by
  obtain ⟨oc, od, kV, doc, pm, an, cdv, ct, osl, rfl, lk, hcd⟩ := F.ex
  refine fn_of lk hcd S len fun A outer s H vs Q E hr hsp => ?_
  obtain ⟨t, h, q⟩ := hbody cdv A outer s H vs Q E hr hsp
  exact ⟨t, h.nox, q⟩
/-- how its arguments bind (no defaults): h is «fun _ _ _ _ _ _ us hl => match us, hl with | [_, _], _ => rfl», one _ a parameter -/
theorem Fun.binds {x qual : Str} {st : Stmt} {f : Addr} {fd : FuncData} {ps : List Str} (F : Fun K x qual st f fd)
    (h : ∀ (kV doc pm : Value) (an : Option Addr) (cdv ct : Value) (us : List Value), us.length = ps.length → bindArgs (PySem.W.fnOf x qual (defArgs st) (defBody st) (defScope st) .none kV doc pm an cdv ct) ⟨us, []⟩ = pure (ps.zip us)) : Binds K fd ps [] := by
  obtain ⟨oc, od, kV, doc, pm, an, cdv, ct, osl, rfl, lk, hcd⟩ := F.ex
  exact .all (h kV doc pm an cdv ct)
theorem fun_mk {x qual : Str} {st : Stmt} {f : Addr} {oc : Value} {od an : Option Addr} {osl : Array (Option Value)} {kV doc pm cdv ct : Value} (l : K.lookup f = some ⟨oc, od, .func (PySem.W.fnOf x qual (defArgs st) (defBody st) (defScope st) .none kV doc pm an cdv ct), osl⟩)
    (c : PySem.W.codeIn K cdv qual = true) (k : PySem.W.keepIn K (.ref f) = true) : Fun K x qual st f (PySem.W.fnOf x qual (defArgs st) (defBody st) (defScope st) .none kV doc pm an cdv ct) := ⟨⟨oc, od, kV, doc, pm, an, cdv, ct, osl, rfl, l, c⟩, k⟩
end
theorem hu_of {A : Around} {k : Nat} (hr : Room k A) : A.units + 1 < cLine := Nat.lt_of_le_of_lt (Nat.add_le_add_left (by decide : 1 ≤ 64) _) hr.units

/-! ### expressions in short: the name that stands in the i-th slot -/
section
variable {X : Cx}
theorem pv (i : Nat) {x : Str} {pos : Pos} (hN : X.N[i]? = some x := by rfl) (hv : Vis X.env.scope x := by first | exact Or.inl rfl | exact Or.inr (Or.inl rfl) | exact Or.inr (Or.inr rfl)) (hd : (x == ("__debug__" : Str)) = false := by decide)
    (hcd : (x == ("__classdict__" : Str)) = false := by decide) : PE X (.Name x pos) (tVar i) := pe_var hN hv hd hcd
end

/-! ### tests -/
theorem iteF {A B : Prop} (h : B) : if false = true then A else B := by
  rw [if_neg Bool.false_ne_true]
  exact h
theorem iteT {A B : Prop} (h : A) : if true = true then A else B := by
  rw [if_pos rfl]
  exact h
theorem ite2 {c A B : Prop} [Decidable c] (h1 : c → A) (h2 : ¬ c → B) : if c then A else B := by
  by_cases h : c
  · rw [if_pos h]
    exact h1 h
  · rw [if_neg h]
    exact h2 h

/-! ### heaps -/
/-- all that was tracked is as it was -/
noncomputable def Same (H H' : Hp) : Prop := ∀ b o, H b = some o → H' b = some o
theorem Same.refl (H : Hp) : Same H H := fun _ _ h => h
theorem Same.trans {H H1 H2 : Hp} (a : Same H H1) (b : Same H1 H2) : Same H H2 := fun c o h => b c o (a c o h)
theorem Same.free {H H' : Hp} (e : Same H H') {l : Addr} (h : H' l = Option.none) : H l = Option.none := by
  cases q : H l with
  | none => rfl
  | some o =>
    rw [e l o q] at h
    cases h
theorem Same.seq {K : PySem.W.Frag} {H H' : Hp} {a : Addr} {xs : List V} (e : Same H H') (h : SqL K H a xs) : SqL K H' a xs := by
  rcases h with (h | ⟨o, h⟩) | h
  · exact .inl (.inl (e _ _ h))
  · exact .inl (.inr ⟨o, e _ _ h⟩)
  · exact .inr h

/-! ### a dict's pairs: keys that differ -/
section
variable {κ : Type} [DecidableEq κ]
end
end L2


namespace M
/-! names that a cell tells -/
noncomputable def let26 (i : Int) : Nat := 97 + (i % 26).toNat
noncomputable def nmSize (c : Int) (many : Nat) : Nat := 1 + (c / 26 % (if 24 < many then 7 else 8)).toNat
noncomputable def nm (c : Int) (many k : Nat) : List Nat :=
  if c / 1664 % 3 = 0 ∧ many ≤ 8 then List.replicate (1 + ((c + k) % 8).toNat) (let26 c)
  else
    let b := (List.replicate (nmSize c many) (let26 c)).set (c / 208 % nmSize c many).toNat (let26 (c + 1 + (k % 24 : Nat)))
    if 23 < k then b ++ [let26 c] else b
theorem let26_lo (i : Int) : 97 ≤ let26 i := by unfold let26; omega
theorem let26_hi (i : Int) : let26 i ≤ 122 := by unfold let26; omega
theorem nmSize_lo (c : Int) (many : Nat) : 1 ≤ nmSize c many := by unfold nmSize; omega
theorem nmSize_hi (c : Int) (many : Nat) : nmSize c many ≤ 8 ∧ (24 < many → nmSize c many ≤ 7) := by
  unfold nmSize
  split <;> omega
noncomputable def good (l : List Nat) : Prop := 1 ≤ l.length ∧ l.length ≤ 8 ∧ ∀ x ∈ l, 97 ≤ x ∧ x ≤ 122
theorem mem_set_of {α : Type} {l : List α} {i : Nat} {a x : α} (h : x ∈ l.set i a) : x = a ∨ x ∈ l := by
  rcases List.mem_or_eq_of_mem_set h with h | h
  · exact .inr h
  · exact .inl h
theorem nm_good {c : Int} {many k : Nat} (hk : k < many) : good (nm c many k) := by
  have s1 := nmSize_lo c many
  have s2 := nmSize_hi c many
  unfold nm
  split
  · refine ⟨by simp, by simp; omega, fun x hx => ?_⟩
    have e := (List.mem_replicate.mp hx).2
    rw [e]; exact ⟨let26_lo c, let26_hi c⟩
  · have all : ∀ x ∈ (List.replicate (nmSize c many) (let26 c)).set (c / 208 % nmSize c many).toNat (let26 (c + 1 + (k % 24 : Nat))), 97 ≤ x ∧ x ≤ 122 := fun x hx => by
      rcases mem_set_of hx with e | hx
      · rw [e]; exact ⟨let26_lo _, let26_hi _⟩
      · have e := (List.mem_replicate.mp hx).2
        rw [e]; exact ⟨let26_lo c, let26_hi c⟩
    dsimp only
    split
    · refine ⟨by simp, by simp; omega, fun x hx => ?_⟩
      rcases List.mem_append.mp hx with h | h
      · exact all x h
      · have e := List.mem_singleton.mp h
        rw [e]; exact ⟨let26_lo c, let26_hi c⟩
    · exact ⟨by simpa using s1, by simp; omega, all⟩
theorem pos_lt (c : Int) (n : Nat) (h : 1 ≤ n) : (c / 208 % n).toNat < n := by
  have h1 : 0 ≤ c / 208 % (n : Int) := Int.emod_nonneg _ (by omega)
  have h2 : c / 208 % (n : Int) < n := Int.emod_lt_of_pos _ (by omega)
  omega

/-! trees -/
inductive Tr (α : Type) where
  | leaf (x : α)
  | knot (f : α) (l r : Tr α)
namespace Tr
variable {α : Type}
/-- the names of the leaves, from left to right -/
noncomputable def lv : Tr α → List α
  | .leaf x => [x]
  | .knot _ l r => l.lv ++ r.lv
/-- the names of the deeds -/
noncomputable def kn : Tr α → List α
  | .leaf _ => []
  | .knot f l r => f :: (l.kn ++ r.kn)
noncomputable def dp : Tr α → Nat
  | .leaf _ => 1
  | .knot _ l r => max l.dp r.dp + 1
noncomputable def isL : Tr α → Bool
  | .leaf _ => true
  | .knot _ _ _ => false
noncomputable def name : Tr α → α
  | .leaf x => x
  | .knot f _ _ => f
/-- the places, a place ahead of those within it -/
noncomputable def pl : Tr α → List (List Nat)
  | .leaf _ => [[]]
  | .knot _ l r => [] :: (l.pl.map (0 :: ·) ++ r.pl.map (1 :: ·))
noncomputable def sub : Tr α → List Nat → Option (Tr α)
  | t, [] => some t
  | .leaf _, _ :: _ => none
  | .knot _ l r, i :: p => if i = 0 then l.sub p else if i = 1 then r.sub p else none
/-- the parts with their places, p ahead of each -/
noncomputable def wk : Tr α → List Nat → List (List Nat × Tr α)
  | .leaf x, p => [(p, .leaf x)]
  | .knot f l r, p => (p, .knot f l r) :: (l.wk (p ++ [0]) ++ r.wk (p ++ [1]))
theorem lv_pos (t : Tr α) : 1 ≤ t.lv.length := by
  induction t with
  | leaf x => simp [lv]
  | knot f l r ihl ihr => simp [lv]; omega
theorem dp_le (t : Tr α) : t.dp ≤ t.lv.length := by
  induction t with
  | leaf x => simp [lv, dp]
  | knot f l r ihl ihr =>
    have := l.lv_pos
    have := r.lv_pos
    simp [lv, dp]; omega
theorem wk_sub (t : Tr α) : ∀ p q s, (q, s) ∈ t.wk p → ∃ q', q = p ++ q' ∧ t.sub q' = some s := by
  induction t with
  | leaf x =>
    intro p q s h
    simp only [wk, List.mem_singleton, Prod.mk.injEq] at h
    exact ⟨[], by simp [h.1], by simp [sub, h.2]⟩
  | knot f l r ihl ihr =>
    intro p q s h
    simp only [wk, List.mem_cons, List.mem_append, Prod.mk.injEq] at h
    rcases h with ⟨h1, h2⟩ | h | h
    · exact ⟨[], by simp [h1], by simp [sub, h2]⟩
    · obtain ⟨q', e, hs⟩ := ihl _ _ _ h
      exact ⟨0 :: q', by simp [e], by simp [sub, hs]⟩
    · obtain ⟨q', e, hs⟩ := ihr _ _ _ h
      exact ⟨1 :: q', by simp [e], by simp [sub, hs]⟩
theorem sub_mem {t s : Tr α} {q : List Nat} (h : (q, s) ∈ t.wk []) : t.sub q = some s := by
  obtain ⟨q', e, hs⟩ := wk_sub t _ _ _ h
  simpa [e] using hs
end Tr
/-- the first leaf of that name -/
noncomputable def firstOf {α : Type} [DecidableEq α] (x : α) : List (List Nat × Tr α) → Option (List Nat)
  | [] => none
  | q :: r => if q.2.isL ∧ q.2.name = x then some q.1 else firstOf x r
/-! depths of the trees that are put together in turn -/
noncomputable def dstep (j : Nat) (ds : List Nat) : List Nat :=
  ds.take (j % (ds.length - 1)) ++ [max (ds.getD (j % (ds.length - 1)) 0) (ds.getD (j % (ds.length - 1) + 1) 0) + 1] ++ ds.drop (j % (ds.length - 1) + 2)
noncomputable def dsim : Nat → List Nat → List Nat
  | 0, ds => ds
  | j + 1, ds => dstep j (dsim j ds)
theorem dsim_ok : ∀ m : Fin 8, ((dsim (24 + m.val) (List.replicate (25 + m.val) 1)).all (· ≤ 24)) = true := by decide +kernel

/-! trees put together -/
noncomputable def merge {β : Type} (p : Nat) (t : β) (ts : List β) : List β := ts.take p ++ [t] ++ ts.drop (p + 2)
theorem split2 {β : Type} : ∀ {p : Nat} {ts : List β} {a b : β}, ts[p]? = some a → ts[p + 1]? = some b → ts = ts.take p ++ [a, b] ++ ts.drop (p + 2)
  | 0, ts, a, b, h1, h2 => by
    cases ts with
    | nil => simp at h1
    | cons x r =>
      cases r with
      | nil => simp at h2
      | cons y r => simp at h1 h2; simp [h1, h2]
  | p + 1, ts, a, b, h1, h2 => by
    cases ts with
    | nil => simp at h1
    | cons x r =>
      have e := split2 (p := p) (ts := r) (by simpa using h1) (by simpa using h2)
      simp only [List.take_succ_cons, List.drop_succ_cons, List.cons_append]
      rw [← e]
structure TI {α : Type} (names deeds : List α) (many j : Nat) (ts : List (Tr α)) : Prop where
  perm : (ts.flatMap Tr.lv).Perm names
  kn : ∀ t ∈ ts, ∀ f ∈ t.kn, f ∈ deeds
  len : ts.length + j = many
  nl : names.length = many
  dps : 24 < many → ts.map Tr.dp = dsim j (List.replicate many 1)
theorem TI.start {α : Type} {names deeds : List α} : TI names deeds names.length 0 (names.map Tr.leaf) where
  perm := by
    have e : (names.map Tr.leaf).flatMap Tr.lv = names := by
      induction names with
      | nil => rfl
      | cons a r ih => simp [Tr.lv, ih]
    rw [e]
  kn := fun t ht f hf => by
    obtain ⟨x, _, rfl⟩ := List.mem_map.mp ht
    simp [Tr.kn] at hf
  len := by simp
  nl := rfl
  dps := fun _ => by
    have e : ∀ l : List α, (l.map Tr.leaf).map Tr.dp = List.replicate l.length 1 := fun l => by
      induction l with
      | nil => rfl
      | cons a r ih => simp only [List.map_cons, List.length_cons, List.replicate_succ, ih, Tr.dp]
    exact e names
theorem TI.step {α : Type} {names deeds : List α} {many j : Nat} {ts : List (Tr α)} (I : TI names deeds many j ts) {p : Nat} {a b x y : Tr α} {f : α} (h1 : ts[p]? = some a) (h2 : ts[p + 1]? = some b) (hp : 24 < many → p = j % (ts.length - 1)) (hf : f ∈ deeds)
    (hxy : (x = a ∧ y = b) ∨ (x = b ∧ y = a)) : TI names deeds many (j + 1) (merge p (.knot f x y) ts) := by
  have e := split2 h1 h2
  have hlt : p + 1 < ts.length := (List.getElem?_eq_some_iff.mp h2).1
  have hd : (Tr.knot f x y).dp = max a.dp b.dp + 1 := by
    rcases hxy with ⟨rfl, rfl⟩ | ⟨rfl, rfl⟩ <;> simp [Tr.dp, Nat.max_comm]
  refine ⟨?_, fun t ht g hg => ?_, ?_, I.nl, fun hm => ?_⟩
  · have q := I.perm
    rw [e] at q
    refine List.Perm.trans ?_ q
    unfold merge
    simp only [List.flatMap_append, List.flatMap_cons, List.flatMap_nil, List.append_nil]
    refine List.Perm.append_right _ (List.Perm.append_left _ ?_)
    simp only [Tr.lv]
    rcases hxy with ⟨rfl, rfl⟩ | ⟨rfl, rfl⟩
    · exact List.Perm.refl _
    · exact List.perm_append_comm
  · unfold merge at ht
    have ma : a ∈ ts := List.mem_of_getElem? h1
    have mb : b ∈ ts := List.mem_of_getElem? h2
    simp only [List.mem_append, List.mem_singleton] at ht
    rcases ht with (ht | rfl) | ht
    · exact I.kn t (List.mem_of_mem_take ht) g hg
    · simp only [Tr.kn, List.mem_cons, List.mem_append] at hg
      rcases hg with rfl | hg | hg
      · exact hf
      · rcases hxy with ⟨rfl, rfl⟩ | ⟨rfl, rfl⟩
        · exact I.kn _ ma g hg
        · exact I.kn _ mb g hg
      · rcases hxy with ⟨rfl, rfl⟩ | ⟨rfl, rfl⟩
        · exact I.kn _ mb g hg
        · exact I.kn _ ma g hg
    · exact I.kn t (List.mem_of_mem_drop ht) g hg
  · have := I.len
    unfold merge
    simp only [List.length_append, List.length_take, List.length_drop, List.length_singleton]
    omega
  · have q := I.dps hm
    simp only [dsim, dstep]
    rw [← q]
    have hp := hp hm
    simp only [List.length_map]
    rw [← hp]
    unfold merge
    simp only [List.map_append, List.map_take, List.map_drop, List.map_cons, List.map_nil, hd]
    have g1 : (ts.map Tr.dp).getD p 0 = a.dp := by simp [List.getD, h1]
    have g2 : (ts.map Tr.dp).getD (p + 1) 0 = b.dp := by simp [List.getD, h2]
    rw [g1, g2]
theorem TI.end {α : Type} {names deeds : List α} {many j : Nat} {t : Tr α} (I : TI names deeds many j [t]) (hm : many ≤ 32) : t.lv.Perm names ∧ (∀ f ∈ t.kn, f ∈ deeds) ∧ t.dp ≤ 24 := by
  have hp : t.lv.Perm names := by have := I.perm; simpa using this
  refine ⟨hp, I.kn t (by simp), ?_⟩
  by_cases h : 24 < many
  · have q := I.dps h
    have hl := I.len
    simp at hl
    have ok := dsim_ok ⟨many - 25, by omega⟩
    have e1 : 24 + (many - 25) = j := by omega
    have e2 : 25 + (many - 25) = many := by omega
    simp only [e1, e2] at ok
    rw [← q] at ok
    simpa using ok
  · have h1 := t.dp_le
    have h2 := hp.length_eq
    have h3 := I.nl
    omega
end M

namespace M
noncomputable abbrev Pl := List Nat
namespace Tr
variable {α : Type}
/-! ranks -/
noncomputable def rk : Tr α → Nat
  | .leaf _ => 1
  | .knot _ l r => if l.rk = r.rk then l.rk + 1 else max l.rk r.rk
/-- each way that keeps to the greater rank is held at some place -/
noncomputable def blk (h : Pl → Bool) : Tr α → Pl → Bool
  | .leaf _, p => h p
  | .knot _ l r, p => h p || (if l.rk = r.rk then blk h l (p ++ [0]) && blk h r (p ++ [1]) else if r.rk < l.rk then blk h l (p ++ [0]) else blk h r (p ++ [1]))
end Tr
noncomputable def held (bx : List (Option Pl)) (p : Pl) : Bool := bx.any fun o => o == some p

/-! the leaves' places -/
/-- the names of a tree that a script tells -/
structure TreeOf (many : Nat) (t : Tr (List Nat)) (c c' : Int) : Prop where
  perm : t.lv.Perm ((List.range many).map (nm c many))
  kn : ∀ f ∈ t.kn, f ∈ (List.range 3).map (nm c' 3)
  dp : t.dp ≤ 24

end M

set_option linter.all false
namespace M
variable {α β γ : Type}
/-! ### deeds, and what they do to boxes and shelf, whatever these hold -/
inductive Deed (α : Type)
  | take (x : α) (i : Int)
  | join (f : α) (i j h : Int)
  | put (i s : Int)
  | fetch (s i : Int)
noncomputable def inN (k : Int) (i : Int) : Prop := 0 ≤ i ∧ i < k
noncomputable instance (k i : Int) : Decidable (inN k i) := by unfold inN; infer_instance
namespace Deed
noncomputable def bn : Deed α → List Int
  | .take _ i => [i]
  | .join _ i j h => [i, j, h]
  | .put i _ => [i]
  | .fetch _ i => [i]
noncomputable def sn : Deed α → List Int
  | .put _ s => [s]
  | .fetch s _ => [s]
  | _ => []
noncomputable def ok (k m : Int) (d : Deed α) : Prop := (∀ i ∈ d.bn, inN k i) ∧ ∀ s ∈ d.sn, inN m s
noncomputable instance (k m : Int) (d : Deed α) : Decidable (d.ok k m) := by unfold ok; infer_instance
/-- the box, or the place of the shelf, that it sets -/
noncomputable def set (d : Deed α) (v : β) (st : List β × List β) : List β × List β := match d with
  | .take _ i => (st.1.set i.toNat v, st.2)
  | .join _ _ _ h => (st.1.set h.toNat v, st.2)
  | .put _ s => (st.1, st.2.set s.toNat v)
  | .fetch _ i => (st.1.set i.toNat v, st.2)
noncomputable def val (z : β) (tk : α → β) (jn : α → β → β → β) (d : Deed α) (st : List β × List β) : β := match d with
  | .take x _ => tk x
  | .join f i j _ => jn f (st.1.getD i.toNat z) (st.1.getD j.toNat z)
  | .put i _ => st.1.getD i.toNat z
  | .fetch s _ => st.2.getD s.toNat z
noncomputable def go (z : β) (tk : α → β) (jn : α → β → β → β) (st : List β × List β) (d : Deed α) : List β × List β := d.set (d.val z tk jn st) st
noncomputable def rows (z : β) (tk : α → β) (jn : α → β → β → β) (k m : Nat) (row : List (Deed α)) : List β × List β := row.foldl (go z tk jn) (List.replicate k z, List.replicate m z)
end Deed
/-! ### marks -/
noncomputable def knotAt [DecidableEq α] (t : Tr α) (f : α) (p : List Nat) : Bool := match t.sub p with
  | some (.knot g _ _) => decide (g = f)
  | _ => false
/-- the knot over two places -/
noncomputable def over [DecidableEq α] (t : Tr α) (f : α) : Option (List Nat) → Option (List Nat) → Option (List Nat)
  | some p, some q => if p = p.dropLast ++ [0] ∧ q = p.dropLast ++ [1] ∧ knotAt t f p.dropLast = true then some p.dropLast else none
  | _, _ => none
noncomputable def mark [DecidableEq α] (t : Tr α) : List (Option (List Nat)) × List (Option (List Nat)) → Deed α → List (Option (List Nat)) × List (Option (List Nat)) := Deed.go none (fun x => firstOf x (t.wk [])) (over t)
/-! ### as the law reckons them -/
end M

/-! ### list comprehensions over the layer -/
namespace L2
open PySem PySem.Spec PyProof.Rows

theorem forIn_of_step {α β : Type} {f : α → β → Sem (ForInStep β)} {g : β → α → β} : ∀ (l : List α) (b : β), (∀ x ∈ l, ∀ b, f x b = pure (.yield (g b x))) → forIn l b f = pure (l.foldl g b)
  | [], b, _ => by rw [List.forIn_nil]; rfl
  | x :: l, b, h => by
    rw [List.forIn_cons, h x List.mem_cons_self b, pure_bind]
    exact forIn_of_step l _ fun y hy b => h y (List.mem_cons_of_mem _ hy) b

noncomputable def closStep (cells : List (Str × Addr)) (acc : List (Str × Addr)) (x : Str × NameKind) : List (Str × Addr) :=
  if (x.2 == NameKind.free) = true then (match cells.lookup x.1 with | some a => (x.1, a) :: acc | none => acc) else acc
noncomputable def closOf (cells : List (Str × Addr)) (names : List (Str × NameKind)) : List (Str × Addr) := names.foldl (closStep cells) []
theorem closureFor_of {scope : Scope} {env : Env} (h : ∀ y ∈ scope.names, y.2 = NameKind.free → ∃ a, env.cells.lookup y.1 = some a) : closureFor scope env = pure (closOf env.cells scope.names) := by
  simp only [closureFor]
  rw [forIn_of_step (g := closStep env.cells) scope.names [] (fun x hx b => by
    obtain ⟨n, k⟩ := x
    by_cases hk : (k == NameKind.free) = true
    · have hk' : k = .free := by simpa using hk
      obtain ⟨a, e⟩ := h _ hx hk'
      have e' : env.cells.lookup n = some a := e
      simp only [hk, if_true, closStep, e', cellOf, pure_bind]
      try rfl
    · simp only [hk, closStep]
      try rfl)]
  rw [pure_bind]
  rfl
theorem closStep_sound {cells acc : List (Str × Addr)} {y : Str × NameKind} {x : Str} {c : Addr} (h : (closStep cells acc y).lookup x = some c) : acc.lookup x = some c ∨ cells.lookup x = some c := by
  unfold closStep at h
  split at h
  · split at h
    · rename_i a e
      rw [List.lookup_cons] at h
      split at h
      · rename_i hb
        have : x = y.1 := by simpa using hb
        rw [this, e]; exact .inr h
      · exact .inl h
    · exact .inl h
  · exact .inl h
theorem clos_sound {cells : List (Str × Addr)} : ∀ (names : List (Str × NameKind)) (acc : List (Str × Addr)) {x : Str} {c : Addr}, (names.foldl (closStep cells) acc).lookup x = some c → acc.lookup x = some c ∨ cells.lookup x = some c
  | [], _, _, _, h => .inl h
  | y :: r, acc, x, c, h => by
    rcases clos_sound r _ h with h | h
    · exact closStep_sound h
    · exact .inr h
theorem closOf_sound {cells : List (Str × Addr)} {names : List (Str × NameKind)} {x : Str} {c : Addr} (h : (closOf cells names).lookup x = some c) : cells.lookup x = some c := by
  rcases clos_sound names [] h with h | h
  · simp at h
  · exact h
theorem closStep_keeps {cells acc : List (Str × Addr)} {y : Str × NameKind} {x : Str} {c : Addr} (h : acc.lookup x = some c) : ∃ c', (closStep cells acc y).lookup x = some c' := by
  unfold closStep
  split
  · split
    · rw [List.lookup_cons]
      split
      · exact ⟨_, rfl⟩
      · exact ⟨c, h⟩
    · exact ⟨c, h⟩
  · exact ⟨c, h⟩
theorem clos_keeps {cells : List (Str × Addr)} : ∀ (names : List (Str × NameKind)) (acc : List (Str × Addr)) {x : Str} {c : Addr}, acc.lookup x = some c → ∃ c', (names.foldl (closStep cells) acc).lookup x = some c'
  | [], _, _, c, h => ⟨c, h⟩
  | y :: r, acc, x, c, h => by
    obtain ⟨c', h'⟩ := closStep_keeps (cells := cells) (y := y) h
    exact clos_keeps r _ h'
theorem clos_has {cells : List (Str × Addr)} : ∀ (names : List (Str × NameKind)) (acc : List (Str × Addr)) {x : Str} {a : Addr}, (x, NameKind.free) ∈ names → cells.lookup x = some a → ∃ c', (names.foldl (closStep cells) acc).lookup x = some c'
  | [], _, _, _, h, _ => nomatch h
  | y :: r, acc, x, a, h, e => by
    rcases List.mem_cons.mp h with rfl | h
    · refine clos_keeps r (closStep cells acc (x, .free)) (x := x) (c := a) ?_
      unfold closStep
      rw [if_pos (by rfl)]
      simp only [e]
      simp
    · exact clos_has r _ h e
theorem closOf_has {cells : List (Str × Addr)} {names : List (Str × NameKind)} {x : Str} {a : Addr} (h : (x, NameKind.free) ∈ names) (e : cells.lookup x = some a) : (closOf cells names).lookup x = some a := by
  obtain ⟨c', h'⟩ := clos_has names [] h e
  have := closOf_sound h'
  rw [e] at this; cases this
  exact h'
theorem lookup_mem {α : Type} : ∀ {l : List (Str × α)} {x : Str} {k : α}, l.lookup x = some k → (x, k) ∈ l
  | [], _, _, h => by simp at h
  | (n, k') :: r, x, k, h => by
    rw [List.lookup_cons] at h
    split at h
    · rename_i hb
      cases h
      have : x = n := by simpa using hb
      rw [this]; exact List.mem_cons_self
    · exact List.mem_cons_of_mem _ (lookup_mem h)
theorem lookup_relabel {env : Env} : ∀ {names : List (Str × NameKind)} {x : Str} {k : NameKind},
    (names.map fun (n, k) => if (k == NameKind.free && env.scope.kind == .function && env.kindOf n == some .cell) then (n, NameKind.cell) else (n, k)).lookup x = some k →
    names.lookup x = some k ∨ (k = .cell ∧ names.lookup x = some .free)
  | [], _, _, h => by simp at h
  | (n, k') :: r, x, k, h => by
    have ih := @lookup_relabel env r x k
    rw [List.map_cons] at h
    by_cases hc : (k' == NameKind.free && env.scope.kind == .function && env.kindOf n == some .cell) = true
    · have h2 : List.lookup x ((n, NameKind.cell) :: (r.map fun (n, k) => if (k == NameKind.free && env.scope.kind == .function && env.kindOf n == some .cell) then (n, NameKind.cell) else (n, k))) = some k := by
        simpa only [if_pos hc] using h
      rw [List.lookup_cons] at h2 ⊢
      split at h2
      · cases h2
        have : k' = .free := by
          cases k' <;> first | rfl | simp at hc
        simp_all
      · exact ih h2
    · have h2 : List.lookup x ((n, k') :: (r.map fun (n, k) => if (k == NameKind.free && env.scope.kind == .function && env.kindOf n == some .cell) then (n, NameKind.cell) else (n, k))) = some k := by
        simpa only [if_neg hc] using h
      rw [List.lookup_cons] at h2 ⊢
      split at h2
      · exact .inl h2
      · exact ih h2
theorem relabel_free {env : Env} : ∀ {names : List (Str × NameKind)} {x : Str}, names.lookup x = some .free →
    (names.map fun (n, k) => if (k == NameKind.free && env.scope.kind == .function && env.kindOf n == some .cell) then (n, NameKind.cell) else (n, k)).lookup x = some .cell ∨
    (names.map fun (n, k) => if (k == NameKind.free && env.scope.kind == .function && env.kindOf n == some .cell) then (n, NameKind.cell) else (n, k)).lookup x = some .free
  | [], _, h => by simp at h
  | (n, k') :: r, x, h => by
    have ih := @relabel_free env r x
    rw [List.lookup_cons] at h
    rw [List.map_cons]
    dsimp only
    by_cases hc : (k' == NameKind.free && env.scope.kind == .function && env.kindOf n == some .cell) = true
    · rw [if_pos hc, List.lookup_cons]
      cases hb : (x == n) with
      | true => exact .inl rfl
      | false =>
        rw [hb] at h
        exact ih h
    · rw [if_neg hc, List.lookup_cons]
      cases hb : (x == n) with
      | true =>
        rw [hb] at h
        exact .inr h
      | false =>
        rw [hb] at h
        exact ih h

/-- the block's context -/
noncomputable def blk (X : Cx) (N : List Str) (scope : Scope) (C : Addr) (s : Shared) (H : Hp) (ex : List Addr) : Cx :=
  { X with N := N, s₀ := s, H₀ := H, env := compEnvC scope (closOf X.env.cells scope.names) C X.env, outer := X.stack, ex := ex, fn := fun _ => false, pn := [], xe := fun _ _ => False }
/-- what the block's scope must have; N: the loop's name, then the captured ones; caps: their slots outside -/
structure CSc (X : Cx) (scope : Scope) (x : Str) (N : List Str) (caps : List Nat) : Prop where
  kind : scope.kind = .function
  nocellB : (scope.names.all fun y => y.2 != NameKind.cell) = true
  namesB : (scope.names.all fun y => y.2 != NameKind.local || scope.names.lookup y.1 == some NameKind.local) = true
  lx : scope.names.lookup x = some .local
  nd : N.Nodup
  n0 : N[0]? = some x
  capN : caps.map (fun j => X.N[j]?) = N.tail.map some
  capFB : (N.tail.all fun y => scope.names.lookup y == some NameKind.free) = true
  freesB : (scope.names.all fun y => y.2 != NameKind.free || X.env.scope.names.lookup y.1 == some NameKind.cell || X.env.scope.names.lookup y.1 == some NameKind.free) = true
theorem CSc.nocell {X : Cx} {scope : Scope} {x : Str} {N : List Str} {caps : List Nat} (S : CSc X scope x N caps) : ∀ y ∈ scope.names, y.2 ≠ .cell := fun y hy => by
  have h := List.all_eq_true.mp S.nocellB y hy
  simpa using h
theorem CSc.names {X : Cx} {scope : Scope} {x : Str} {N : List Str} {caps : List Nat} (S : CSc X scope x N caps) : ∀ y ∈ scope.names, y.2 = .local → scope.names.lookup y.1 = some .local := fun y hy e => by
  have h := List.all_eq_true.mp S.namesB y hy
  simp only [e, bne_self_eq_false, Bool.false_or] at h
  simpa using h
theorem CSc.capF {X : Cx} {scope : Scope} {x : Str} {N : List Str} {caps : List Nat} (S : CSc X scope x N caps) : ∀ y ∈ N.tail, scope.names.lookup y = some .free := fun y hy => by
  have h := List.all_eq_true.mp S.capFB y hy
  simpa using h
theorem CSc.frees {X : Cx} {scope : Scope} {x : Str} {N : List Str} {caps : List Nat} (S : CSc X scope x N caps) : ∀ y ∈ scope.names, y.2 = .free → (X.env.kindOf y.1 = some .cell ∨ X.env.kindOf y.1 = some .free) := fun y hy e => by
  have h := List.all_eq_true.mp S.freesB y hy
  simp only [e, bne_self_eq_false, Bool.false_or, Bool.or_eq_true] at h
  rcases h with h | h
  · exact .inl (by show X.env.scope.names.lookup y.1 = _; simpa using h)
  · exact .inr (by show X.env.scope.names.lookup y.1 = _; simpa using h)
/-- the block's names -/
noncomputable def blkSt (caps : List Nat) (σ : St) (o : Option V) : St := o :: caps.map fun j => (σ[j]?).join

theorem HOk.adopt {P : Program} {w : World} {H : Hp} {h : Heap} {a : Addr} {o : HO} (x : HOk P w H h) (hn : H a = none) (new : ObjOk P w (upd H a o) h a o) : HOk P w (upd H a o) h := fun b u e => by
  by_cases hb : b = a
  · subst hb; rw [upd_same] at e; cases e; exact new
  · rw [upd_ne hb] at e
    exact (x b u e).stay (fun c v _ q => q) (fun c q => by rw [upd_ne (ne_of_none q hn)]; exact q) fun c xs q => by rw [upd_ne (ne_of_none q hn)]; exact q

section
variable {X : Cx} {pins : List (Addr × Obj)} {σ : St} {H : Hp} {s : Shared} {scope : Scope} {x : Str} {N : List Str} {caps : List Nat} {fp : List Addr}
theorem CSc.cells (S : CSc X scope x N caps) (ok : X.Ok) : ∀ y ∈ scope.names, y.2 = NameKind.free → ∃ a, X.env.cells.lookup y.1 = some a := fun y hy e => ok.has _ (S.frees y hy e)
theorem CSc.len (S : CSc X scope x N caps) : N.length = caps.length + 1 := by
  have h := congrArg List.length S.capN
  simp only [List.length_map, List.length_tail] at h
  have h2 := S.n0
  cases N with
  | nil => simp at h2
  | cons a r => simp at h ⊢; omega
theorem CSc.at (S : CSc X scope x N caps) {i : Nat} {y : Str} (h : N[i + 1]? = some y) : ∃ j, caps[i]? = some j ∧ X.N[j]? = some y ∧ scope.names.lookup y = some .free := by
  have h2 := S.n0
  cases hN : N with
  | nil => rw [hN] at h2; simp at h2
  | cons a r =>
    rw [hN] at h
    have ht : N.tail[i]? = some y := by rw [hN]; simpa using h
    have e := congrArg (fun l => l[i]?) S.capN
    simp only [List.getElem?_map, ht, Option.map_some] at e
    cases hc : caps[i]? with
    | none => rw [hc] at e; simp at e
    | some j =>
      rw [hc] at e
      refine ⟨j, rfl, ?_, S.capF y ?_⟩
      · simpa using e
      · exact List.mem_of_getElem? ht

theorem blk_ok (S : CSc X scope x N caps) (I : Inv X pins σ H s) (hf : ∀ b ∈ fp, FpOk X pins H b) (hlt : ∀ b ∈ fp, b < s.heap.objs.size) :
    (blk X N scope (s.heap.objs.size + 1) s H (s.heap.objs.size :: fp)).Ok where
  mod := I.ok.mod
  kind := S.kind
  glob := I.ok.glob
  blt := I.ok.blt
  above := Nat.le_succ _
  inj := fun a b c e1 e2 => I.ok.inj a b c (closOf_sound e1) (closOf_sound e2)
  has := fun y hy => by
    have e : ∃ k, (relabel scope X.env).names.lookup y = some k ∧ (k = .cell ∨ k = .free) := by
      rcases hy with h | h
      · exact ⟨_, h, .inl rfl⟩
      · exact ⟨_, h, .inr rfl⟩
    obtain ⟨k, e, hk⟩ := e
    have hfree : scope.names.lookup y = some .free := by
      rcases lookup_relabel (env := X.env) e with h | ⟨_, h⟩
      · rcases hk with rfl | rfl
        · exact absurd rfl (S.nocell _ (lookup_mem h))
        · exact h
      · exact h
    obtain ⟨a, ea⟩ := S.cells I.ok _ (lookup_mem hfree) rfl
    exact ⟨a, closOf_has (lookup_mem hfree) ea⟩
  cab := fun _ _ h => by cases h
  hd := I.ok.hd
  frames := I.ok.frames
  stk := .inl rfl
  exf := fun b hb => by
    rcases List.mem_cons.mp hb with rfl | hb
    · refine ⟨Nat.ne_of_lt (Nat.lt_succ_self _), fun y c e z => ?_⟩
      exact (I.fpOk (Nat.le_refl _) (I.hok.fresh (Nat.le_refl _))).2.2.2.2.1 y c (closOf_sound e) z
    · refine ⟨Nat.ne_of_lt (Nat.lt_succ_of_lt (hlt b hb)), fun y c e z => ?_⟩
      exact (hf b hb).2.2.2.2.1 y c (closOf_sound e) z
  bs := I.bs
  bsz := Nat.le_trans I.ok.bsz I.sz
  noex := fun b o e hb => by
    rcases List.mem_cons.mp hb with rfl | hb
    · exact absurd (Heap.lt_size (I.bk _ _ e)) (Nat.lt_irrefl _)
    · rcases (hf b hb).2.2.2.1 with z | z
      · exact I.ok.noex b o e z
      · exact absurd (Nat.lt_of_lt_of_le (Heap.lt_size (I.ok.bs b o e).1) z) (Nat.lt_irrefl _)
  exfs := fun b hb hs => by
    have hs' := I.stkSub b hs
    rcases List.mem_cons.mp hb with rfl | hb
    · rcases List.mem_cons.mp hs' with z | z
      · exact absurd I.lt (by rw [← z]; exact Nat.lt_irrefl _)
      · exact I.nofs (Nat.le_refl _) z
    · rcases List.mem_cons.mp hs' with z | z
      · exact (hf b hb).2.1 z
      · exact (hf b hb).2.2.1 z
  funs := I.stack
  frf := I.stkFree

theorem blk_inv (S : CSc X scope x N caps) (I : Inv X pins σ H s) (hf : ∀ b ∈ fp, FpOk X pins H b) (hlt : ∀ b ∈ fp, b < s.heap.objs.size) {h₁ : Heap} {m : Str → Option Value} {tk : Nat}
    (hns : h₁.Ns (s.heap.objs.size + 1) m) (old : ∀ b o, s.heap.get? b = some o → h₁.get? b = some o) :
    Inv (blk X N scope (s.heap.objs.size + 1) s H (s.heap.objs.size :: fp)) [] (blkSt caps σ none) H { s with heap := h₁, toks := tk } where
  ok := blk_ok S I hf hlt
  os := rfl
  bare := I.bare
  base := Un.kept old
  loc := ⟨m, hns, fun i y v e1 e2 _ => by
    cases i with
    | zero => simp [blkSt] at e2
    | succ i =>
      obtain ⟨j, hj, hX, hfree⟩ := S.at e1
      have e2' : (σ[j]?).join = some v := by
        simp only [blkSt, List.getElem?_cons_succ, List.getElem?_map, hj, Option.map_some] at e2
        exact Option.some.inj e2
      have e3 : σ[j]? = some (some v) := by
        cases hh : σ[j]? with
        | none => rw [hh] at e2'; simp at e2'
        | some o => rw [hh] at e2'; simp at e2'; rw [e2']
      obtain ⟨m₂, _, hl⟩ := I.loc
      have hk := S.frees _ (lookup_mem hfree) rfl
      obtain ⟨u, r, l⟩ := hl j y v hX e3 (by
        rcases hk with k | k
        · exact .inr (.inl k)
        · exact .inr (.inr k))
      refine ⟨u, r, .inr ?_⟩
      rcases l with ⟨k, _⟩ | ⟨_, c, hc, hcell⟩
      · rcases hk with k' | k' <;> (rw [k] at k'; cases k')
      · obtain ⟨o, ho, hd⟩ := hcell
        exact ⟨relabel_free hfree, c, closOf_has (lookup_mem hfree) hc, o, old _ _ ho, hd⟩⟩
  cell := fun y c e => by
    obtain ⟨v, o, ho, hd⟩ := I.cell y c (closOf_sound e)
    exact ⟨v, o, old _ _ ho, hd⟩
  free := I.hok.fresh (Nat.le_succ _)
  freeC := fun y c e => I.freeC y c (closOf_sound e)
  pin := fun p hp => by
    have : p ∈ ([] : List (Addr × Obj)) := hp
    simp at this
  hok := I.hok.kept old
  len := by
    show (blkSt caps σ none).length = N.length
    rw [S.len]; simp [blkSt]
end

/-- the tests of a comprehension -/
noncomputable def PIfs (X : Cx) (ifs : List Expr) (t : TT) : Prop :=
  ∀ (pins : List (Addr × Obj)) (s : Shared) (σ : St) (H : Hp) (Q : Bool → Hp → Prop), Inv X pins σ H s → t σ H Q →
    wpAny (model X.prog X.w) X.A (forIn ifs true fun c r => if r = true then do let ok ← isTrue c X.env (eval c X.env); pure (ForInStep.yield ok) else pure (ForInStep.yield r)) (TP X pins σ Q) X.xe s
noncomputable def tYes : TT := fun _ H Q => Q true H
theorem pif_nil {X : Cx} : PIfs X [] tYes := fun pins s σ H Q I h => wpAny_tests_nil ⟨H, I, h⟩
theorem pif_one {X : Cx} {c : Expr} {t : TT} (h : PT X c t) : PIfs X [c] t := fun pins s σ H Q I hw => wpAny_tests_one (h pins s σ H Q I hw)

/-- [elt for x in iter if c] -/
noncomputable def wComp (J : It) (caps : List Nat) (tc : TT) (te : TE) (σ : St) (H1 : Hp) (Q : VK) : Prop :=
  ∃ W : Nat → Nat → List V → Hp → Prop, (∃ m, W 0 m [] H1) ∧ ∀ i m ys H, W i m ys H →
    (J.stop i H ∧ ∀ p, H p = none → Q (.ref p) (upd H p (.lst ys))) ∨
    (J.go i H ∧ ys.length < sizeLine ∧ ∃ N : List V → Hp → Prop, (∀ ys' H', N ys' H' → ∃ m', m' < m ∧ W (i + 1) m' ys' H') ∧ ∀ v H', J.yld i H v H' →
      tc (blkSt caps σ (some v)) H' fun b H2 => if b = true then te (blkSt caps σ (some v)) H2 fun y H3 => N (ys ++ [y]) H3 else N ys H2)
noncomputable def tComp (wi : TI) (caps : List Nat) (tc : TT) (te : TE) : TE := fun σ H Q => wi σ H fun J H1 => wComp J caps tc te σ H1 Q

theorem wp_pull {M : Model} {A : Around} {E : Value → Shared → Prop} {s : Shared} {m : Sem (Option Value)} {F : Value → Shared → Prop} (h : wpAny M A m (fun r s1 => ∃ u, r = some u ∧ wpAny M A (pure () : Sem Unit) (fun _ s2 => F u s2) E s1) E s) :
    wpAny M A m (fun r s1 => ∃ u, r = some u ∧ F u s1) E s := fun Γ p hΓ =>
  Sem.wp_mono M Γ m (fun r p' s' h' => by obtain ⟨u, e, h'⟩ := h'; exact ⟨u, e, h' Γ p' hΓ⟩) (fun _ _ _ h' => h') p s (h Γ p hΓ)

section
variable {X : Cx} {pins : List (Addr × Obj)} {σ : St} {H : Hp} {s : Shared} {scope : Scope} {x : Str} {N : List Str} {caps : List Nat} {fp : List Addr}
noncomputable abbrev lobj (its : List Value) (k : Nat) : Obj := { cls := .type "list", data := .seq its.toArray k }

/-- the whole block: from the list's making to its end -/
theorem comp_block {elt iter : Expr} {px pos : Pos} {ifs : List Expr} {tc : TT} {te : TE} {J : It} {it : Addr} {tn : Nat → Heap → Prop} {Q : VK} {RR : Value → Addr → Result → Shared → Prop} {E : Value → Shared → Prop}
    (hcalm : X.calm = true) (S : CSc X scope x N caps) (hc : ∀ C s H ex, PIfs (blk X N scope C s H ex) ifs tc) (he : ∀ C s H ex, PE (blk X N scope C s H ex) elt te)
    (I : Inv X pins σ H s) (T : Turn X.prog X.w X.K (.Name x px) J fp it tn) (t0 : tn 0 s.heap) (hf : ∀ b ∈ fp, FpOk X pins H b) (wc : wComp J caps tc te σ H Q)
    (fin : ∀ D C s' m' H' ys, Inv X pins σ (upd H' D (.lst ys)) s' → Q (.ref D) (upd H' D (.lst ys)) → s'.heap.Ns C m' → FpOk X pins (upd H' D (.lst ys)) C → C ≠ X.env.locals → RR (.ref D) C (.ok .next) s') :
    wpAny (model X.prog X.w) X.A (newList []) (fun acc s₃ => wpAny (model X.prog X.w) X.A (newFunctionEnv scope X.env.globals (closOf X.env.cells scope.names) [] X.env.qual none .none (some X.env)) (fun cenv s₄ =>
      codeAny (model X.prog X.w) X.A (.compStart (.ListComp elt [⟨.Name x px, iter, ifs, 0⟩] scope pos) 0 (.ref it) acc { cenv with scope := relabel scope X.env }) (RR acc cenv.locals) s₄) E s₃) E s := by
  refine wpAny_newObj_type (wpAny_newFunctionEnv S.nocell (by intro y hy; simp at hy) (fun h₁ hns₁ hsb₁ => ?_) S.kind)
  dsimp only at hns₁ hsb₁ ⊢
  generalize hH2 : s.heap.push { cls := .type "list", dict := none, data := .seq ([] : List Value).toArray } = H2 at hns₁ hsb₁ ⊢
  have hC : H2.objs.size = s.heap.objs.size + 1 := by rw [← hH2, Heap.size_push]
  have hDC : s.heap.objs.size ≠ H2.objs.size := by rw [hC]; exact Nat.ne_of_lt (Nat.lt_succ_self _)
  have below : ∀ b, b < s.heap.objs.size → b ≠ H2.objs.size := fun b hb => by rw [hC]; exact Nat.ne_of_lt (Nat.lt_succ_of_lt hb)
  have old : ∀ b o, s.heap.get? b = some o → h₁.get? b = some o := fun b o e => hsb₁.extBut b o (below b (Heap.lt_size e)) (Heap.get?_push_of_some _ (hH2 ▸ Heap.get?_push_of_some _ e))
  have hacc : h₁.get? s.heap.objs.size = some (lobj [] 0) := hsb₁.extBut _ _ hDC (Heap.get?_push_of_some _ (hH2 ▸ Heap.get?_push_size _ rfl))
  have hlt : ∀ b ∈ fp, b < s.heap.objs.size := fun b hb => by
    obtain ⟨o, e, _⟩ := T.obj 0 _ t0 b hb
    exact Heap.lt_size e
  have hDfp : s.heap.objs.size ∉ fp := fun z => Nat.lt_irrefl _ (hlt _ z)
  have hDok : FpOk X pins H s.heap.objs.size := I.fpOk (Nat.le_refl _) (I.hok.fresh (Nat.le_refl _))
  have hCok : FpOk X pins H H2.objs.size := I.fpOk (by rw [hC]; exact Nat.le_succ _) (I.hok.fresh (by rw [hC]; exact Nat.le_succ _))
  rw [hC] at hns₁ hDC hCok ⊢
  clear hC
  generalize hD : s.heap.objs.size = D at hacc hDfp hDok hDC
  have IY := blk_inv S I hf hlt (h₁ := h₁) (tk := s.toks + ([] : List (Str × Value)).length) hns₁ old
  rw [hD] at IY hns₁ hCok
  generalize hY : blk X N scope (D + 1) s H (D :: fp) = Y at IY
  have envY : Y.env = compEnvC scope (closOf X.env.cells scope.names) (D + 1) X.env := by rw [← hY]; rfl
  have exY : Y.ex = D :: fp := by rw [← hY]; rfl
  have fsY : Y.fs = frs X.stack := by rw [← hY]; rfl
  have pnY : Y.pn = [] := by rw [← hY]; rfl
  have locY : Y.env.locals = D + 1 := by rw [envY]; rfl
  have hcY : PIfs Y ifs tc := by rw [← hY]; exact hc _ _ _ _
  have heY : PE Y elt te := by rw [← hY]; exact he _ _ _ _
  have prY : Y.prog = X.prog ∧ Y.w = X.w ∧ Y.K = X.K ∧ Y.calm = X.calm ∧ Y.A = X.A ∧ Y.N = N ∧ Y.xe = fun _ _ => False := by rw [← hY]; exact ⟨rfl, rfl, rfl, rfl, rfl, rfl, rfl⟩
  obtain ⟨pr1, pr2, pr3, pr4, pr5, pr6, pr7⟩ := prY
  -- what a block's state has of the records
  have fpY : ∀ {H' : Hp} {pl : List (Addr × Obj)}, (∀ b ∈ fp, H' b = none) → (∀ p ∈ pl, p.1 = D) → ∀ b ∈ fp, FpOk Y pl H' b := fun {H' pl} hn hp b hb => by
    refine ⟨hn b hb, ?_, ?_, .inl (by rw [exY]; exact List.mem_cons_of_mem _ hb), fun y c e => (IY.ok.exf b (by rw [exY]; exact List.mem_cons_of_mem _ hb)).2 y c e, fun p hpp z => ?_⟩
    · exact (IY.ok.exf b (by rw [exY]; exact List.mem_cons_of_mem _ hb)).1
    · exact IY.ok.exfs b (by rw [exY]; exact List.mem_cons_of_mem _ hb)
    · rw [pnY, List.nil_append] at hpp
      exact hDfp (by rw [← hp p hpp, z]; exact hb)
  have hDY : D ∈ Y.ex := by rw [exY]; exact List.mem_cons_self
  -- D pinned
  have pinD : ∀ {H' : Hp} {s' : Shared} {σ' : St} {its : List Value} {k : Nat}, Inv Y [] σ' H' s' → H' D = none → s'.heap.get? D = some (lobj its k) → Inv Y [(D, lobj its k)] σ' H' s' := fun {H' s' σ' its k} I' hn e =>
    I'.pins_of fun p hp => by
      have hp' : p = (D, lobj its k) := by simpa using hp
      subst hp'
      refine ⟨e, hn, (IY.ok.exf D hDY).1, IY.ok.exfs D hDY, fun v z => ?_⟩
      have z' : Data.seq its.toArray k = Data.cell v := z
      cases z'
  obtain ⟨W, ⟨m0, w0⟩, turn⟩ := wc
  have loop : ∀ s₃ : Shared, s₃ = { s with heap := h₁, toks := s.toks + ([] : List (Str × Value)).length } →
      codeAny (model X.prog X.w) X.A (.compLoop (.ListComp elt [⟨.Name x px, iter, ifs, 0⟩] scope pos) 0 (.ref it) (.ref D) Y.env) (RR (.ref D) (D + 1)) s₃ := by
    rintro s₃ rfl
    refine codeAny_compLoop_tests
      (fun n s' => ∃ i ys its k H', Inv Y [(D, lobj its k)] (blkSt caps σ none) H' s' ∧ Vals ys its ∧ ys.length ≤ sizeLine ∧ tn i s'.heap ∧ (∀ b ∈ fp, H' b = none) ∧ W i n ys H') ?_ m0
      ⟨0, [], [], 0, H, pinD IY hDok.1 hacc, .nil, Nat.zero_le _, T.keep _ _ _ t0 fun b _ o e => old b o e, fun b hb => (hf b hb).1, w0⟩
    rintro n s1 ⟨i, ys, its, k, H1, I1, rv, hl, st1, fr1, w1⟩
    have pin1 : ∀ p ∈ [(D, lobj its k)], p.1 = D := fun p hp => by
      have hp' : p = (D, lobj its k) := by simpa using hp
      rw [hp']
    rcases turn i n ys H1 w1 with ⟨stop, qn⟩ | ⟨go, hsz, Nx, hNx, step⟩
    · have z := T.done Y pr1 pr2 pr3 (pr4.trans hcalm) i [(D, lobj its k)] s1 (blkSt caps σ none) H1 (notedBy (model X.prog X.w) X.A Y.env fun e s' => RR (.ref D) (D + 1) (.error e) s') I1 (fpY fr1 pin1) st1 stop
      rw [pr5] at z
      refine thn z fun r s2 ⟨hr, I2⟩ => ?_
      subst hr
      obtain ⟨eD, nD, _, _, _⟩ := I2.pin (D, lobj its k) (List.mem_append_right _ List.mem_cons_self)
      have hU : Un (frs X.stack) (D :: fp) H (upd H1 D (.lst ys)) s.heap s2.heap := by
        have b := I2.base
        rw [fsY, exY] at b
        have b' : Un (frs X.stack) (D :: fp) H H1 s.heap s2.heap := by
          have e1 : Y.H₀ = H := by rw [← hY]; rfl
          have e2 : Y.s₀ = s := by rw [← hY]; rfl
          rw [e1, e2] at b; exact b
        have ne : ∀ a u, H1 a = some u → a ≠ D := fun a u e => ne_of_none e nD
        exact ⟨b'.keep, b'.slot, fun a o e n hx => by rw [upd_ne (fun z => hx (by rw [z]; exact List.mem_cons_self))]; exact b'.free a o e n hx, b'.there,
          fun a xs e => by rw [upd_ne (ne _ _ (b'.tups a xs e))]; exact b'.tups a xs e, fun a o u e => by rw [upd_ne (ne _ _ (b'.frzs a o u e))]; exact b'.frzs a o u e,
          fun a ps e => by obtain ⟨mo, q⟩ := b'.tbls a ps e; exact ⟨mo, by rw [upd_ne (ne _ _ q)]; exact q⟩⟩
      have hHok : HOk X.prog X.w (upd H1 D (.lst ys)) s2.heap := by
        have q := I2.hok
        rw [pr1, pr2] at q
        exact q.adopt nD ⟨hl, its, k, rv, eD⟩
      have IX : Inv X pins σ (upd H1 D (.lst ys)) s2 := I.call' (by have := I2.os; rw [show Y.s₀ = s by rw [← hY]; rfl] at this; exact this) hU hHok I2.bare (fun b hb => by
        rcases List.mem_cons.mp hb with rfl | hb
        · exact ⟨hDok.2.2.2.1, hDok.2.1, hDok.2.2.2.2.1, hDok.2.2.2.2.2⟩
        · have q := hf b hb
          exact ⟨q.2.2.2.1, q.2.1, q.2.2.2.2.1, q.2.2.2.2.2⟩)
      obtain ⟨mC, hnC, _⟩ := I2.loc
      rw [locY] at hnC
      have fC := I2.free
      rw [locY] at fC
      exact fin D (D + 1) s2 mC H1 ys IX (qn D nD) hnC ⟨by rw [upd_ne (fun z => hDC z.symm)]; exact fC, hCok.2⟩ hCok.2.1
    · have z := wp_pull (T.item Y pr1 pr2 pr3 (pr4.trans hcalm) i [(D, lobj its k)] s1 (blkSt caps σ none) H1 (notedBy (model X.prog X.w) X.A Y.env fun e s' => RR (.ref D) (D + 1) (.error e) s') I1 (fpY fr1 pin1) st1 go)
      rw [pr5] at z
      refine thn z fun r s2 ⟨u, hr, v, H2, I2, ru, yld, st2, fr2⟩ => ?_
      subst hr
      have I2' := I2.pinned (fpY fr2 pin1) (T.obj _ _ st2)
      have lxY : Y.env.scope.names.lookup x = some .local := by rw [envY]; exact lookup_relabel_local S.lx
      have g := pg_name (X := Y) (i := 0) (x := x) (pos := px) (by rw [pr6]; exact S.nd) (by rw [pr6]; exact S.n0) (.inl lxY) (.inr lxY)
      have a := g _ s2 _ H2 v u (fun σ' H' => σ' = blkSt caps σ (some v) ∧ H' = H2) I2' ru ⟨rfl, rfl⟩
      rw [pr1, pr2, pr5, pr7] at a
      refine wpAny_mono a (fun _ s3 ⟨σ3, H3, I3, e1, e2⟩ => ?_) fun _ _ f => f.elim
      subst e1 e2
      have c := hcY _ s3 _ H3 _ I3 (step v H3 yld)
      rw [pr1, pr2, pr5, pr7] at c
      refine wpAny_mono c (fun b s4 ⟨H4, I4, q4⟩ => ?_) fun _ _ f => f.elim
      -- the turn's end: D's object is told, the rest kept
      have again : ∀ {s5 : Shared} {H5 : Hp} {ys' : List V} {its' : List Value} {k' m' : Nat}, Inv Y (pinsAt fp s2.heap) (blkSt caps σ (some v)) H5 s5 → H5 D = none → s5.heap.get? D = some (lobj its' k') → Vals ys' its' → ys'.length ≤ sizeLine → m' < n → W (i + 1) m' ys' H5 →
          ∃ m, m < n ∧ ∃ i ys its k H', Inv Y [(D, lobj its k)] (blkSt caps σ none) H' s5 ∧ Vals ys its ∧ ys.length ≤ sizeLine ∧ tn i s5.heap ∧ (∀ b ∈ fp, H' b = none) ∧ W i m ys H' := fun {s5 H5 ys' its' k' m'} I5 nD eD rv' hl' hm w' => by
        refine ⟨m', hm, i + 1, ys', its', k', H5, pinD ((I5.pins_of fun p hp => by simp at hp).weak (by simp [blkSt]) fun j w hj => ?_) nD eD, rv', hl', T.keep _ _ _ st2 fun b hb o e => (I5.pin (b, o) (List.mem_append_right _ (mem_pinsAt hb e))).1, fun b hb => ?_, w'⟩
        · cases j with
          | zero => simp [blkSt] at hj
          | succ j => simpa [blkSt] using hj
        · obtain ⟨o, e, d⟩ := T.obj _ _ st2 b hb
          exact (I5.pin (b, o) (List.mem_append_right _ (mem_pinsAt hb e))).2.1
      have drop1 : ∀ {s5 : Shared} {H5 : Hp} {σ5 : St}, Inv Y ([(D, lobj its k)] ++ pinsAt fp s2.heap) σ5 H5 s5 → Inv Y (pinsAt fp s2.heap) σ5 H5 s5 := fun I5 => I5.pins_of fun p hp => I5.pin p (List.mem_append_right _ (List.mem_append_right _ hp))
      cases b with
      | false =>
        obtain ⟨m', hm, w'⟩ := hNx _ _ q4
        obtain ⟨eD, nD, _⟩ := I4.pin (D, lobj its k) (List.mem_append_right _ (List.mem_append_left _ List.mem_cons_self))
        exact again (drop1 I4) nD eD rv hl hm w'
      | true =>
        rw [if_pos rfl]
        rw [if_pos rfl] at q4
        have d := heY _ s4 _ H4 _ I4 q4
        rw [pr1, pr2, pr5, pr7] at d
        refine wpAny_mono d (fun w s5 ⟨y, H5, I5, ry, q5⟩ => ?_) fun _ _ f => f.elim
        obtain ⟨m', hm, w'⟩ := hNx _ _ q5
        obtain ⟨eD, nD, _⟩ := I5.pin (D, lobj its k) (List.mem_append_right _ (List.mem_append_left _ List.mem_cons_self))
        refine append_at (hsz := by rw [List.size_toArray, ← rv.length]; exact hl) eD fun h6 hs6 hD6 => ?_
        have I6 : Inv Y (pinsAt fp s2.heap) (blkSt caps σ (some v)) H5 { s5 with heap := h6, toks := s5.toks } := (drop1 I5).turned (fun b o hb e => (hs6.2 b hb).trans e) nD (IY.ok.exf D hDY).1 (.inl hDY) (fun y c e => (IY.ok.exf D hDY).2 y c e) (fun p hp => by
          rw [pnY, List.nil_append] at hp
          intro z
          exact hDfp (by rw [← z]; exact (of_pinsAt hp).1))
        refine again (ys' := ys ++ [y]) (its' := its ++ [w]) (k' := k + 1) I6 nD ?_ (rv.append (.cons ry .nil)) (by rw [List.length_append, List.length_singleton]; exact hsz) hm w'
        rw [hD6]
        show some ({ cls := .type "list", data := .seq (its.toArray.push w) (k + 1) } : Obj) = some { cls := .type "list", data := .seq (its ++ [w]).toArray (k + 1) }
        rw [List.push_toArray]
  rw [envY] at loop
  have st1 : tn 0 h₁ := T.keep _ _ _ t0 fun b _ o e => old b o e
  exact codeAny_compStart_list (loop _ rfl) (T.self _ 0 _ _ _ st1 (loop _ rfl))

/-- a comprehension as a value -/
theorem pe_comp {elt iter : Expr} {px pos : Pos} {ifs : List Expr} {wi : TI} {tc : TT} {te : TE} (hcalm : X.calm = true) (S : CSc X scope x N caps) (hi : PI X (.Name x px) iter wi)
    (hc : ∀ C s H ex, PIfs (blk X N scope C s H ex) ifs tc) (he : ∀ C s H ex, PE (blk X N scope C s H ex) elt te) (hs : ∀ x, foldedSetIterable iter X.env x = pure x := by intro _; rfl) :
    PE X (.ListComp elt [⟨.Name x px, iter, ifs, 0⟩] scope pos) (tComp wi caps tc te) := by
  intro pins s σ H Q I h
  rw [eval_ListComp]
  refine wpAny_comprehension_free (use := none) rfl hs (closureFor_of (S.cells I.ok)) S.kind S.names (thn (hi pins s σ H _ I h) fun xv s1 h1 => thn h1 fun itv s2 h2 => ?_)
  obtain ⟨it, fp, tn, J, H2, e, I2, T, st2, f2, wc⟩ := h2
  subst e
  refine comp_block (RR := fun acc C => compPost (model X.prog X.w) X.A X.xe none (EP X pins σ Q) acc C) hcalm S hc he I2 T st2 f2 wc fun D C s' m' H' ys I' q hn fC _ => ?_
  refine ⟨m', hn, fun h' hs' => ⟨.ref D, upd H' D (.lst ys), ?_, rfl, q⟩⟩
  exact I'.turned (t' := s'.toks) (fun b o hb e => (hs'.2 b hb).trans e) fC.1 fC.2.1 fC.2.2.2.1 fC.2.2.2.2.1 fC.2.2.2.2.2
/-- y = a comprehension, y a plain local name -/
theorem ps_comp {elt iter : Expr} {px py pos spos : Pos} {ifs : List Expr} {wi : TI} {tc : TT} {te : TE} {y : Str} {i : Nat} (hcalm : X.calm = true) (S : CSc X scope x N caps) (hi : PI X (.Name x px) iter wi)
    (hc : ∀ C s H ex, PIfs (blk X N scope C s H ex) ifs tc) (he : ∀ C s H ex, PE (blk X N scope C s H ex) elt te) (hN : X.N.Nodup) (hy : X.N[i]? = some y) (hx : X.env.scope.names.lookup y = some .local)
    (hsw : swapsWith (.ListComp elt [⟨.Name x px, iter, ifs, 0⟩] scope pos) (some (.Name y py)) spos.line X.env = pure true) (hs : ∀ x, foldedSetIterable iter X.env x = pure x := by intro _; rfl) :
    PS X (.Assign [.Name y py] (.ListComp elt [⟨.Name x px, iter, ifs, 0⟩] scope pos) spos) (fun D σ H => tComp wi caps tc te σ H fun v H1 => D.nx (σ.set i (some v)) H1) := by
  intro pins s σ H D I h
  rw [exec_Assign_Name_used _ _ _ _ hsw]
  refine wpAny_bind (wpAny_standAt (wpAny_bind ?_))
  show wpAny _ X.A (do let _ ← comprehension (.ListComp elt [⟨.Name x px, iter, ifs, 0⟩] scope pos) scope X.env _ (newList []) false (eval iter X.env) (some (assign (.Name y py) X.env))) _ _ s
  refine wpAny_bind (wpAny_mono (wpAny_comprehension_free (use := some (assign (.Name y py) X.env)) (Q := fun _ s' => SP X pins D .next s') rfl hs (closureFor_of (S.cells I.ok)) S.kind S.names
    (thn (hi pins s σ H _ I h) fun xv s1 h1 => thn h1 fun itv s2 h2 => ?_)) (fun _ s' hq => wpAny_pure (wpAny_pure hq)) fun _ _ e => e)
  obtain ⟨it, fp, tn, J, H2, e, I2, T, st2, f2, wc⟩ := h2
  subst e
  refine comp_block (RR := fun acc C => compPost (model X.prog X.w) X.A X.xe (some (assign (.Name y py) X.env)) (fun _ s' => SP X pins D .next s') acc C) hcalm S hc he I2 T st2 f2 wc fun d C s' m' H' ys I' q hn fC hCL => ?_
  show wpAny _ X.A (assign (.Name y py) X.env (.ref d)) _ _ _
  refine wpAny_assign_Name (store_ok2 I' hN hy (.inl hx) (v := .ref d) rfl (fun s'' I'' ⟨a, hs, ha⟩ => ?_) (.inr hx))
  have hne : C ≠ a := by
    rcases ha with rfl | ha
    · exact hCL
    · exact fun z => fC.2.2.2.2.1 _ _ ha z.symm
  refine ⟨m', hn.sameBut hs hne, fun h' hs' => ⟨_, _, I''.turned (t' := s''.toks) (fun b o hb e => (hs'.2 b hb).trans e) fC.1 fC.2.1 fC.2.2.2.1 fC.2.2.2.2.1 fC.2.2.2.2.2, q⟩⟩
end
end L2

namespace L2
open PySem PySem.Spec PyProof.Rows

/-! ### texts walked -/
noncomputable def Its (x : Str) : It := ⟨fun i _ => i < x.cps.size, fun i H v H' => H' = H ∧ ∃ c, x.cps[i]? = some c ∧ v = .str ⟨#[c]⟩, fun i _ => i = x.cps.size⟩
theorem turn_str {P : Program} {w : World} {K : PySem.W.Frag} {tg : Expr} (it : Addr) (x : Str) (t : Tok) {ty : String} (hty : ty = "str_ascii_iterator" ∨ ty = "str_iterator") : Turn P w K tg (Its x) [it] it (fun i h => h.IsStrIter it ty x t i) where
  mem := by simp
  obj := fun i h st b hb => by
    have e : b = it := by simpa using hb
    subst e
    obtain ⟨o, e, c, d⟩ := st
    exact ⟨o, e, fun v z => by rw [d] at z; cases z⟩
  keep := fun i h h' st k => by
    obtain ⟨o, e, c, d⟩ := st
    exact ⟨o, k it (by simp) o e, c, d⟩
  item := by
    intro X hP hw hK hc i pins s σ H E I hf st hg
    subst hP hw hK
    obtain ⟨f0, f1, f2, f3, f4, f5⟩ := hf it (by simp)
    have W : Walks X.prog X.w X.A it [it] [it] x.cps.size (SignAt x) (fun i h => h.IsStrIter it ty x t i) := by
      rcases hty with rfl | rfl
      · exact Walks.strAscii (I.ok.hd hc) it x t
      · exact Walks.strWide (I.ok.hd hc) it x t
    refine W.item i s _ _ hg st fun v h' tk hv st' kk => ?_
    obtain ⟨c, u, e, rfl⟩ := hv
    have I1 : Inv X pins σ H { s with heap := h', toks := tk } := I.turned (fun b o hb e => kk b o (by simpa using hb) e) f0 f1 f3 f4 f5
    obtain ⟨o, eo, co, dO⟩ := id st'
    refine ⟨_, rfl, go_of (s := { s with heap := h', toks := tk }) eo co dO (by rcases hty with rfl | rfl <;> decide) ⟨.str ⟨#[c]⟩, H, I1, ⟨u, rfl⟩, ⟨rfl, c, e, rfl⟩, st', fun b hb => (hf b hb).1⟩⟩
  done := by
    intro X hP hw hK hc i pins s σ H E I hf st hg
    subst hP hw hK
    obtain ⟨f0, f1, f2, f3, f4, f5⟩ := hf it (by simp)
    have W : Walks X.prog X.w X.A it [it] [it] x.cps.size (SignAt x) (fun i h => h.IsStrIter it ty x t i) := by
      rcases hty with rfl | rfl
      · exact Walks.strAscii (I.ok.hd hc) it x t
      · exact Walks.strWide (I.ok.hd hc) it x t
    have hg' : i = x.cps.size := hg
    subst hg'
    exact W.done s _ _ st fun h' tk kk => ⟨rfl, I.turned (fun b o hb e => kk b o (by simpa using hb) e) f0 f1 f3 f4 f5⟩
  self := fun _ _ _ _ _ st h => by
    rcases hty with rfl | rfl
    · exact wpAny_pyIter_striter_ascii st h
    · exact wpAny_pyIter_striter_wide st h
noncomputable def iStr (tl : TE) : TI := fun σ H R => tl σ H fun x H1 => ∃ z, x = .str z ∧ R (Its z) H1
theorem pi_str {X : Cx} {tg l : Expr} {tl : TE} (hl : PE X l tl) : PI X tg l (iStr tl) := by
  intro pins s σ H R I h
  refine thn (hl pins s σ H _ I h) fun v s1 ⟨x, H1, I1, r1, q1⟩ => ?_
  obtain ⟨z, e, q⟩ := q1
  subst e
  obtain ⟨t, rfl⟩ := r1
  have fin : ∀ {ty : String}, ty = "str_ascii_iterator" ∨ ty = "str_iterator" → PIE X pins σ tg R (.ref s1.heap.objs.size) { s1 with heap := s1.heap.push { cls := .type ty, data := .fields #[.str z t, .int 0 0] } } := fun {ty} hty => by
    refine ⟨s1.heap.objs.size, [s1.heap.objs.size], _, _, H1, rfl, I1.kept (t' := s1.toks) fun b o e => Heap.get?_push_of_some _ e, turn_str _ z t hty, ⟨_, Heap.get?_push_size _ rfl, rfl, rfl⟩, fun b hb => ?_, q⟩
    have e : b = s1.heap.objs.size := by simpa using hb
    subst e
    exact I1.fpOk (Nat.le_refl _) (I1.hok.fresh (Nat.le_refl _))
  cases ha : z.cps.all (· < 128)
  · exact wpAny_pyIter_wide ha (fin (.inr rfl))
  · exact wpAny_pyIter_ascii ha (fin (.inl rfl))

/-! ### the forms of a comprehension -/
theorem comp_list {K : PySem.W.Frag} {a : Addr} {xs : List V} {caps : List Nat} {tc : TT} {te : TE} {σ : St} {H : Hp} {Q : VK} (Pv : Nat → List V → Hp → Prop) (h0 : Pv 0 [] H) (hx : xs.length < sizeLine) (hy : ∀ i ys H, Pv i ys H → ys.length ≤ i)
    (hl : ∀ i ys H, i ≤ xs.length → Pv i ys H → SqL K H a xs)
    (hs : ∀ i x ys H, xs[i]? = some x → Pv i ys H → tc (blkSt caps σ (some x)) H fun b H2 => if b = true then te (blkSt caps σ (some x)) H2 fun y H3 => Pv (i + 1) (ys ++ [y]) H3 else Pv (i + 1) ys H2)
    (hd : ∀ ys H, Pv xs.length ys H → ∀ p, H p = none → Q (.ref p) (upd H p (.lst ys))) : wComp (Itl K a) caps tc te σ H Q := by
  refine ⟨fun i m ys H => m = xs.length - i ∧ i ≤ xs.length ∧ Pv i ys H, ⟨xs.length, by simp, Nat.zero_le _, h0⟩, ?_⟩
  rintro i m ys H ⟨rfl, hi, p⟩
  have q := hl i ys H hi p
  by_cases hlt : i < xs.length
  · refine .inr ⟨⟨xs, xs[i], q, by simp [hlt]⟩, Nat.lt_of_le_of_lt (Nat.le_trans (hy i ys H p) hi) hx, Pv (i + 1), fun ys' H' p' => ⟨xs.length - (i + 1), by omega, rfl, hlt, p'⟩, fun x H' y => ?_⟩
    obtain ⟨e, y⟩ := y
    subst e
    exact hs i x ys _ (y xs q) p
  · have e : i = xs.length := by omega
    subst e
    exact .inl ⟨⟨xs, q, Nat.le_refl _⟩, hd ys H p⟩
theorem comp_range {lo : Int} {n : Nat} {caps : List Nat} {tc : TT} {te : TE} {σ : St} {H : Hp} {Q : VK} (Pv : Nat → List V → Hp → Prop) (h0 : Pv 0 [] H) (hx : n < sizeLine) (hy : ∀ i ys H, Pv i ys H → ys.length ≤ i)
    (hs : ∀ i ys H, i < n → Pv i ys H → tc (blkSt caps σ (some (.int (lo + i)))) H fun b H2 => if b = true then te (blkSt caps σ (some (.int (lo + i)))) H2 fun y H3 => Pv (i + 1) (ys ++ [y]) H3 else Pv (i + 1) ys H2)
    (hd : ∀ ys H, Pv n ys H → ∀ p, H p = none → Q (.ref p) (upd H p (.lst ys))) : wComp (Itr lo n) caps tc te σ H Q := by
  refine ⟨fun i m ys H => m = n - i ∧ i ≤ n ∧ Pv i ys H, ⟨n, by simp, Nat.zero_le _, h0⟩, ?_⟩
  rintro i m ys H ⟨rfl, hi, p⟩
  by_cases hlt : i < n
  · refine .inr ⟨hlt, Nat.lt_of_le_of_lt (Nat.le_trans (hy i ys H p) hi) hx, Pv (i + 1), fun ys' H' p' => ⟨n - (i + 1), by omega, rfl, hlt, p'⟩, fun x H' y => ?_⟩
    obtain ⟨e, y⟩ := y
    subst e y
    exact hs i ys _ hlt p
  · have e : i = n := by omega
    subst e
    exact .inl ⟨Nat.le_refl _, hd ys H p⟩
theorem comp_str {x : Str} {caps : List Nat} {tc : TT} {te : TE} {σ : St} {H : Hp} {Q : VK} (Pv : Nat → List V → Hp → Prop) (h0 : Pv 0 [] H) (hx : x.cps.size < sizeLine) (hy : ∀ i ys H, Pv i ys H → ys.length ≤ i)
    (hs : ∀ i c ys H, x.cps[i]? = some c → Pv i ys H → tc (blkSt caps σ (some (.str ⟨#[c]⟩))) H fun b H2 => if b = true then te (blkSt caps σ (some (.str ⟨#[c]⟩))) H2 fun y H3 => Pv (i + 1) (ys ++ [y]) H3 else Pv (i + 1) ys H2)
    (hd : ∀ ys H, Pv x.cps.size ys H → ∀ p, H p = none → Q (.ref p) (upd H p (.lst ys))) : wComp (Its x) caps tc te σ H Q := by
  refine ⟨fun i m ys H => m = x.cps.size - i ∧ i ≤ x.cps.size ∧ Pv i ys H, ⟨x.cps.size, by simp, Nat.zero_le _, h0⟩, ?_⟩
  rintro i m ys H ⟨rfl, hi, p⟩
  by_cases hlt : i < x.cps.size
  · refine .inr ⟨hlt, Nat.lt_of_le_of_lt (Nat.le_trans (hy i ys H p) hi) hx, Pv (i + 1), fun ys' H' p' => ⟨x.cps.size - (i + 1), by omega, rfl, hlt, p'⟩, fun v H' y => ?_⟩
    obtain ⟨e, c, ec, ev⟩ := y
    subst e ev
    exact hs i c ys _ ec p
  · have e : i = x.cps.size := by omega
    subst e
    exact .inl ⟨rfl, hd ys H p⟩

section
variable {X : Cx}
/-! ### texts: slices, order, join -/
noncomputable def rSlS : V → Option Int → Option Int → Hp → VK → Prop := fun x lo hi H Q => ∃ z, x = .str z ∧ z.length ≤ sizeLine ∧ Q (.str (Txt.slice z lo hi)) H
theorem sl_str : SlR X rSlS := by
  intro pins s σ H x v vl vu lo hi sl Q I rx hs pl pu h
  obtain ⟨z, rfl, hz, q⟩ := h
  obtain ⟨t, rfl⟩ := rx
  refine ⟨"str", _, F.slot_str_getitem.lookup, typeIs_str _ _ _, ?_⟩
  have fin : ∀ t' k, EP X pins σ Q (.str (Txt.slice z lo hi) t') { s with toks := k } := fun t' k => ⟨.str _, H, I.tok _, ⟨_, rfl⟩, q⟩
  cases pl with
  | none =>
    cases pu with
    | none => exact wpAny_getItem_str_slice (l := none) (u := none) (st := none) hs rfl (post_val_or_str ⟨Nat.le_trans (Txt.slice_le z _ _) hz, fin⟩)
    | int j uj => exact wpAny_getItem_str_slice (l := none) (u := some (j, uj)) (st := none) hs rfl (post_val_or_str ⟨Nat.le_trans (Txt.slice_le z _ _) hz, fin⟩)
  | int i ui =>
    cases pu with
    | none => exact wpAny_getItem_str_slice (l := some (i, ui)) (u := none) (st := none) hs rfl (post_val_or_str ⟨Nat.le_trans (Txt.slice_le z _ _) hz, fin⟩)
    | int j uj => exact wpAny_getItem_str_slice (l := some (i, ui)) (u := some (j, uj)) (st := none) hs rfl (post_val_or_str ⟨Nat.le_trans (Txt.slice_le z _ _) hz, fin⟩)
theorem op_le_str : OpR X (compareOp .LtE) (fun x y H Q => ∃ i j, x = .str i ∧ y = .str j ∧ Q (.bl (!decide (j.cps.toList < i.cps.toList))) H) := by
  intro pins s σ H x y v u Q I rx ry h
  obtain ⟨i, j, rfl, rfl, q⟩ := h
  obtain ⟨t, rfl⟩ := rx
  obtain ⟨t', rfl⟩ := ry
  exact PySem.P.le_str ⟨.bl _, H, I, rfl, q⟩
theorem strsAre_of {ys : List Str} : ∀ {us : List Value}, Vals (ys.map V.str) us → StrsAre us ys := by
  induction ys with
  | nil => intro us r; cases r; exact .nil
  | cons y ys ih =>
    intro us r
    cases r with
    | cons r t =>
      obtain ⟨k, rfl⟩ := r
      exact .cons y k (ih t)
noncomputable def rJoin (K : PySem.W.Frag) : V → List V → Hp → VK → Prop := fun x xs H Q => ∃ sep a ys, x = .str sep ∧ xs = [.ref a] ∧ (SqL K H a (ys.map V.str) ∨ SqT K H a (ys.map V.str)) ∧ (ys.map (·.length)).sum + ys.length * sep.length ≤ 16777216 ∧ Q (.str (Txt.join sep ys)) H
theorem mt_join : MtR X "str.join" (rJoin X.K) := by
  intro pins s σ H x xs v us Q I rx rs h
  obtain ⟨sep, a, ys, rfl, rfl, hq, hok, q⟩ := h
  obtain ⟨t, rfl⟩ := rx
  obtain ⟨u, rfl, ru⟩ := vals1 rs
  cases ru
  rcases hq with hq | hq
  · obtain ⟨its, rv, p, hz⟩ := I.list hq
    exact join_list p.isList (strsAre_of rv) hok fun t' k => ⟨.str _, H, I.tok _, ⟨_, rfl⟩, q⟩
  · obtain ⟨its, rv, p, hz⟩ := I.tuple hq
    exact join_tuple p (strsAre_of rv) hok fun t' k => ⟨.str _, H, I.tok _, ⟨_, rfl⟩, q⟩
/-! ### f-strings -/
noncomputable def tJs : List TE → Str → TE
  | [], acc => fun _ H Q => acc.length ≤ sizeLine ∧ Q (.str acc) H
  | t :: r, acc => fun σ H Q => t σ H fun v H1 => ∃ y, v = .str y ∧ (acc ++ y).length ≤ sizeLine ∧ tJs r (acc ++ y) σ H1 Q
inductive PEs (X : Cx) : List Expr → List TE → Prop
  | nil : PEs X [] []
  | cons {e : Expr} {t : TE} {es : List Expr} {ts : List TE} : PE X e t → PEs X es ts → PEs X (e :: es) (t :: ts)
theorem pe_parts {pins : List (Addr × Obj)} {σ : St} {Q : VK} {es : List Expr} {ts : List TE} (h : PEs X es ts) : ∀ (acc : Str) (H : Hp) (s : Shared), Inv X pins σ H s → tJs ts acc σ H Q →
    Joins (model X.prog X.w) X.A X.xe (evalEach es X.env) acc (fun out s₁ => out.length ≤ sizeLine ∧ EP X pins σ Q (.str out s₁.toks) { s₁ with toks := s₁.toks + 1 }) s := by
  induction h with
  | nil => intro acc H s I h; exact ⟨h.1, .str acc, H, I.tok _, ⟨_, rfl⟩, h.2⟩
  | @cons e t es ts he _ ih =>
    intro acc H s I h
    refine thn (he pins s σ H _ I h) fun v s1 ⟨x, H1, I1, r1, y, ey, hz, q⟩ => ?_
    subst ey
    obtain ⟨t, rfl⟩ := r1
    exact ⟨y, t, rfl, hz, ih _ H1 s1 I1 q⟩
theorem pe_js {e1 e2 : Expr} {es : List Expr} {ts : List TE} {pos : Pos} (h : PEs X (e1 :: e2 :: es) ts) : PE X (.JoinedStr (e1 :: e2 :: es) pos) (tJs ts Str.empty) := by
  intro pins s σ H Q I hw
  exact JoinedStr_many (wpAny_joinPartsRec _ _ _ _ (pe_parts h _ H s I hw))
/-! ### all, any of bools -/
theorem truthOf_bools {P : Program} {w : World} {A : Around} {bs : List Bool} {its : List Value} (r : Vals (bs.map V.bl) its) : TruthOf P w A (fun i v => its.toArray[i]? = some v) (fun i => bs.getD i false) := fun i v s Q E hv hq => by
  have hv' : its[i]? = some v := by simpa using hv
  have hi : i < its.length := (List.getElem?_eq_some_iff.mp hv').1
  have hb : i < bs.length := by have := r.length; simp at this; omega
  obtain ⟨u, hu, ru⟩ := r.get (i := i) (x := .bl bs[i]) (by simp [hb])
  rw [hv'] at hu; cases hu
  cases ru
  have e : bs.getD i false = bs[i] := by simp [List.getD, hb]
  have hq' : Q (bs.getD i false) s := hq
  rw [e] at hq'
  exact wpAny_truthy_bool hq'
theorem all_range (bs : List Bool) : (List.range bs.length).all (fun i => bs.getD i false) = bs.all id := by
  rw [Bool.eq_iff_iff, List.all_eq_true, List.all_eq_true]
  constructor
  · intro h b hb
    obtain ⟨i, hi, rfl⟩ := List.mem_iff_getElem.mp hb
    have := h i (List.mem_range.mpr hi)
    simpa [List.getD, hi] using this
  · intro h i hi
    have hi := List.mem_range.mp hi
    have := h bs[i] (List.getElem_mem hi)
    simpa [List.getD, hi] using this
theorem call_all (hc : X.calm = true) : CallR X (.builtin "all") (fun xs H Q => ∃ (a : Addr) (bs : List Bool), xs = [.ref a] ∧ SqL X.K H a (bs.map V.bl) ∧ Q (.bl (bs.all id)) H) := by
  intro pins s σ H xs us Q I r h
  obtain ⟨a, bs, rfl, hq, q⟩ := h
  obtain ⟨u, rfl, ru⟩ := vals1 r
  cases ru
  obtain ⟨its, rv, p, hz⟩ := I.list hq
  have I1 : Inv X pins σ H { s with heap := s.heap.push { cls := .type "list_iterator", data := .fields #[.ref a, .int 0 0] } } := I.kept (t' := s.toks) fun b o e => Heap.get?_push_of_some _ e
  have fp := I.fpOk (b := s.heap.objs.size) (Nat.le_refl _) (I.hok.fresh (Nat.le_refl _))
  have hl := rv.length
  have hlt : a < s.heap.objs.size := by obtain ⟨o, ho, _⟩ := p.isList; exact Heap.lt_size ho
  refine call_all_walk (wpAny_pyIter_list p.isList ⟨s.heap.objs.size, [s.heap.objs.size, a], [s.heap.objs.size], its.toArray.size, _, _, fun i => bs.getD i false, rfl,
    Walks.list (A := X.A.in1) (show X.A.in1.handled = none from I.ok.hd hc) _ _ (Nat.ne_of_lt hlt) its.toArray, ⟨⟨_, Heap.get?_push_size _ rfl, rfl, rfl⟩, p.isList.push _⟩, truthOf_bools rv, fun h' tk kk => ?_⟩)
  refine ⟨.bl (bs.all id), H, I1.turned (fun b o hb e => kk b o (by simpa using hb) e) fp.1 fp.2.1 fp.2.2.2.1 fp.2.2.2.2.1 fp.2.2.2.2.2, ?_, q⟩
  have e : its.toArray.size = bs.length := by simp at hl ⊢; exact hl.symm
  rw [e, all_range]
  rfl
end
end L2

namespace L2
open PySem PySem.Spec PyProof.Rows

/-! ### plain data, and how the abstract heap bears it -/
inductive D where
  | non | bl (b : Bool) | int (i : Int) | str (x : Str) | tup (ds : List D) | lst (ds : List D)

mutual
noncomputable def D.eq : D → D → Bool
  | .non, e => match e with | .non => true | _ => false
  | .bl a, e => match e with | .bl b => a == b | .int j => (if a then (1 : Int) else 0) == j | _ => false
  | .int i, e => match e with | .int j => i == j | .bl b => i == (if b then (1 : Int) else 0) | _ => false
  | .str x, e => match e with | .str y => x == y | _ => false
  | .tup ds, e => match e with | .tup es => D.eqs ds es | _ => false
  | .lst ds, e => match e with | .lst es => D.eqs ds es | _ => false
noncomputable def D.eqs : List D → List D → Bool
  | [], es => es.isEmpty
  | d :: ds, es => match es with | [] => false | e :: r => D.eq d e && D.eqs ds r
end
mutual
noncomputable def D.dp : D → Nat
  | .tup ds => D.dps ds + 1
  | .lst ds => D.dps ds + 1
  | _ => 0
noncomputable def D.dps : List D → Nat
  | [] => 0
  | d :: ds => max (D.dp d) (D.dps ds)
end
mutual
/-- no truth values in it -/
noncomputable def D.cl : D → Bool
  | .bl _ => false
  | .tup ds => D.cls ds
  | .lst ds => D.cls ds
  | _ => true
noncomputable def D.cls : List D → Bool
  | [] => true
  | d :: ds => D.cl d && D.cls ds
end
mutual
theorem D.eq_refl : ∀ d : D, D.eq d d = true
  | .non => rfl
  | .bl b => by simp [D.eq]
  | .int i => by simp [D.eq]
  | .str x => by simp [D.eq]
  | .tup ds => by simp only [D.eq]; exact D.eqs_refl ds
  | .lst ds => by simp only [D.eq]; exact D.eqs_refl ds
theorem D.eqs_refl : ∀ ds : List D, D.eqs ds ds = true
  | [] => rfl
  | d :: ds => by simp only [D.eqs, D.eq_refl d, D.eqs_refl ds, Bool.and_self]
end
theorem D.eqs_length : ∀ {ds es : List D}, D.eqs ds es = true → ds.length = es.length
  | [], es, h => by cases es <;> simp_all [D.eqs]
  | d :: ds, es, h => by
    cases es with
    | nil => simp [D.eqs] at h
    | cons e r =>
      simp only [D.eqs, Bool.and_eq_true] at h
      simp [D.eqs_length h.2]
/-- == item by item -/
theorem D.eqs_all : ∀ (ds es : List D), (((List.range (min ds.length es.length)).all fun j => D.eq (ds.getD j .non) (es.getD j .non)) && ds.length == es.length) = D.eqs ds es
  | [], es => by cases es <;> simp [D.eqs]
  | d :: ds, es => by
    cases es with
    | nil => simp [D.eqs]
    | cons e r =>
      have ih := D.eqs_all ds r
      have e1 : min (d :: ds).length (e :: r).length = min ds.length r.length + 1 := by simp only [List.length_cons]; omega
      have e2 : ((d :: ds).length == (e :: r).length) = (ds.length == r.length) := by simp
      have e3 : ((List.range (min ds.length r.length + 1)).all fun j => D.eq ((d :: ds).getD j .non) ((e :: r).getD j .non)) = (D.eq d e && (List.range (min ds.length r.length)).all fun j => D.eq (ds.getD j .non) (r.getD j .non)) := by
        rw [List.range_succ_eq_map, List.all_cons, List.all_map]
        rfl
      rw [e1, e2, e3]
      simp only [D.eqs]
      rw [← ih, Bool.and_assoc]

mutual
noncomputable def Dt (H : Hp) : D → V → Prop
  | .non, v => v = .non
  | .bl b, v => v = .bl b
  | .int i, v => v = .int i
  | .str x, v => v = .str x
  | .tup ds, v => ∃ a vs, v = .ref a ∧ H a = some (.tup vs) ∧ Dts H ds vs
  | .lst ds, v => ∃ a vs, v = .ref a ∧ H a = some (.lst vs) ∧ Dts H ds vs
noncomputable def Dts (H : Hp) : List D → List V → Prop
  | [], vs => vs = []
  | d :: ds, vs => ∃ v r, vs = v :: r ∧ Dt H d v ∧ Dts H ds r
end
theorem Dts.length {H : Hp} : ∀ {ds : List D} {vs : List V}, Dts H ds vs → vs.length = ds.length
  | [], vs, h => by simp only [Dts] at h; simp [h]
  | d :: ds, vs, h => by
    simp only [Dts] at h
    obtain ⟨v, r, rfl, _, h⟩ := h
    simp [Dts.length h]
theorem Dts.get {H : Hp} : ∀ {ds : List D} {vs : List V} {i : Nat} {d : D}, Dts H ds vs → ds[i]? = some d → ∃ v, vs[i]? = some v ∧ Dt H d v
  | [], vs, i, d, _, e => by simp at e
  | d' :: ds, vs, i, d, h, e => by
    simp only [Dts] at h
    obtain ⟨v, r, rfl, h1, h2⟩ := h
    cases i with
    | zero => simp at e; subst e; exact ⟨v, rfl, h1⟩
    | succ i => simpa using Dts.get (i := i) h2 (by simpa using e)
theorem Dts.append {H : Hp} : ∀ {ds es : List D} {vs us : List V}, Dts H ds vs → Dts H es us → Dts H (ds ++ es) (vs ++ us)
  | [], es, vs, us, h, h' => by simp only [Dts] at h; subst h; simpa using h'
  | d :: ds, es, vs, us, h, h' => by
    simp only [Dts] at h
    obtain ⟨v, r, rfl, h1, h2⟩ := h
    show Dts H (d :: (ds ++ es)) (v :: (r ++ us))
    simp only [Dts]
    exact ⟨v, r ++ us, rfl, h1, Dts.append h2 h'⟩
theorem Dts.one {H : Hp} {d : D} {v : V} (h : Dt H d v) : Dts H [d] [v] := by
  simp only [Dts]
  exact ⟨v, [], rfl, h, rfl⟩
theorem Dts.nil {H : Hp} : Dts H [] [] := by simp only [Dts]
theorem Dts.cons {H : Hp} {d : D} {v : V} {ds : List D} {vs : List V} (h : Dt H d v) (t : Dts H ds vs) : Dts H (d :: ds) (v :: vs) := by
  simp only [Dts]
  exact ⟨v, vs, rfl, h, t⟩
theorem Dts.take {H : Hp} : ∀ {ds : List D} {vs : List V} (n : Nat), Dts H ds vs → Dts H (ds.take n) (vs.take n)
  | _, _, 0, _ => by simp [Dts]
  | [], vs, n + 1, h => by simp only [Dts] at h; subst h; simp [Dts]
  | d :: ds, vs, n + 1, h => by
    simp only [Dts] at h
    obtain ⟨v, r, rfl, h1, h2⟩ := h
    exact Dts.cons h1 (Dts.take n h2)
theorem Dts.drop {H : Hp} : ∀ {ds : List D} {vs : List V} (n : Nat), Dts H ds vs → Dts H (ds.drop n) (vs.drop n)
  | _, _, 0, h => h
  | [], vs, n + 1, h => by simp only [Dts] at h; subst h; simp [Dts]
  | d :: ds, vs, n + 1, h => by
    simp only [Dts] at h
    obtain ⟨v, r, rfl, h1, h2⟩ := h
    exact Dts.drop n h2
theorem Dts.set {H : Hp} {d : D} {v : V} (h : Dt H d v) : ∀ {ds : List D} {vs : List V} (n : Nat), Dts H ds vs → Dts H (ds.set n d) (vs.set n v)
  | [], vs, n, h' => by simp only [Dts] at h'; subst h'; simp [Dts]
  | e :: ds, vs, 0, h' => by
    simp only [Dts] at h'
    obtain ⟨u, r, rfl, h1, h2⟩ := h'
    exact Dts.cons h h2
  | e :: ds, vs, n + 1, h' => by
    simp only [Dts] at h'
    obtain ⟨u, r, rfl, h1, h2⟩ := h'
    exact Dts.cons h1 (Dts.set h n h2)
mutual
theorem Dt.inj {H : Hp} : ∀ {d e : D} {v : V}, Dt H d v → Dt H e v → d = e
  | .non, e, v, h, h' => by simp only [Dt] at h; subst h; cases e <;> simp_all [Dt]
  | .bl b, e, v, h, h' => by simp only [Dt] at h; subst h; cases e <;> simp_all [Dt]
  | .int i, e, v, h, h' => by simp only [Dt] at h; subst h; cases e <;> simp_all [Dt]
  | .str x, e, v, h, h' => by simp only [Dt] at h; subst h; cases e <;> simp_all [Dt]
  | .tup ds, e, v, h, h' => by
    simp only [Dt] at h
    obtain ⟨a, vs, rfl, ea, hs⟩ := h
    cases e with
    | tup es =>
      simp only [Dt] at h'
      obtain ⟨a', vs', q, ea', hs'⟩ := h'
      cases q
      rw [ea] at ea'; cases ea'
      rw [Dts.inj hs hs']
    | lst es =>
      simp only [Dt] at h'
      obtain ⟨a', vs', q, ea', hs'⟩ := h'
      cases q
      rw [ea] at ea'; cases ea'
    | _ => simp [Dt] at h'
  | .lst ds, e, v, h, h' => by
    simp only [Dt] at h
    obtain ⟨a, vs, rfl, ea, hs⟩ := h
    cases e with
    | lst es =>
      simp only [Dt] at h'
      obtain ⟨a', vs', q, ea', hs'⟩ := h'
      cases q
      rw [ea] at ea'; cases ea'
      rw [Dts.inj hs hs']
    | tup es =>
      simp only [Dt] at h'
      obtain ⟨a', vs', q, ea', hs'⟩ := h'
      cases q
      rw [ea] at ea'; cases ea'
    | _ => simp [Dt] at h'
theorem Dts.inj {H : Hp} : ∀ {ds es : List D} {vs : List V}, Dts H ds vs → Dts H es vs → ds = es
  | [], es, vs, h, h' => by
    simp only [Dts] at h; subst h
    cases es <;> simp_all [Dts]
  | d :: ds, es, vs, h, h' => by
    simp only [Dts] at h
    obtain ⟨v, r, rfl, h1, h2⟩ := h
    cases es with
    | nil => simp [Dts] at h'
    | cons e es =>
      simp only [Dts] at h'
      obtain ⟨v', r', q, h1', h2'⟩ := h'
      cases q
      rw [Dt.inj h1 h1', Dts.inj h2 h2']
end
mutual
theorem Dt.same {H H' : Hp} (S : Same H H') : ∀ {d : D} {v : V}, Dt H d v → Dt H' d v
  | .non, v, h => h
  | .bl b, v, h => h
  | .int i, v, h => h
  | .str x, v, h => h
  | .tup ds, v, h => by
    simp only [Dt] at h ⊢
    obtain ⟨a, vs, rfl, ea, hs⟩ := h
    exact ⟨a, vs, rfl, S _ _ ea, Dts.same S hs⟩
  | .lst ds, v, h => by
    simp only [Dt] at h ⊢
    obtain ⟨a, vs, rfl, ea, hs⟩ := h
    exact ⟨a, vs, rfl, S _ _ ea, Dts.same S hs⟩
theorem Dts.same {H H' : Hp} (S : Same H H') : ∀ {ds : List D} {vs : List V}, Dts H ds vs → Dts H' ds vs
  | [], vs, h => h
  | d :: ds, vs, h => by
    simp only [Dts] at h ⊢
    obtain ⟨v, r, rfl, h1, h2⟩ := h
    exact ⟨v, r, rfl, Dt.same S h1, Dts.same S h2⟩
end
mutual
/-- no lists in it -/
noncomputable def D.nl : D → Bool
  | .lst _ => false
  | .tup ds => D.nls ds
  | _ => true
noncomputable def D.nls : List D → Bool
  | [] => true
  | d :: ds => D.nl d && D.nls ds
end
/-- the tuples are as they were -/
noncomputable def Tups (H H' : Hp) : Prop := ∀ b xs, H b = some (.tup xs) → H' b = some (.tup xs)
theorem Same.tups {H H' : Hp} (S : Same H H') : Tups H H' := fun b xs h => S b _ h
theorem Tups.trans {H H1 H2 : Hp} (a : Tups H H1) (b : Tups H1 H2) : Tups H H2 := fun c o h => b c o (a c o h)
theorem Tups.refl (H : Hp) : Tups H H := fun _ _ h => h
theorem Tups.lst {H : Hp} {p : Addr} {xs ys : List V} (h : H p = some (.lst xs)) : Tups H (upd H p (.lst ys)) := fun b zs e => by
  rw [upd_ne (ne_of e h (by intro z; cases z))]; exact e
mutual
theorem Dt.tups {H H' : Hp} (S : Tups H H') : ∀ {d : D} {v : V}, d.nl = true → Dt H d v → Dt H' d v
  | .non, v, _, h => h
  | .bl b, v, _, h => h
  | .int i, v, _, h => h
  | .str x, v, _, h => h
  | .tup ds, v, n, h => by
    simp only [Dt] at h ⊢
    obtain ⟨a, vs, rfl, ea, hs⟩ := h
    simp only [D.nl] at n
    exact ⟨a, vs, rfl, S _ _ ea, Dts.tups S n hs⟩
  | .lst ds, v, n, h => by simp [D.nl] at n
theorem Dts.tups {H H' : Hp} (S : Tups H H') : ∀ {ds : List D} {vs : List V}, D.nls ds = true → Dts H ds vs → Dts H' ds vs
  | [], vs, _, h => h
  | d :: ds, vs, n, h => by
    simp only [Dts] at h ⊢
    obtain ⟨v, r, rfl, h1, h2⟩ := h
    simp only [D.nls, Bool.and_eq_true] at n
    exact ⟨v, r, rfl, Dt.tups S n.1 h1, Dts.tups S n.2 h2⟩
end

/-! ### == over plain data -/
section
variable {P : Program} {w : World} {H : Hp} {s : Shared}
open PySem.SeqAt
theorem isD_obj (hok : HOk P w H s.heap) {d : D} {v : V} {u : Value} (h : Dt H d v) (r : RelV v u) :
    (∃ ds a vs its, d = .tup ds ∧ v = .ref a ∧ u = .ref a ∧ Dts H ds vs ∧ Vals vs its ∧ s.heap.IsTuple a its.toArray) ∨ (∃ ds a vs its, d = .lst ds ∧ v = .ref a ∧ u = .ref a ∧ Dts H ds vs ∧ Vals vs its ∧ s.heap.IsList a its.toArray) ∨
    (d = .non ∧ u = .none) ∨ (∃ b, d = .bl b ∧ u = .bool b) ∨ (∃ i t, d = .int i ∧ u = .int i t) ∨ ∃ x t, d = .str x ∧ u = .str x t := by
  cases d with
  | non => simp only [Dt] at h; subst h; cases r; exact .inr (.inr (.inl ⟨rfl, rfl⟩))
  | bl b => simp only [Dt] at h; subst h; cases r; exact .inr (.inr (.inr (.inl ⟨b, rfl, rfl⟩)))
  | int i => simp only [Dt] at h; subst h; obtain ⟨t, rfl⟩ := r; exact .inr (.inr (.inr (.inr (.inl ⟨i, t, rfl, rfl⟩))))
  | str x => simp only [Dt] at h; subst h; obtain ⟨t, rfl⟩ := r; exact .inr (.inr (.inr (.inr (.inr ⟨x, t, rfl, rfl⟩))))
  | tup ds =>
    simp only [Dt] at h
    obtain ⟨a, vs, rfl, ea, hs⟩ := h
    cases r
    obtain ⟨_, its, rv, p⟩ := hok a _ ea
    exact .inl ⟨ds, a, vs, its, rfl, rfl, rfl, hs, rv, p⟩
  | lst ds =>
    simp only [Dt] at h
    obtain ⟨a, vs, rfl, ea, hs⟩ := h
    cases r
    obtain ⟨_, its, n, rv, p⟩ := hok a _ ea
    exact .inr (.inl ⟨ds, a, vs, its, rfl, rfl, rfl, hs, rv, ⟨_, p, rfl, n, rfl⟩⟩)

theorem in1_units (A : Around) : A.in1.units = A.units + 1 := rfl
mutual
theorem eqAt_D (hok : HOk P w H s.heap) : ∀ (d e : D) {A : Around} {x y : V} {u v : Value}, Dt H d x → Dt H e y → RelV x u → RelV y v → A.units + d.dp + 1 < cLine → EqAt A s u v (D.eq d e)
  | .tup ds, e, A, x, y, u, v, hd, he, rx, ry, hu => by
    have hu0 : A.units < cLine := by omega
    rcases isD_obj hok hd rx with ⟨ds', a, vs, its, ed, ex, eu, hs, rv, p⟩ | ⟨_, _, _, _, z, _⟩ | ⟨z, _⟩ | ⟨_, z, _⟩ | ⟨_, _, z, _⟩ | ⟨_, _, z, _⟩ <;> try cases z
    cases ed; subst ex eu
    rcases isD_obj hok he ry with ⟨es, b, us, jts, ee, ey, ev, hs', rv', p'⟩ | ⟨es, b, us, jts, ee, ey, ev, hs', rv', p'⟩ | ⟨ee, ev⟩ | ⟨b, ee, ev⟩ | ⟨i, t, ee, ev⟩ | ⟨z, t, ee, ev⟩ <;> subst ee ev
    · subst ey
      by_cases hab : a = b
      · subst hab
        rw [Dt.inj hd he, D.eq_refl]
        exact EqAt.same _
      · refine EqAt.of_refs hab ?_
        have n1 : its.toArray.size = ds.length := by have := rv.length; have := hs.length; simp; omega
        have n2 : jts.toArray.size = es.length := by have := rv'.length; have := hs'.length; simp; omega
        simp only [D.eq]
        rw [← D.eqs_all, ← n1, ← n2]
        refine RcAt.tuples p p' hu0 fun j j1 j2 => ?_
        simp only [D.dp] at hu
        have := eqAt_Ds hok ds es (A := A.in1) hs hs' rv rv' (by rw [in1_units]; omega) j (by simpa using j1) (by simpa using j2)
        simpa using this
    · subst ey; exact EqAt.tuple_list p p' hu0
    · exact EqAt.tuple_none p hu0
    · exact EqAt.tuple_bool b p hu0
    · exact EqAt.tuple_int i t p hu0
    · exact EqAt.tuple_str z t p hu0
  | .lst ds, e, A, x, y, u, v, hd, he, rx, ry, hu => by
    have hu0 : A.units < cLine := by omega
    rcases isD_obj hok hd rx with ⟨_, _, _, _, z, _⟩ | ⟨ds', a, vs, its, ed, ex, eu, hs, rv, p⟩ | ⟨z, _⟩ | ⟨_, z, _⟩ | ⟨_, _, z, _⟩ | ⟨_, _, z, _⟩ <;> try cases z
    cases ed; subst ex eu
    rcases isD_obj hok he ry with ⟨es, b, us, jts, ee, ey, ev, hs', rv', p'⟩ | ⟨es, b, us, jts, ee, ey, ev, hs', rv', p'⟩ | ⟨ee, ev⟩ | ⟨b, ee, ev⟩ | ⟨i, t, ee, ev⟩ | ⟨z, t, ee, ev⟩ <;> subst ee ev
    · subst ey; exact EqAt.list_tuple p p' hu0
    · subst ey
      by_cases hab : a = b
      · subst hab
        rw [Dt.inj hd he, D.eq_refl]
        exact EqAt.same _
      · refine EqAt.of_refs hab ?_
        have n1 : its.toArray.size = ds.length := by have := rv.length; have := hs.length; simp; omega
        have n2 : jts.toArray.size = es.length := by have := rv'.length; have := hs'.length; simp; omega
        simp only [D.eq]
        by_cases hsz : its.toArray.size = jts.toArray.size
        · have e := D.eqs_all ds es
          rw [← n1, ← n2, ← hsz, Nat.min_self, beq_self_eq_true, Bool.and_true] at e
          rw [← e]
          refine RcAt.lists p p' hsz hu0 fun j j1 j2 => ?_
          simp only [D.dp] at hu
          have := eqAt_Ds hok ds es (A := A.in1) hs hs' rv rv' (by rw [in1_units]; omega) j (by simpa using j1) (by simpa using j2)
          simpa using this
        · have e : D.eqs ds es = false := by
            cases h : D.eqs ds es with
            | false => rfl
            | true => exact absurd (D.eqs_length h) (by omega)
          rw [e]
          exact RcAt.lists_lengths p p' (by simpa using hsz) hu0
    · exact EqAt.list_none p hu0
    · exact EqAt.list_bool b p hu0
    · exact EqAt.list_int i t p hu0
    · exact EqAt.list_str z t p hu0
  | .non, e, A, x, y, u, v, hd, he, rx, ry, hu => by
    have hu0 : A.units < cLine := by omega
    simp only [Dt] at hd; subst hd; cases rx
    rcases isD_obj hok he ry with ⟨es, b, us, jts, ee, ey, ev, hs', rv', p'⟩ | ⟨es, b, us, jts, ee, ey, ev, hs', rv', p'⟩ | ⟨ee, ev⟩ | ⟨b, ee, ev⟩ | ⟨i, t, ee, ev⟩ | ⟨z, t, ee, ev⟩ <;> subst ee ev
    · exact EqAt.none_tuple p' hu0
    · exact EqAt.none_list p' hu0
    · exact EqAt.same _
    · exact EqAt.none_bool b
    · exact EqAt.none_int i t
    · exact EqAt.none_str z t
  | .bl c, e, A, x, y, u, v, hd, he, rx, ry, hu => by
    have hu0 : A.units < cLine := by omega
    simp only [Dt] at hd; subst hd; cases rx
    rcases isD_obj hok he ry with ⟨es, b, us, jts, ee, ey, ev, hs', rv', p'⟩ | ⟨es, b, us, jts, ee, ey, ev, hs', rv', p'⟩ | ⟨ee, ev⟩ | ⟨b, ee, ev⟩ | ⟨i, t, ee, ev⟩ | ⟨z, t, ee, ev⟩ <;> subst ee ev
    · exact EqAt.bool_tuple c p' hu0
    · exact EqAt.bool_list c p' hu0
    · exact EqAt.bool_none c
    · exact EqAt.bool_bool c b
    · exact EqAt.bool_int c i t
    · exact EqAt.bool_str c z t
  | .int c, e, A, x, y, u, v, hd, he, rx, ry, hu => by
    have hu0 : A.units < cLine := by omega
    simp only [Dt] at hd; subst hd; obtain ⟨tt, rfl⟩ := rx
    rcases isD_obj hok he ry with ⟨es, b, us, jts, ee, ey, ev, hs', rv', p'⟩ | ⟨es, b, us, jts, ee, ey, ev, hs', rv', p'⟩ | ⟨ee, ev⟩ | ⟨b, ee, ev⟩ | ⟨i, t, ee, ev⟩ | ⟨z, t, ee, ev⟩ <;> subst ee ev
    · exact EqAt.int_tuple c tt p' hu0
    · exact EqAt.int_list c tt p' hu0
    · exact EqAt.int_none c tt
    · exact EqAt.int_bool c tt b
    · exact EqAt.int_int c tt i t
    · exact EqAt.int_str c tt z t
  | .str c, e, A, x, y, u, v, hd, he, rx, ry, hu => by
    have hu0 : A.units < cLine := by omega
    simp only [Dt] at hd; subst hd; obtain ⟨tt, rfl⟩ := rx
    rcases isD_obj hok he ry with ⟨es, b, us, jts, ee, ey, ev, hs', rv', p'⟩ | ⟨es, b, us, jts, ee, ey, ev, hs', rv', p'⟩ | ⟨ee, ev⟩ | ⟨b, ee, ev⟩ | ⟨i, t, ee, ev⟩ | ⟨z, t, ee, ev⟩ <;> subst ee ev
    · exact EqAt.str_tuple c tt p' hu0
    · exact EqAt.str_list c tt p' hu0
    · exact EqAt.str_none c tt
    · exact EqAt.str_bool c tt b
    · exact EqAt.str_int c tt i t
    · exact EqAt.str_str c tt z t
theorem eqAt_Ds (hok : HOk P w H s.heap) : ∀ (ds es : List D) {A : Around} {xs ys : List V} {us vs : List Value}, Dts H ds xs → Dts H es ys → Vals xs us → Vals ys vs → A.units + D.dps ds + 1 < cLine →
    ∀ j (h1 : j < us.length) (h2 : j < vs.length), EqAt A s us[j] vs[j] (D.eq (ds.getD j .non) (es.getD j .non))
  | [], es, A, xs, ys, us, vs, hd, he, rx, ry, hu, j, h1, h2 => by
    simp only [Dts] at hd; subst hd; cases rx; simp at h1
  | d :: ds, es, A, xs, ys, us, vs, hd, he, rx, ry, hu, j, h1, h2 => by
    simp only [Dts] at hd
    obtain ⟨x, xr, rfl, hx, hxr⟩ := hd
    cases rx with
    | cons r rt =>
      cases es with
      | nil => simp only [Dts] at he; subst he; cases ry; simp at h2
      | cons e er =>
        simp only [Dts] at he
        obtain ⟨y, yr, rfl, hy, hyr⟩ := he
        cases ry with
        | cons q qt =>
          simp only [D.dps] at hu
          cases j with
          | zero => exact eqAt_D hok d e hx hy r q (by omega)
          | succ j => exact eqAt_Ds hok ds er hxr hyr rt qt (by omega) j (by simpa using h1) (by simpa using h2)
end
end
end L2

namespace L2
open PySem PySem.Spec PyProof.Rows

section
variable {P : Program} {w : World} {H : Hp} {s : Shared}
open PySem.SeqAt
theorem D.eqs_ne {ds es : List D} (h : ds.length ≠ es.length) : D.eqs ds es = false := by
  cases q : D.eqs ds es with
  | false => rfl
  | true => exact absurd (D.eqs_length q) h
theorem rcAt_D (hok : HOk P w H s.heap) {d e : D} {A : Around} {x y : V} {u v : Value} (hd : Dt H d x) (he : Dt H e y) (rx : RelV x u) (ry : RelV y v) (hu : A.units + d.dp + 1 < cLine) : RcAt A s u v (D.eq d e) := by
  have hu0 : A.units < cLine := by omega
  rcases isD_obj hok hd rx with ⟨ds, a, vs, its, ed, ex, eu, hs, rv, p⟩ | ⟨ds, a, vs, its, ed, ex, eu, hs, rv, p⟩ | ⟨ed, eu⟩ | ⟨c, ed, eu⟩ | ⟨c, tt, ed, eu⟩ | ⟨c, tt, ed, eu⟩
  · subst ed eu
    rcases isD_obj hok he ry with ⟨es, b, us, jts, ee, ey, ev, hs', rv', p'⟩ | ⟨es, b, us, jts, ee, ey, ev, hs', rv', p'⟩ | ⟨ee, ev⟩ | ⟨b, ee, ev⟩ | ⟨i, t, ee, ev⟩ | ⟨z, t, ee, ev⟩
    · subst ee ev
      have n1 : its.toArray.size = ds.length := by have := rv.length; have := hs.length; simp; omega
      have n2 : jts.toArray.size = es.length := by have := rv'.length; have := hs'.length; simp; omega
      simp only [D.eq]
      simp only [D.dp] at hu
      have all : ∀ j (j1 : j < its.toArray.size) (j2 : j < jts.toArray.size), EqAt A.in1 s its.toArray[j] jts.toArray[j] (D.eq (ds.getD j .non) (es.getD j .non)) := fun j j1 j2 => by
        have := eqAt_Ds hok ds es (A := A.in1) hs hs' rv rv' (by rw [in1_units]; omega) j (by simpa using j1) (by simpa using j2)
        simpa using this
      rw [← D.eqs_all, ← n1, ← n2]
      exact RcAt.tuples p p' hu0 all
    · subst ee ev
      exact RcAt.tuple_list p p' hu0
    · subst ee ev
      exact RcAt.tuple_none p hu0
    · subst ee ev
      exact RcAt.tuple_bool b p hu0
    · subst ee ev
      exact RcAt.tuple_int i t p hu0
    · subst ee ev
      exact RcAt.tuple_str z t p hu0
  · subst ed eu
    rcases isD_obj hok he ry with ⟨es, b, us, jts, ee, ey, ev, hs', rv', p'⟩ | ⟨es, b, us, jts, ee, ey, ev, hs', rv', p'⟩ | ⟨ee, ev⟩ | ⟨b, ee, ev⟩ | ⟨i, t, ee, ev⟩ | ⟨z, t, ee, ev⟩
    · subst ee ev
      exact RcAt.list_tuple p p' hu0
    · subst ee ev
      have n1 : its.toArray.size = ds.length := by have := rv.length; have := hs.length; simp; omega
      have n2 : jts.toArray.size = es.length := by have := rv'.length; have := hs'.length; simp; omega
      simp only [D.eq]
      simp only [D.dp] at hu
      have all : ∀ j (j1 : j < its.toArray.size) (j2 : j < jts.toArray.size), EqAt A.in1 s its.toArray[j] jts.toArray[j] (D.eq (ds.getD j .non) (es.getD j .non)) := fun j j1 j2 => by
        have := eqAt_Ds hok ds es (A := A.in1) hs hs' rv rv' (by rw [in1_units]; omega) j (by simpa using j1) (by simpa using j2)
        simpa using this
      by_cases hsz : its.toArray.size = jts.toArray.size
      · have e := D.eqs_all ds es
        rw [← n1, ← n2, ← hsz, Nat.min_self, beq_self_eq_true, Bool.and_true] at e
        rw [← e]
        exact RcAt.lists p p' hsz hu0 all
      · rw [D.eqs_ne (by omega)]
        exact RcAt.lists_lengths p p' (by simpa using hsz) hu0
    · subst ee ev
      exact RcAt.list_none p hu0
    · subst ee ev
      exact RcAt.list_bool b p hu0
    · subst ee ev
      exact RcAt.list_int i t p hu0
    · subst ee ev
      exact RcAt.list_str z t p hu0
  · subst ed eu
    rcases isD_obj hok he ry with ⟨es, b, us, jts, ee, ey, ev, hs', rv', p'⟩ | ⟨es, b, us, jts, ee, ey, ev, hs', rv', p'⟩ | ⟨ee, ev⟩ | ⟨b, ee, ev⟩ | ⟨i, t, ee, ev⟩ | ⟨z, t, ee, ev⟩
    · subst ee ev
      exact RcAt.none_tuple p' hu0
    · subst ee ev
      exact RcAt.none_list p' hu0
    · subst ee ev
      exact RcAt.none_none 
    · subst ee ev
      exact RcAt.none_bool b
    · subst ee ev
      exact RcAt.none_int i t
    · subst ee ev
      exact RcAt.none_str z t
  · subst ed eu
    rcases isD_obj hok he ry with ⟨es, b, us, jts, ee, ey, ev, hs', rv', p'⟩ | ⟨es, b, us, jts, ee, ey, ev, hs', rv', p'⟩ | ⟨ee, ev⟩ | ⟨b, ee, ev⟩ | ⟨i, t, ee, ev⟩ | ⟨z, t, ee, ev⟩
    · subst ee ev
      exact RcAt.bool_tuple c p' hu0
    · subst ee ev
      exact RcAt.bool_list c p' hu0
    · subst ee ev
      exact RcAt.bool_none c
    · subst ee ev
      exact RcAt.bool_bool c b
    · subst ee ev
      exact RcAt.bool_int c i t
    · subst ee ev
      exact RcAt.bool_str c z t
  · subst ed eu
    rcases isD_obj hok he ry with ⟨es, b, us, jts, ee, ey, ev, hs', rv', p'⟩ | ⟨es, b, us, jts, ee, ey, ev, hs', rv', p'⟩ | ⟨ee, ev⟩ | ⟨b, ee, ev⟩ | ⟨i, t, ee, ev⟩ | ⟨z, t, ee, ev⟩
    · subst ee ev
      exact RcAt.int_tuple c tt p' hu0
    · subst ee ev
      exact RcAt.int_list c tt p' hu0
    · subst ee ev
      exact RcAt.int_none c tt
    · subst ee ev
      exact RcAt.int_bool c tt b
    · subst ee ev
      exact RcAt.int_int c tt i t
    · subst ee ev
      exact RcAt.int_str c tt z t
  · subst ed eu
    rcases isD_obj hok he ry with ⟨es, b, us, jts, ee, ey, ev, hs', rv', p'⟩ | ⟨es, b, us, jts, ee, ey, ev, hs', rv', p'⟩ | ⟨ee, ev⟩ | ⟨b, ee, ev⟩ | ⟨i, t, ee, ev⟩ | ⟨z, t, ee, ev⟩
    · subst ee ev
      exact RcAt.str_tuple c tt p' hu0
    · subst ee ev
      exact RcAt.str_list c tt p' hu0
    · subst ee ev
      exact RcAt.str_none c tt
    · subst ee ev
      exact RcAt.str_bool c tt b
    · subst ee ev
      exact RcAt.str_int c tt i t
    · subst ee ev
      exact RcAt.str_str c tt z t
end

section
variable {X : Cx} {k : Nat}
noncomputable def rEqD : R2 := fun x y H Q => ∃ d e, Dt H d x ∧ Dt H e y ∧ d.dp ≤ 150 ∧ Q (.bl (D.eq d e)) H
theorem op_eqD (hr : Room k X.A) : OpR X (compareOp .Eq) rEqD := by
  intro pins s σ H x y v u Q I rx ry h
  obtain ⟨d, e, hd, he, hp, q⟩ := h
  exact rcAt_D I.hok hd he rx ry (by have := hr.un; omega) _ _ _ _ ⟨.bl _, H, I, rfl, q⟩

/-! ### isinstance by a built-in class -/
noncomputable def isiB (t n : String) : Bool := t == n || (t == "bool" && n == "int")
inductive TyN (H : Hp) : V → String → Prop where
  | non : TyN H .non "NoneType"
  | bl (b : Bool) : TyN H (.bl b) "bool"
  | int (i : Int) : TyN H (.int i) "int"
  | str (x : Str) : TyN H (.str x) "str"
  | lst {a : Addr} {xs : List V} (e : H a = some (.lst xs)) : TyN H (.ref a) "list"
  | tup {a : Addr} {xs : List V} (e : H a = some (.tup xs)) : TyN H (.ref a) "tuple"
theorem kit_b {K : PySem.W.Frag} {t n : String} (ht : t ∈ ["NoneType", "bool", "int", "str", "list", "tuple", "dict"]) (hn : n ∈ ["bool", "int", "str", "list", "tuple", "dict"]) : PySem.W.kitOne K (.type t) (.type n) = some (isiB t n) := by
  simp only [List.mem_cons, List.not_mem_nil, or_false] at ht hn
  rcases ht with rfl | rfl | rfl | rfl | rfl | rfl | rfl <;> rcases hn with rfl | rfl | rfl | rfl | rfl | rfl <;> first | rfl | decide +kernel
noncomputable def rIsi : List V → Hp → VK → Prop := fun xs H Q => ∃ x n t, xs = [x, .ty n] ∧ TyN H x t ∧ n ∈ ["bool", "int", "str", "list", "tuple", "dict"] ∧ Q (.bl (isiB t n)) H
theorem call_isi : CallR X (.builtin "isinstance") rIsi := by
  intro pins s σ H xs us Q I r h
  obtain ⟨x, n, t, rfl, ty, hn, q⟩ := h
  obtain ⟨u, c, rfl, ru, rc⟩ := vals2 r
  cases (show c = Value.type n from rc)
  have fin : ∀ tk, EP X pins σ Q (.bool (isiB t n)) { s with toks := tk } := fun tk => ⟨.bl _, H, I.tok _, rfl, q⟩
  cases ty with
  | non => exact isinst_ok I ru .non (kit_b (by simp) hn) fin
  | bl b => exact isinst_ok I ru (.bl b) (kit_b (by simp) hn) fin
  | int i => exact isinst_ok I ru (.int i) (kit_b (by simp) hn) fin
  | str z => exact isinst_ok I ru (.str z) (kit_b (by simp) hn) fin
  | lst e => exact isinst_ok I ru (.lst e) (kit_b (by simp) hn) fin
  | tup e => exact isinst_ok I ru (.tup e) (kit_b (by simp) hn) fin

/-! ### a op b op c op d -/
end
end L2

namespace L2
open PySem PySem.Spec PyProof.Rows
theorem bt_len : bootBuiltins "len" = some (.builtin "len") := by decide +kernel
theorem bt_all : bootBuiltins "all" = some (.builtin "all") := by decide +kernel
theorem bt_isinstance : bootBuiltins "isinstance" = some (.builtin "isinstance") := by decide +kernel
theorem bt_int : bootBuiltins "int" = some (.type "int") := by decide +kernel
theorem bt_str : bootBuiltins "str" = some (.type "str") := by decide +kernel
theorem bt_list : bootBuiltins "list" = some (.type "list") := by decide +kernel
theorem bt_tuple : bootBuiltins "tuple" = some (.type "tuple") := by decide +kernel
theorem same_new {H : Hp} {p : Addr} (h : H p = none) (o : HO) : Same H (upd H p o) := fun b u q => by rw [upd_ne (ne_of_none q h)]; exact q
section
variable {X : Cx}
/-- t + u of tuples: some tuple with the items of both -/
noncomputable def rCatD : R2 := fun x y H Q => ∃ a b xs ys, x = .ref a ∧ y = .ref b ∧ H a = some (.tup xs) ∧ H b = some (.tup ys) ∧ xs.length + ys.length ≤ sizeLine ∧
  ∀ p H', Same H H' → H' p = some (.tup (xs ++ ys)) → Q (.ref p) H'
theorem cat_tup0 {prog : Program} {w : World} {A : Around} {E : Value → Shared → Prop} {s : Shared} {t b : Addr} {ws : List Value} {Q : Value → Shared → Prop} (ht : IsTup s.heap t ([] : List Value).toArray) (hb : IsTup s.heap b ws.toArray) (h : Q (.ref b) s) :
    wpAny (model prog w) A (binaryOp .Add (.ref t) (.ref b)) Q E s := by
  obtain ⟨⟨cls, dd, data, sl⟩, ho, hc, n, hd⟩ := id ht
  obtain ⟨⟨cls2, dd2, data2, sl2⟩, ho2, hc2, n2, hd2⟩ := id hb
  simp only at hc hd hc2 hd2
  subst hc hd hc2 hd2
  exact concat_meets ⟨_, ho, rfl⟩ ⟨_, ho2, rfl⟩ noFill_tuple_add seq_tuple_add PySem.F.slot_tuple_add PySem.F.entry_tuple_add (PySem.F.args_tuple_add_2 _ _)
    (tuple_addW0 t b _ ws.toArray n n2 dd dd2 sl sl2 (by rfl)) ⟨ho, ho2, h⟩
theorem op_catD : OpR X (binaryOp .Add) rCatD := by
  intro pins s σ H x y v u Q I rx ry h
  obtain ⟨a, b, xs, ys, rfl, rfl, ha, hb, hz, q⟩ := h
  by_cases hx : xs = []
  · subst hx
    cases rx
    cases ry
    obtain ⟨_, its, r1, p1⟩ := I.hok a _ ha
    obtain ⟨_, its2, r2, p2⟩ := I.hok b _ hb
    cases r1
    exact cat_tup0 p1 p2 ⟨.ref b, H, I, rfl, q b H (Same.refl H) hb⟩
  · refine op_catT pins s σ H _ _ v u Q I rx ry ⟨a, b, xs, ys, rfl, rfl, SqT.of ha, SqT.of hb, hx, hz, fun e => ?_, fun _ p hp => q p _ (same_new hp _) upd_same⟩
    subst e
    exact q a H (Same.refl H) (by rw [List.append_nil]; exact ha)
end
/-- a new list with these plain data -/
noncomputable def RetL (H : Hp) (ds : List D) (Q : VK) : Prop := ∀ p vs H', Same H H' → H p = none → H' p = some (.lst vs) → Dts H' ds vs → Q (.ref p) H'
/-- some value with this plain datum -/
noncomputable def RetD (H : Hp) (d : D) (Q : VK) : Prop := ∀ v H', Same H H' → Dt H' d v → Q v H'
theorem RetL.d {H : Hp} {ds : List D} {Q : VK} (h : RetD H (.lst ds) Q) : RetL H ds Q := fun p vs H' S _ e d => h _ H' S (by simp only [Dt]; exact ⟨p, vs, rfl, e, d⟩)
end L2

namespace L2
open PySem PySem.Spec PyProof.Rows
/-! ### rules that read what stands at an address -/
noncomputable def itemsOf : Option HO → Option (List V)
  | some (.lst xs) => some xs
  | some (.tup xs) => some xs
  | _ => none
theorem itemsOf_sq {K : PySem.W.Frag} {H : Hp} {a : Addr} {xs : List V} (h : itemsOf (H a) = some xs) : SqL K H a xs ∨ SqT K H a xs := by
  cases e : H a with
  | none => rw [e] at h; cases h
  | some o =>
    rw [e] at h
    cases o with
    | lst ys => cases h; exact .inl (SqL.of e)
    | tup ys => cases h; exact .inr (SqT.of e)
    | _ => cases h
theorem atI_0 {α : Type} {a : α} {r : List α} : atI (a :: r) 0 = some a := atI_nat (j := 0) rfl
theorem atI_1 {α : Type} {a b : α} {r : List α} : atI (a :: b :: r) 1 = some b := atI_nat (j := 1) rfl
theorem atI_2 {α : Type} {a b c : α} {r : List α} : atI (a :: b :: c :: r) 2 = some c := atI_nat (j := 2) rfl
theorem atI_3 {α : Type} {a b c d : α} {r : List α} : atI (a :: b :: c :: d :: r) 3 = some d := atI_nat (j := 3) rfl
theorem atI_4 {α : Type} {a b c d e : α} {r : List α} : atI (a :: b :: c :: d :: e :: r) 4 = some e := atI_nat (j := 4) rfl
section
variable {X : Cx}
noncomputable def rIxF : R2 := fun x y H Q => ∃ p xs i v, x = .ref p ∧ y = .int i ∧ itemsOf (H p) = some xs ∧ atI xs i = some v ∧ Q v H
theorem ixF : IxR X rIxF := by
  intro value slice pins s σ H x y v u Q I rx ry h hs
  obtain ⟨p, xs, i, z, rfl, rfl, e, hz, q⟩ := h
  rcases itemsOf_sq (K := X.K) e with hq | hq
  · exact ix_list value slice pins s σ H _ _ v u Q I rx ry ⟨p, xs, i, z, rfl, rfl, hq, hz, q⟩ hs
  · exact ix_tup value slice pins s σ H _ _ v u Q I rx ry ⟨p, xs, i, z, rfl, rfl, hq, hz, q⟩ hs
theorem lenF : CallR X (.builtin "len") (fun xs H Q => ∃ p ys, xs = [.ref p] ∧ itemsOf (H p) = some ys ∧ Q (.int ys.length) H) := by
  intro pins s σ H xs us Q I r h
  obtain ⟨p, ys, rfl, e, q⟩ := h
  exact call_len_seq pins s σ H _ us Q I r ⟨p, ys, rfl, itemsOf_sq e, q⟩
/-- xs[lo:hi] of a list -/
theorem slLF : SlR X (fun x lo hi H Q => ∃ a xs, x = .ref a ∧ H a = some (.lst xs) ∧ ∀ p, H p = none → Q (.ref p) (upd H p (.lst (cutV xs lo hi)))) := by
  intro pins s σ H x v vl vu lo hi sl Q I rx hs pl pu h
  obtain ⟨a, xs, rfl, e, q⟩ := h
  exact sl_list pins s σ H _ v vl vu lo hi sl Q I rx hs pl pu ⟨a, xs, rfl, SqL.of e, q⟩
end
/-- what a loop wants of its iterator -/
noncomputable def ForW (J : It) (g : TG) (tb : TS) (D : Ends) (σ : St) (H : Hp) : Prop :=
  ∃ W : Nat → Nat → St → Hp → Prop, (∃ m, W 0 m σ H) ∧ ∀ i m σ H, W i m σ H →
    (J.stop i H ∧ D.nx σ H) ∨ (J.go i H ∧ ∃ N : St → Hp → Prop, (∀ σ' H', N σ' H' → ∃ m', m' < m ∧ W (i + 1) m' σ' H') ∧ ∀ x H', J.yld i H x H' → g x σ H' fun σ2 H2 => tb { D with nx := N, ct := N, bk := D.nx } σ2 H2)
theorem forR {lo : Int} {n : Nat} {g : TG} {tb : TS} {D : Ends} {σ : St} {H : Hp} (Pv : Nat → St → Hp → Prop) (h0 : Pv 0 σ H)
    (hs : ∀ i σ H, i < n → Pv i σ H → g (.int (lo + i)) σ H fun σ2 H2 => tb { D with nx := Pv (i + 1), ct := Pv (i + 1), bk := D.nx } σ2 H2) (hd : ∀ σ H, Pv n σ H → D.nx σ H) : ForW (Itr lo n) g tb D σ H := for_range Pv h0 hs hd
theorem a_tFor {wi : TI} {g : TG} {tb : TS} {D : Ends} {σ : St} {H : Hp} : tFor wi g tb D σ H = wi σ H fun J H1 => ForW J g tb D σ H1 := rfl
theorem Same.new {H0 H : Hp} (S : Same H0 H) {p : Addr} (n : H p = none) (o : HO) : Same H0 (upd H p o) := S.trans (same_new n o)
/-- a list that is new since H0 is written -/
theorem Same.put {H0 H : Hp} (S : Same H0 H) {p : Addr} (n : H0 p = none) (o : HO) : Same H0 (upd H p o) := fun b u h => by
  rw [upd_ne (ne_of_none h n)]; exact S b u h
theorem Same.old {H0 H : Hp} (S : Same H0 H) {p : Addr} (n : H p = none) : H0 p = none := by
  cases e : H0 p with
  | none => rfl
  | some o => rw [S p o e] at n; cases n
theorem Dt.new {H : Hp} {d : D} {v : V} (h : Dt H d v) {p : Addr} (n : H p = none) (o : HO) : Dt (upd H p o) d v := h.same (same_new n o)
theorem Dt.tup {H : Hp} {ds : List D} {vs : List V} {a : Addr} (e : H a = some (.tup vs)) (h : Dts H ds vs) : Dt H (.tup ds) (.ref a) := by
  simp only [Dt]; exact ⟨a, vs, rfl, e, h⟩
theorem Dt.lst {H : Hp} {ds : List D} {vs : List V} {a : Addr} (e : H a = some (.lst vs)) (h : Dts H ds vs) : Dt H (.lst ds) (.ref a) := by
  simp only [Dt]; exact ⟨a, vs, rfl, e, h⟩
theorem isD_tup {H : Hp} {ds : List D} {v : V} : Dt H (.tup ds) v ↔ ∃ a vs, v = .ref a ∧ H a = some (.tup vs) ∧ Dts H ds vs := by simp only [Dt]
theorem isDs_nil {H : Hp} {vs : List V} : Dts H [] vs ↔ vs = [] := by simp only [Dts]
theorem isDs_cons {H : Hp} {d : D} {ds : List D} {vs : List V} : Dts H (d :: ds) vs ↔ ∃ v r, vs = v :: r ∧ Dt H d v ∧ Dts H ds r := by simp only [Dts]
theorem isD_int {H : Hp} {i : Int} {v : V} : Dt H (.int i) v ↔ v = .int i := by simp only [Dt]
theorem isD_str {H : Hp} {x : Str} {v : V} : Dt H (.str x) v ↔ v = .str x := by simp only [Dt]
theorem isD_bl {H : Hp} {b : Bool} {v : V} : Dt H (.bl b) v ↔ v = .bl b := by simp only [Dt]
theorem Dts.of_str {H : Hp} : ∀ {ns : List Str} {vs : List V}, Dts H (ns.map D.str) vs → vs = ns.map V.str
  | [], vs, h => by simpa only [List.map_nil, Dts] using h
  | n :: r, vs, h => by
    simp only [List.map_cons, Dts] at h
    obtain ⟨v, t, rfl, h1, h2⟩ := h
    rw [isD_str.mp h1, Dts.of_str h2]; rfl
theorem cxOf_K {CX : CXT} {P : Program} {w : World} {K : PySem.W.Frag} {mg : Str → Option Value} {base : Heap} {N : List Str} {qual : Str} {scope : Scope} {f : Addr} {cd : Value} {A : Around} {outer : List Env} {s : Shared} {H : Hp} {E : XK} :
    (cxOf CX P w K mg base N qual scope f cd A outer s H E).K = K := rfl
theorem blk_K {X : Cx} {N : List Str} {scope : Scope} {C : Addr} {s : Shared} {H : Hp} {ex : List Addr} : (blk X N scope C s H ex).K = X.K := rfl
theorem cm_l {i j : Int} (h1 : -18446744073709551616 < i) (h2 : i < 18446744073709551616) : CMul i j := .inl ⟨h1, h2⟩
theorem cm_r {i j : Int} (h1 : -18446744073709551616 < j) (h2 : j < 18446744073709551616) : CMul i j := .inr ⟨h1, h2⟩
theorem ex_len {K : PySem.W.Frag} {H : Hp} {a : Addr} {xs : List V} {R : List V → Prop} (h : SqL K H a xs) (q : R xs) : ∃ x, (SqL K H a x ∨ SqT K H a x) ∧ R x := ⟨xs, .inl h, q⟩
theorem ex_at {K : PySem.W.Frag} {H : Hp} {a : Addr} {xs : List V} {i : Int} {v : V} {R : V → Prop} (h : SqL K H a xs) (e : atI xs i = some v) (q : R v) : ∃ x, SqL K H a x ∧ ∃ y, atI x i = some y ∧ R y := ⟨xs, h, v, e, q⟩
end L2

/-! ### the readings, each at its arguments -/
namespace L2
open PySem PySem.Spec PyProof.Rows
noncomputable def tSet (i : Nat) (te : TE) : TS := fun D σ H => te σ H fun x H1 => D.nx (σ.set i (some x)) H1
theorem ps_let {X : Cx} {i : Nat} {x : Str} {e : Expr} {te : TE} {pos pos' : Pos} (hN : X.N.Nodup) (hi : X.N[i]? = some x) (hx : Loc X.env.scope x) (he : PE X e te) (hs : swapsWith e (some (.Name x pos')) pos.line X.env = pure false := by rfl) (hf : X.fn x = true ∨ X.env.scope.names.lookup x = some .local := by first | exact .inl rfl | exact .inr rfl | assumption) : PS X (.Assign [.Name x pos'] e pos) (tSet i te) := ps_set hN hi hx he hs hf
noncomputable def tSetC (i : Nat) (wi : TI) (caps : List Nat) (tc : TT) (te : TE) : TS := fun D σ H => tComp wi caps tc te σ H fun v H1 => D.nx (σ.set i (some v)) H1
theorem ps_letC {X : Cx} {scope : Scope} {x : Str} {N : List Str} {caps : List Nat} {elt iter : Expr} {px py pos spos : Pos} {ifs : List Expr} {wi : TI} {tc : TT} {te : TE} {y : Str} {i : Nat} (hcalm : X.calm = true) (S : CSc X scope x N caps) (hi : PI X (.Name x px) iter wi)
    (hc : ∀ C s H ex, PIfs (blk X N scope C s H ex) ifs tc) (he : ∀ C s H ex, PE (blk X N scope C s H ex) elt te) (hN : X.N.Nodup) (hy : X.N[i]? = some y) (hx : X.env.scope.names.lookup y = some .local)
    (hsw : swapsWith (.ListComp elt [⟨.Name x px, iter, ifs, 0⟩] scope pos) (some (.Name y py)) spos.line X.env = pure true) (hs : ∀ x, foldedSetIterable iter X.env x = pure x := by intro _; rfl) :
    PS X (.Assign [.Name y py] (.ListComp elt [⟨.Name x px, iter, ifs, 0⟩] scope pos) spos) (tSetC i wi caps tc te) := ps_comp hcalm S hi hc he hN hy hx hsw hs
theorem a_tSet {i : Nat} {te : TE} {D : Ends} {σ : St} {H : Hp} : tSet i te D σ H = te σ H fun x H1 => D.nx (σ.set i (some x)) H1 := rfl
theorem a_tSetC {i : Nat} {wi : TI} {caps : List Nat} {tc : TT} {te : TE} {D : Ends} {σ : St} {H : Hp} : tSetC i wi caps tc te D σ H = tComp wi caps tc te σ H fun v H1 => D.nx (σ.set i (some v)) H1 := rfl
theorem a_tVar {i : Nat} {σ : St} {H : Hp} {Q : VK} : tVar i σ H Q = (∃ v, σ[i]? = some (some v) ∧ Q v H) := rfl
theorem a_tC {v : V} {σ : St} {H : Hp} {Q : VK} : tC v σ H Q = (Q v H) := rfl
theorem a_tIsN {ta : TE} {σ : St} {H : Hp} {Q : VK} : tIsN ta σ H Q = (ta σ H fun x H1 => Q (.bl (decide (x = .non))) H1) := rfl
theorem a_tB {t : TE} {σ : St} {H : Hp} {Q : Bool → Hp → Prop} : tB t σ H Q = (t σ H fun x H1 => ∃ c, x = .bl c ∧ Q c H1) := rfl
theorem a_tAnd {t u : TT} {σ : St} {H : Hp} {Q : Bool → Hp → Prop} : tAnd t u σ H Q = (t σ H fun c H1 => if c = true then u σ H1 Q else Q false H1) := rfl
theorem a_tOr {t u : TT} {σ : St} {H : Hp} {Q : Bool → Hp → Prop} : tOr t u σ H Q = (t σ H fun c H1 => if c = true then Q true H1 else u σ H1 Q) := rfl
theorem a_tNot {t : TT} {σ : St} {H : Hp} {Q : Bool → Hp → Prop} : tNot t σ H Q = (t σ H fun c H1 => Q (!c) H1) := rfl
theorem a_tAndV {ta tb : TE} {σ : St} {H : Hp} {Q : VK} : tAndV ta tb σ H Q = (ta σ H fun x H1 => ∃ c, x = .bl c ∧ if c = true then tb σ H1 Q else Q (.bl false) H1) := rfl
theorem a_tOrV {ta tb : TE} {σ : St} {H : Hp} {Q : VK} : tOrV ta tb σ H Q = (ta σ H fun x H1 => ∃ c, x = .bl c ∧ if c = true then Q (.bl true) H1 else tb σ H1 Q) := rfl
theorem a_tNext {D : Ends} {σ : St} {H : Hp} : tNext  D σ H = (D.nx σ H) := rfl
theorem a_tSeq {t u : TS} {D : Ends} {σ : St} {H : Hp} : tSeq t u D σ H = (t { D with nx := u D } σ H) := rfl
theorem a_tDrop {te : TE} {D : Ends} {σ : St} {H : Hp} : tDrop te D σ H = (te σ H fun _ H1 => D.nx σ H1) := rfl
theorem a_tRet {te : TE} {D : Ends} {σ : St} {H : Hp} : tRet te D σ H = (te σ H D.rt) := rfl
theorem a_tIfS {c : TT} {t u : TS} {D : Ends} {σ : St} {H : Hp} : tIfS c t u D σ H = (c σ H fun b H1 => if b = true then t D σ H1 else u D σ H1) := rfl
theorem a_gName {i : Nat} {v : V} {σ : St} {H : Hp} {Q : St → Hp → Prop} : gName i v σ H Q = (Q (σ.set i (some v)) H) := rfl
theorem a_gNil {vs : List V} {σ : St} {H : Hp} {Q : St → Hp → Prop} : gNil  vs σ H Q = (vs = [] ∧ Q σ H) := rfl
theorem a_gCons {t : TG} {u : TGs} {vs : List V} {σ : St} {H : Hp} {Q : St → Hp → Prop} : gCons t u vs σ H Q = (∃ v r, vs = v :: r ∧ t v σ H fun σ' H' => u r σ' H' Q) := rfl
theorem a_gTup {K : PySem.W.Frag} {n : Nat} {t : TGs} {v : V} {σ : St} {H : Hp} {Q : St → Hp → Prop} : gTup K n t v σ H Q = (∃ a xs, v = .ref a ∧ SqT K H a xs ∧ xs.length = n ∧ t xs σ H Q) := rfl
theorem a_gSub {to ti : TE} {t : TSet} {v : V} {σ : St} {H : Hp} {Q : St → Hp → Prop} : gSub to ti t v σ H Q = (to σ H fun o H1 => ti σ H1 fun i H2 => t o i v H2 fun H3 => Q σ H3) := rfl
theorem a_tAsg {te : TE} {g : TG} {D : Ends} {σ : St} {H : Hp} : tAsg te g D σ H = (te σ H fun x H1 => g x σ H1 D.nx) := rfl
theorem a_iRng1 {ta : TA} {σ : St} {H : Hp} {R : It → Hp → Prop} : iRng1 ta σ H R = (ta σ H fun vs H1 => ∃ j : Int, vs = [.int j] ∧ -(2 ^ 62) ≤ j ∧ j < 2 ^ 62 ∧ R (Itr 0 j.toNat) H1) := rfl
theorem a_tOp {r : R2} {ta tb : TE} {σ : St} {H : Hp} {Q : VK} : tOp r ta tb σ H Q = (ta σ H fun x H1 => tb σ H1 fun y H2 => r x y H2 Q) := rfl
theorem a_tUn {r : V → Hp → VK → Prop} {ta : TE} {σ : St} {H : Hp} {Q : VK} : tUn r ta σ H Q = (ta σ H fun x H1 => r x H1 Q) := rfl
theorem a_rI {C : Int → Int → Prop} {g : Int → Int → V} {x y : V} {H : Hp} {Q : VK} : rI C g x y H Q = (∃ i j, x = .int i ∧ y = .int j ∧ C i j ∧ Q (g i j) H) := rfl
theorem a_rI0 {g : Int → Int → V} {x y : V} {H : Hp} {Q : VK} : rI0 g x y H Q = (∃ i j, x = .int i ∧ y = .int j ∧ Q (g i j) H) := rfl
theorem a_rU {g : Int → V} {x : V} {H : Hp} {Q : VK} : rU g x H Q = (∃ i, x = .int i ∧ Q (g i) H) := rfl
theorem a_rEq {x y : V} {H : Hp} {Q : VK} : rEq  x y H Q = (scal x y = true ∧ Q (.bl (decide (x = y))) H) := rfl
theorem a_rNe {x y : V} {H : Hp} {Q : VK} : rNe  x y H Q = (scal x y = true ∧ Q (.bl (!decide (x = y))) H) := rfl
theorem a_tTest {t : TE} {σ : St} {H : Hp} {Q : Bool → Hp → Prop} : tTest t σ H Q = (t σ H fun x H' => ∃ k, x = .bl k ∧ Q k H') := rfl
theorem a_tChain {r r' : R2} {ta tb tc : TE} {σ : St} {H : Hp} {Q : VK} : tChain r r' ta tb tc σ H Q = (ta σ H fun x H1 => tb σ H1 fun y H2 => r x y H2 fun z H3 => ∃ k, z = .bl k ∧   (if k = true then tc σ H3 fun w' H4 => r' y w' H4 Q else Q (.bl false) H3)) := rfl
theorem a_tNil {σ : St} {H : Hp} {Q : List V → Hp → Prop} : tNil  σ H Q = (Q [] H) := rfl
theorem a_tCons {ta : TE} {tr : TA} {σ : St} {H : Hp} {Q : List V → Hp → Prop} : tCons ta tr σ H Q = (ta σ H fun x H1 => tr σ H1 fun xs H2 => Q (x :: xs) H2) := rfl
theorem a_tCall {sp : Sp} {dvs : List V} {E : XK} {t : TA} {σ : St} {H : Hp} {Q : VK} : tCall sp dvs E t σ H Q = (t σ H fun vs H1 => sp (vs ++ dvs) H1 Q E) := rfl
theorem a_tCB {r : List V → Hp → VK → Prop} {t : TA} {σ : St} {H : Hp} {Q : VK} : tCB r t σ H Q = (t σ H fun vs H1 => r vs H1 Q) := rfl
theorem a_tNoPart {σ : St} {H : Hp} {Q : Option Int → Hp → Prop} : tNoPart  σ H Q = (Q none H) := rfl
theorem a_tPart {t : TE} {σ : St} {H : Hp} {Q : Option Int → Hp → Prop} : tPart t σ H Q = (t σ H fun x H1 => ∃ i, x = .int i ∧ Q (some i) H1) := rfl
theorem a_tSl {r : V → Option Int → Option Int → Hp → VK → Prop} {te : TE} {tl th : TO} {σ : St} {H : Hp} {Q : VK} : tSl r te tl th σ H Q = (te σ H fun x H1 => tl σ H1 fun l H2 => th σ H2 fun u H3 => r x l u H3 Q) := rfl
theorem a_rIxL {K : PySem.W.Frag} {x y : V} {H : Hp} {Q : VK} : rIxL K x y H Q = (∃ p xs i v, x = .ref p ∧ y = .int i ∧ SqL K H p xs ∧ atI xs i = some v ∧ Q v H) := rfl
theorem a_rIxS {x y : V} {H : Hp} {Q : VK} : rIxS  x y H Q = (∃ z i c, x = .str z ∧ y = .int i ∧ z.length ≤ sizeLine ∧ atI z.cps.toList i = some c ∧ Q (.str ⟨#[c]⟩) H) := rfl
theorem a_tBM {K : PySem.W.Frag} {T : String} {r : V → List V → Hp → VK → Prop} {to : TE} {t : TA} {σ : St} {H : Hp} {Q : VK} : tBM K T r to t σ H Q = (to σ H fun x H1 => tyV K T x H1 ∧ t σ H1 fun xs H2 => r x xs H2 Q) := rfl
theorem a_tDGet {td ty : TE} {σ : St} {H : Hp} {Q : VK} : tDGet td ty σ H Q = (td σ H fun x H1 => ty σ H1 fun y H2 => ∃ a v, x = .ref a ∧ DGet H2 a y (some v) ∧ Q v H2) := rfl
theorem a_tDGet2 {td ty tx : TE} {σ : St} {H : Hp} {Q : VK} : tDGet2 td ty tx σ H Q = (td σ H fun x H1 => ∃ a, x = .ref a ∧ IsD H1 a ∧ ty σ H1 fun y H2 => tx σ H2 fun z H3 => ∃ o, DGet H3 a y o ∧ Q (o.getD z) H3) := rfl
theorem a_tYes {σ : St} {H : Hp} {Q : Bool → Hp → Prop} : tYes  σ H Q = (Q true H) := rfl
theorem a_tComp {wi : TI} {caps : List Nat} {tc : TT} {te : TE} {σ : St} {H : Hp} {Q : VK} : tComp wi caps tc te σ H Q = (wi σ H fun J H1 => wComp J caps tc te σ H1 Q) := rfl
theorem a_iStr {tl : TE} {σ : St} {H : Hp} {R : It → Hp → Prop} : iStr tl σ H R = (tl σ H fun x H1 => ∃ z, x = .str z ∧ R (Its z) H1) := rfl
theorem a_rSlS {x : V} {lo hi : Option Int} {H : Hp} {Q : VK} : rSlS  x lo hi H Q = (∃ z, x = .str z ∧ z.length ≤ sizeLine ∧ Q (.str (Txt.slice z lo hi)) H) := rfl
theorem a_rJoin {K : PySem.W.Frag} {x : V} {xs : List V} {H : Hp} {Q : VK} : rJoin K x xs H Q = (∃ sep a ys, x = .str sep ∧ xs = [.ref a] ∧ (SqL K H a (ys.map V.str) ∨ SqT K H a (ys.map V.str)) ∧ (ys.map (·.length)).sum + ys.length * sep.length ≤ 16777216 ∧ Q (.str (Txt.join sep ys)) H) := rfl
theorem a_rEqD {x y : V} {H : Hp} {Q : VK} : rEqD  x y H Q = (∃ d e, Dt H d x ∧ Dt H e y ∧ d.dp ≤ 150 ∧ Q (.bl (D.eq d e)) H) := rfl
theorem a_rIsi {xs : List V} {H : Hp} {Q : VK} : rIsi  xs H Q = (∃ x n t, xs = [x, .ty n] ∧ TyN H x t ∧ n ∈ ["bool", "int", "str", "list", "tuple", "dict"] ∧ Q (.bl (isiB t n)) H) := rfl
theorem a_rCatD {x y : V} {H : Hp} {Q : VK} : rCatD  x y H Q = (∃ a b xs ys, x = .ref a ∧ y = .ref b ∧ H a = some (.tup xs) ∧ H b = some (.tup ys) ∧ xs.length + ys.length ≤ sizeLine ∧   ∀ p H', Same H H' → H' p = some (.tup (xs ++ ys)) → Q (.ref p) H') := rfl
theorem a_rIxF {x y : V} {H : Hp} {Q : VK} : rIxF  x y H Q = (∃ p xs i v, x = .ref p ∧ y = .int i ∧ itemsOf (H p) = some xs ∧ atI xs i = some v ∧ Q v H) := rfl
theorem scal_ii {i j : Int} : (scal (.int i) (.int j) = true) = True := eq_true rfl
theorem scal_ss {i j : Str} : (scal (.str i) (.str j) = true) = True := eq_true rfl
theorem scal_bb {i j : Bool} : (scal (.bl i) (.bl j) = true) = True := eq_true rfl
end L2

namespace L2
open PySem PySem.Spec PyProof.Rows
/-! ### new objects and writes, the heap behind them a letter -/
noncomputable def NewO (H : Hp) (o : HO) (Q : VK) : Prop := ∀ p, H p = none → Q (.ref p) (upd H p o)
theorem NewO.mk {H : Hp} {o : HO} {Q : VK} (h : ∀ p H', Same H H' → H p = none → H' p = some o → Q (.ref p) H') : NewO H o Q := fun p hp => h p _ (same_new hp o) hp upd_same
noncomputable def PutO (H : Hp) (l : Addr) (o : HO) (R : Hp → Prop) : Prop := R (upd H l o)
theorem PutO.mk {H : Hp} {l : Addr} {o : HO} {R : Hp → Prop} (h : ∀ H', (∀ b, b ≠ l → H' b = H b) → H' l = some o → R H') : PutO H l o R := h _ (fun b hb => upd_ne hb) upd_same
theorem b_tTup {t : TA} {σ : St} {H : Hp} {Q : VK} : tTup t σ H Q = (t σ H fun xs H1 => xs.length ≤ sizeLine ∧ NewO H1 (.tup xs) Q) := rfl
theorem b_tLst {t : TA} {σ : St} {H : Hp} {Q : VK} : tLst t σ H Q = (t σ H fun xs H1 => xs.length ≤ sizeLine ∧ NewO H1 (.lst xs) Q) := rfl
theorem b_rAppend {x : V} {vs : List V} {H : Hp} {Q : VK} : rAppend x vs H Q = (∃ l xs y, x = .ref l ∧ vs = [y] ∧ H l = some (.lst xs) ∧ xs.length < sizeLine ∧ PutO H l (.lst (xs ++ [y])) (Q .non)) := rfl
theorem b_rRep {x y : V} {H : Hp} {Q : VK} : rRep x y H Q = (∃ l k xs, x = .ref l ∧ y = .int k ∧ H l = some (.lst xs) ∧ -(2 ^ 63) ≤ k ∧ k < 2 ^ 63 ∧ xs.length * k.toNat ≤ sizeLine ∧ NewO H (.lst (List.replicate k.toNat xs).flatten) Q) := rfl
theorem b_rSetL {o i v : V} {H : Hp} {Q : Hp → Prop} : rSetL o i v H Q = (∃ p xs k j, o = .ref p ∧ i = .int k ∧ H p = some (.lst xs) ∧ ixN xs.length k = some j ∧ PutO H p (.lst (xs.set j v)) Q) := rfl
noncomputable def rSlLF : V → Option Int → Option Int → Hp → VK → Prop := fun x lo hi H Q => ∃ a xs, x = .ref a ∧ H a = some (.lst xs) ∧ NewO H (.lst (cutV xs lo hi)) Q
theorem slLG {X : Cx} : SlR X rSlLF := slLF
theorem a_rSlLF {x : V} {lo hi : Option Int} {H : Hp} {Q : VK} : rSlLF x lo hi H Q = (∃ a xs, x = .ref a ∧ H a = some (.lst xs) ∧ NewO H (.lst (cutV xs lo hi)) Q) := rfl
noncomputable def rLenF : List V → Hp → VK → Prop := fun xs H Q => ∃ p ys, xs = [.ref p] ∧ itemsOf (H p) = some ys ∧ Q (.int ys.length) H
theorem lenG {X : Cx} : CallR X (.builtin "len") rLenF := lenF
theorem a_rLenF {xs : List V} {H : Hp} {Q : VK} : rLenF xs H Q = (∃ p ys, xs = [.ref p] ∧ itemsOf (H p) = some ys ∧ Q (.int ys.length) H) := rfl
theorem items_l {H : Hp} {a : Addr} {xs : List V} (h : H a = some (.lst xs)) : itemsOf (H a) = some xs := by rw [h]; rfl
theorem Same.put_new {H0 H H' : Hp} {l : Addr} (S : Same H0 H) (n : H0 l = none) (k : ∀ b, b ≠ l → H' b = H b) : Same H0 H' := fun b o e => by
  rw [k b (ne_of_none e n)]; exact S b o e
theorem Dt.of_put {H H' : Hp} {l : Addr} {xs : List V} {d : D} {v : V} (hl : H l = some (.lst xs)) (k : ∀ b, b ≠ l → H' b = H b) (n : d.nl = true) (h : Dt H d v) : Dt H' d v :=
  h.tups (fun b ys e => by rw [k b (ne_of e hl (by intro z; cases z))]; exact e) n
theorem Dts.of_put {H H' : Hp} {l : Addr} {xs : List V} {d : List D} {v : List V} (hl : H l = some (.lst xs)) (k : ∀ b, b ≠ l → H' b = H b) (n : D.nls d = true) (h : Dts H d v) : Dts H' d v :=
  h.tups (fun b ys e => by rw [k b (ne_of e hl (by intro z; cases z))]; exact e) n
/-! ### trees, places -/
noncomputable abbrev Tree := M.Tr Str
noncomputable def dT : Tree → D
  | .leaf x => .tup [.str "leaf", .str x]
  | .knot f l r => .tup [.str "knot", .str f, dT l, dT r]
noncomputable def vP (p : List Nat) : List V := p.map fun (i : Nat) => .int (i : Int)
noncomputable def dP (p : List Nat) : D := .tup (p.map fun (i : Nat) => .int (i : Int))
noncomputable def dO : Option (List Nat) → D
  | none => .non
  | some p => dP p
theorem Dts.ints {H : Hp} : ∀ {p : List Nat} {vs : List V}, Dts H (p.map fun (i : Nat) => D.int (i : Int)) vs → vs = vP p
  | [], vs, h => by
    simp only [List.map_nil, Dts] at h
    exact h
  | i :: p, vs, h => by
    simp only [List.map_cons, Dts] at h
    obtain ⟨v, r, rfl, h1, h2⟩ := h
    rw [isD_int.mp h1, Dts.ints h2]; rfl
theorem Dts.map_of {α : Type} {H : Hp} {f : α → D} : ∀ {l : List α} {vs : List V} {i : Nat} {x : α}, Dts H (l.map f) vs → l[i]? = some x → ∃ v, vs[i]? = some v ∧ Dt H (f x) v := fun h e => h.get (by rw [List.getElem?_map, e]; rfl)
/-! ### names -/
noncomputable def nmS (c : Int) (many k : Nat) : Str := ⟨(M.nm c many k).toArray⟩
theorem sign_cat (a : List Nat) (b : List Nat) : (Str.mk a.toArray) ++ (Str.mk b.toArray) = Str.mk (a ++ b).toArray := by
  show Str.append _ _ = _
  simp [Str.append]
theorem join_signs : ∀ l : List Nat, Str.join (⟨#[]⟩ : Str) (l.map fun c => (⟨#[c]⟩ : Str)) = ⟨l.toArray⟩
  | [] => rfl
  | [c] => rfl
  | c :: d :: l => by
    have ih := join_signs (d :: l)
    show (⟨#[c]⟩ : Str) ++ (⟨#[]⟩ : Str) ++ Str.join ⟨#[]⟩ ((d :: l).map fun c => (⟨#[c]⟩ : Str)) = _
    rw [ih]
    have e : (⟨#[c]⟩ : Str) ++ (⟨#[]⟩ : Str) = Str.mk [c].toArray := by show Str.append _ _ = _; simp [Str.append]
    rw [e, sign_cat]; rfl
theorem join_signs' (l : List Nat) : Txt.join (Str.ofString "") (l.map fun c => (⟨#[c]⟩ : Str)) = ⟨l.toArray⟩ := by
  show Builtin.Str.glued _ _ = _
  rw [StrLaws.glued_eq_join]
  have : Str.ofString "" = (⟨#[]⟩ : Str) := by decide +kernel
  rw [this]; exact join_signs l

noncomputable def isName (l : List Nat) : Bool := decide (1 ≤ l.length) && (decide (l.length ≤ 8) && l.all fun c => decide (97 ≤ c) && decide (c ≤ 122))
theorem isName_good {l : List Nat} (h : M.good l) : isName l = true := by
  obtain ⟨h1, h2, h3⟩ := h
  unfold isName
  simp only [Bool.and_eq_true, decide_eq_true_eq, List.all_eq_true]
  exact ⟨h1, h2, h3⟩
noncomputable def nameOk (x : Str) : Bool := isName x.cps.toList
/-- what the script's trees are -/
structure TreeOf (many : Nat) (t : Tree) (c c' : Int) : Prop where
  perm : t.lv.Perm ((List.range many).map (nmS c many))
  kn : ∀ f ∈ t.kn, f ∈ (List.range 3).map (nmS c' 3)
  dp : t.dp ≤ 24
theorem nmS_ok {c : Int} {many k : Nat} (h : k < many) : nameOk (nmS c many k) = true := isName_good (M.nm_good h)
namespace TreeOf
variable {many : Nat} {t : Tree} {c c' : Int}
theorem len (h : TreeOf many t c c') : t.lv.length = many := by rw [h.perm.length_eq]; simp
end TreeOf

/-! ### places in lists -/
theorem atI_int {α : Type} {xs : List α} {i : Int} {v : α} (h0 : 0 ≤ i) (h : xs[i.toNat]? = some v) : atI xs i = some v := by
  have e : i = ((i.toNat : Nat) : Int) := by omega
  rw [e]; exact atI_nat h
theorem ixN_int {n : Nat} {i : Int} (h0 : 0 ≤ i) (h : i < n) : ixN n i = some i.toNat := by unfold ixN; rw [if_pos h0, if_pos h]
theorem cutV_to {xs : List V} {p : Nat} (h : p ≤ xs.length) : cutV xs none (some (p : Int)) = xs.take p := by
  have e1 : HT.sIx xs.length 0 none = 0 := rfl
  have e2 : HT.sIx xs.length xs.length (some (p : Int)) = p := by rw [HT.sIx_nat]; omega
  unfold cutV
  rw [e1, e2]; simp
theorem cutV_from {xs : List V} {p : Nat} (h : p ≤ xs.length) : cutV xs (some (p : Int)) none = xs.drop p := by
  have e1 : HT.sIx xs.length xs.length none = xs.length := rfl
  have e2 : HT.sIx xs.length 0 (some (p : Int)) = p := by rw [HT.sIx_nat]; omega
  unfold cutV
  rw [e1, e2, List.take_of_length_le (by simp)]

noncomputable def rIntB : List V → Hp → VK → Prop := fun xs H Q => ∃ k, xs = [.bl k] ∧ Q (.int (if k then 1 else 0)) H
theorem call_intB {X : Cx} : CallR X (.type "int") rIntB := fun pins s σ H xs us Q I r h => call_int1 pins s σ H xs us Q I r (.inr h)
theorem a_rIntB {xs : List V} {H : Hp} {Q : VK} : rIntB xs H Q = (∃ k, xs = [.bl k] ∧ Q (.int (if k then 1 else 0)) H) := rfl
noncomputable abbrev LETT : Str := Str.ofString "abcdefghijklmnopqrstuvwxyz"
theorem lett_list : LETT.cps.toList = (List.range 26).map (97 + ·) := by decide +kernel
theorem lett_at {i : Int} (h0 : 0 ≤ i) (h : i < 26) : atI LETT.cps.toList i = some (97 + i.toNat) := by
  refine atI_int h0 ?_
  rw [lett_list, List.getElem?_map, List.getElem?_range (by omega)]; rfl
theorem lett_big : LETT.length ≤ sizeLine := by
  have : LETT.length = 26 := by
    have e := congrArg List.length lett_list
    simpa [Str.length] using e
  rw [this]; decide
theorem lett_c (c : Int) : atI LETT.cps.toList (c % 26) = some (M.let26 c) := lett_at (by omega) (by omega)
theorem rep_one {α : Type} (n : Nat) (x : α) : (List.replicate n [x]).flatten = List.replicate n x := by
  induction n with
  | zero => rfl
  | succ n ih => simp [List.replicate_succ, ih]

theorem ty_str {K : PySem.W.Frag} {z : Str} {H : Hp} : (tyV K "str" (.str z) H) = True := eq_true rfl
theorem ty_lst {K : PySem.W.Frag} {H : Hp} {p : Addr} {xs : List V} (e : H p = some (.lst xs)) : tyV K "list" (.ref p) H := .inl ⟨rfl, _, SqL.of e⟩
theorem small_size {n : Nat} (h : n ≤ 100000) : n < sizeLine := Nat.lt_of_le_of_lt h (by decide)
theorem small_le {n : Nat} (h : n ≤ 100000) : n ≤ sizeLine := Nat.le_of_lt (small_size h)
theorem sum_ones : ∀ l : List Nat, ((l.map fun c => (⟨#[c]⟩ : Str)).map (fun x => x.length)).sum = l.length
  | [] => rfl
  | c :: l => by simp only [List.map_cons, List.sum_cons, sum_ones l, List.length_cons]; show 1 + l.length = _; omega
theorem app_join {K : PySem.W.Frag} {H : Hp} {p2 p5 : Addr} {xs : List V} {l : List Nat} {R : Hp → Prop} (e2 : H p2 = some (.lst xs)) (e5 : H p5 = some (.lst (l.map fun x => V.str ⟨#[x]⟩))) (hx : xs.length ≤ 1000) (hl : l.length ≤ 1000)
    (q : ∀ H', (∀ b, b ≠ p2 → H' b = H b) → H' p2 = some (.lst (xs ++ [.str ⟨l.toArray⟩])) → R H') :
    tyV K "list" (.ref p2) H ∧ ∃ x, (SqL K H p5 (x.map V.str) ∨ SqT K H p5 (x.map V.str)) ∧ (x.map (fun x => x.length)).sum + x.length * (Str.ofString "").length ≤ 16777216 ∧
      ∃ x_1, H p2 = some (.lst x_1) ∧ x_1.length < sizeLine ∧ PutO H p2 (.lst (x_1 ++ [.str (Txt.join (Str.ofString "") x)])) R := by
  refine ⟨ty_lst e2, l.map fun c => (⟨#[c]⟩ : Str), .inl (SqL.of (by rw [e5, List.map_map]; rfl)), ?_, xs, e2, small_size (by omega), PutO.mk fun H' k e => q H' k ?_⟩
  · rw [sum_ones, List.length_map]
    have : (Str.ofString "").length = 0 := by decide +kernel
    rw [this]; omega
  · rw [e, join_signs']

/-! ### loops over a list, a tuple whose kind is known -/
noncomputable def WalkL (K : PySem.W.Frag) (x : V) (H : Hp) (R : It → Hp → Prop) : Prop := ∃ a, x = .ref a ∧ (∃ xs, H a = some (.lst xs)) ∧ R (Itl K a) H
noncomputable def WalkT (K : PySem.W.Frag) (x : V) (H : Hp) (R : It → Hp → Prop) : Prop := ∃ a, x = .ref a ∧ (∃ xs, H a = some (.tup xs)) ∧ R (Itt K a) H
noncomputable def iL (K : PySem.W.Frag) (tl : TE) : TI := fun σ H R => tl σ H fun x H1 => WalkL K x H1 R
noncomputable def iT (K : PySem.W.Frag) (tl : TE) : TI := fun σ H R => tl σ H fun x H1 => WalkT K x H1 R
theorem a_iL {K : PySem.W.Frag} {tl : TE} {σ : St} {H : Hp} {R : It → Hp → Prop} : iL K tl σ H R = tl σ H fun x H1 => WalkL K x H1 R := rfl
theorem a_iT {K : PySem.W.Frag} {tl : TE} {σ : St} {H : Hp} {R : It → Hp → Prop} : iT K tl σ H R = tl σ H fun x H1 => WalkT K x H1 R := rfl
theorem piL {X : Cx} {tg l : Expr} {tl : TE} (hl : PE X l tl) : PI X tg l (iL X.K tl) := by
  intro pins s σ H R I h
  refine thn (hl pins s σ H _ I h) fun v s1 ⟨x, H1, I1, r1, q1⟩ => ?_
  obtain ⟨a, rfl, ⟨xs, ha⟩, q⟩ := q1
  cases r1
  have fp : ∀ b ∈ [s1.heap.objs.size], FpOk X pins H1 b := fun b hb => by
    have e : b = s1.heap.objs.size := by simpa using hb
    rw [e]
    exact I1.fpOk (Nat.le_refl _) (I1.hok.fresh (Nat.le_refl _))
  obtain ⟨its, rv, p, hz⟩ := I1.list (SqL.of ha)
  exact wpAny_pyIter_list p.isList ⟨_, _, _, _, H1, rfl, I1.kept (t' := s1.toks) fun b o e => Heap.get?_push_of_some _ e, turn_list a _, ⟨_, Heap.get?_push_size _ rfl, rfl, rfl⟩, fp, q⟩
theorem piT {X : Cx} {tg l : Expr} {tl : TE} (hl : PE X l tl) : PI X tg l (iT X.K tl) := by
  intro pins s σ H R I h
  refine thn (hl pins s σ H _ I h) fun v s1 ⟨x, H1, I1, r1, q1⟩ => ?_
  obtain ⟨a, rfl, ⟨xs, ha⟩, q⟩ := q1
  cases r1
  have fp : ∀ b ∈ [s1.heap.objs.size], FpOk X pins H1 b := fun b hb => by
    have e : b = s1.heap.objs.size := by simpa using hb
    rw [e]
    exact I1.fpOk (Nat.le_refl _) (I1.hok.fresh (Nat.le_refl _))
  obtain ⟨its, rv, p, hz⟩ := I1.tuple (SqT.of ha)
  exact wpAny_pyIter_tuple (show s1.heap.IsTuple a its.toArray from p) ⟨_, _, _, _, H1, rfl, I1.kept (t' := s1.toks) fun b o e => Heap.get?_push_of_some _ e, turn_tuple a _, ⟨_, Heap.get?_push_size _ rfl, rfl, rfl⟩, fp, q⟩
theorem WalkL.for {K : PySem.W.Frag} {a : Addr} {xs : List V} {g : TG} {tb : TS} {D : Ends} {σ : St} {H : Hp} (e : H a = some (.lst xs)) (Pv : Nat → St → Hp → Prop) (h0 : Pv 0 σ H) (hl : ∀ i σ H, i ≤ xs.length → Pv i σ H → H a = some (.lst xs))
    (hs : ∀ i x σ H, xs[i]? = some x → Pv i σ H → g x σ H fun σ2 H2 => tb { D with nx := Pv (i + 1), ct := Pv (i + 1), bk := D.nx } σ2 H2) (hd : ∀ σ H, Pv xs.length σ H → D.nx σ H) : WalkL K (.ref a) H fun J H1 => ForW J g tb D σ H1 :=
  ⟨a, rfl, ⟨xs, e⟩, for_list Pv h0 (fun i σ H h p => SqL.of (hl i σ H h p)) hs hd⟩
theorem WalkT.for {K : PySem.W.Frag} {a : Addr} {xs : List V} {g : TG} {tb : TS} {D : Ends} {σ : St} {H : Hp} (e : H a = some (.tup xs)) (Pv : Nat → St → Hp → Prop) (h0 : Pv 0 σ H) (hl : ∀ i σ H, i ≤ xs.length → Pv i σ H → H a = some (.tup xs))
    (hs : ∀ i x σ H, xs[i]? = some x → Pv i σ H → g x σ H fun σ2 H2 => tb { D with nx := Pv (i + 1), ct := Pv (i + 1), bk := D.nx } σ2 H2) (hd : ∀ σ H, Pv xs.length σ H → D.nx σ H) : WalkT K (.ref a) H fun J H1 => ForW J g tb D σ H1 :=
  ⟨a, rfl, ⟨xs, e⟩, for_tup Pv h0 (fun i σ H h p => SqT.of (hl i σ H h p)) hs hd⟩
/-- over a list, nothing old being changed: by what the new list's items are -/
theorem WalkL.comp {K : PySem.W.Frag} {a : Addr} {xs : List V} {caps : List Nat} {tc : TT} {te : TE} {σ : St} {H : Hp} {Q : VK} (e : H a = some (.lst xs)) (Pv : Nat → List V → Hp → Prop) (h0 : Pv 0 [] H) (hx : xs.length ≤ 100000)
    (hy : ∀ i ys H', Pv i ys H' → ys.length ≤ i)
    (hs : ∀ i x ys H', xs[i]? = some x → Same H H' → Pv i ys H' → tc (blkSt caps σ (some x)) H' fun b H2 => if b = true then te (blkSt caps σ (some x)) H2 fun y H3 => Same H H3 ∧ Pv (i + 1) (ys ++ [y]) H3 else Same H H2 ∧ Pv (i + 1) ys H2)
    (hd : ∀ p ys H1 H2, Same H H1 → Same H1 H2 → Pv xs.length ys H1 → H1 p = none → H2 p = some (.lst ys) → Q (.ref p) H2) : WalkL K (.ref a) H fun J H1 => wComp J caps tc te σ H1 Q :=
  ⟨a, rfl, ⟨xs, e⟩, comp_list (fun i ys H' => Same H H' ∧ Pv i ys H') ⟨Same.refl H, h0⟩ (small_size hx) (fun i ys H' p => hy i ys H' p.2) (fun i ys H' _ p => SqL.of (p.1 _ _ e)) (fun i x ys H' ex p => hs i x ys H' ex p.1 p.2) fun ys H' p q n => hd q ys H' _ p.1 (same_new n _) p.2 n upd_same⟩

theorem dps_le {k : Nat} : ∀ {ds : List D}, (∀ d ∈ ds, d.dp ≤ k) → D.dps ds ≤ k
  | [], _ => by simp [D.dps]
  | d :: ds, h => by
    simp only [D.dps]
    have h1 := h d (by simp)
    have h2 := dps_le (ds := ds) fun x hx => h x (by simp [hx])
    omega
end L2

namespace L2
open PySem PySem.Spec PyProof.Rows
/-! ### texts as lists of codes -/
theorem cps_append (x y : Str) : (x ++ y).cps.toList = x.cps.toList ++ y.cps.toList := by
  show (Str.append x y).cps.toList = _
  simp [Str.append]
theorem len_cps (x : Str) : x.length = x.cps.toList.length := by simp [Str.length]
theorem len_app (x y : Str) : (x ++ y).length = x.length + y.length := by rw [len_cps, len_cps, len_cps, cps_append, List.length_append]
/-! ### the reading of a text -/
theorem nameOk_len {x : Str} (h : nameOk x = true) : x.cps.toList.length ≤ 8 := by
  unfold nameOk isName at h
  simp only [Bool.and_eq_true, decide_eq_true_eq] at h
  exact h.2.1
section
variable {X : Cx}
/-! ### f-strings of texts; a try whose body refuses nothing -/
noncomputable def tFmtS (te : TE) : TE := fun σ H Q => te σ H fun v H1 => ∃ y, v = .str y ∧ y.length ≤ sizeLine ∧ Q (.str y) H1
theorem pe_fmtS {e : Expr} {te : TE} {pos : Pos} (h : PE X e te) : PE X (.FormattedValue e (-1) none pos) (tFmtS te) := by
  intro pins s σ H Q I hw
  refine wpAny_FormattedValue_plain (thn (h pins s σ H _ I hw) fun v s1 ⟨x, H1, I1, r1, q1⟩ => ?_)
  obtain ⟨y, rfl, hy, q⟩ := q1
  obtain ⟨t, rfl⟩ := r1
  exact wpAny_formatField_str ⟨.str y, H1, I1, ⟨_, rfl⟩, q⟩ ⟨.str y, H1, I1.tok _, ⟨_, rfl⟩, q⟩ hy
theorem a_tFmtS {te : TE} {σ : St} {H : Hp} {Q : VK} : tFmtS te σ H Q = (te σ H fun v H1 => ∃ y, v = .str y ∧ y.length ≤ sizeLine ∧ Q (.str y) H1) := rfl
end
end L2

/-! ### exceptions of own classes -/
namespace L2
open PySem PySem.Spec PyProof.Rows
open PySem.W (hideAll hideAll_get hideAll_none of_hideAll funFrames_hide fresh_of_stays)
theorem objOk_get {P : Program} {w : World} {H : Hp} {h : Heap} {a : Addr} : ∀ {o : HO}, ObjOk P w H h a o → ∃ ob, h.get? a = some ob
  | .lst _, x => by obtain ⟨_, _, _, _, e⟩ := x; exact ⟨_, e⟩
  | .tup _, x => by obtain ⟨_, _, _, o, e, _⟩ := x; exact ⟨_, e⟩
  | .dK _, x => by obtain ⟨_, _, _, _, o, _, _, e, _⟩ := x; exact ⟨_, e⟩
  | .dT _, x => by obtain ⟨_, _, _, _, o, _, _, e, _⟩ := x; exact ⟨_, e⟩
  | .set _ _, x => by obtain ⟨o, _, _, _, e, _⟩ := x; exact ⟨_, e⟩
  | .ins _ _ _, x => by obtain ⟨_, _, _, e, _⟩ := x; exact ⟨_, e⟩
  | .own _, x => x
  | .xd _, x => by obtain ⟨_, ⟨o, _, _, e, _⟩, _⟩ := x; exact ⟨_, e⟩
  | .met _ _, x => ⟨_, x⟩
  | .rng _ _, x => by obtain ⟨_, _, _, e⟩ := x; exact ⟨_, e⟩
  | .frz _ _, x => ⟨_, x.1⟩
  | .tbl _, x => ⟨_, x⟩
  | .ext _, x => x.2.1
/-- in flight ahead of the frames l: the exception at e, its trace at T -/
noncomputable def Flies (l : List Env) (e C T : Addr) (h : Heap) : Prop := ∃ a0, Heap.FlyingW (hideAll h (e :: T :: frs l)) l e (.ref C) a0 h
noncomputable def CXE (P : Program) (w : World) : CXT := fun outer H s E x s' => ∃ (e C T : Addr) (H' : Hp), x = .ref e ∧ Flies outer e C T s'.heap ∧ (H' e = none ∧ H' T = none ∧ s.heap.get? e = none ∧ s.heap.get? T = none) ∧
  s'.os = s.os ∧ AllBare s'.gens ∧ Un (frs outer) [] H H' s.heap s'.heap ∧ HOk P w H' s'.heap ∧ E (.ref C) none H'
theorem mem_frs {l : List Env} {env : Env} {a : Addr} (h : env ∈ l) (e : env.frame = some a) : a ∈ frs l := List.mem_filterMap.mpr ⟨env, h, e⟩
theorem Flies.mk {B h : Heap} {l : List Env} {e C : Addr} {a0 : Value} (f : Heap.FlyingW B l e (.ref C) a0 h) : ∃ T, B.get? T = none ∧ Flies l e C T h ∧ ∃ oT ts, h.get? T = some oT ∧ oT.data = .fields ts := by
  obtain ⟨f1, f2, f3, oe, vs, T, oT, ts, a1, a2, a3, a4, a5, a6, a7, a8, a9⟩ := f
  exact ⟨T, a5, ⟨a0, fun b o q => of_hideAll _ q, hideAll_none _ (by simp), funFrames_hide f3 (fun env he a ha => by simp [mem_frs he ha]), oe, vs, T, oT, ts, a1, a2, a3, a4, hideAll_none _ (by simp), a6, a7, a8, a9⟩, oT, ts, a7, a8⟩
/-- what an exception that leaves a frame makes of the heap -/
structure Left (l : List Env) (hid : List Addr) (h h' : Heap) : Prop where
  keep : ∀ b o, h.get? b = some o → b ∉ hid → b ∉ frs l → h'.get? b = some o
  slot : ∀ b o, h.get? b = some o → b ∈ frs l → ∃ sl, h'.get? b = some { o with slots := sl }
section
variable {X : Cx} {pins : List (Addr × Obj)} {σ : St} {H : Hp} {s : Shared}
theorem Inv.fr_there (I : Inv X pins σ H s) {b : Addr} (hb : b ∈ frs X.stack) : ∃ o, s.heap.get? b = some o ∧ ∀ vs, o.data ≠ .fields vs := by
  obtain ⟨_, o, ho, hn⟩ := I.stack.mem hb
  exact ⟨o, ho, hn⟩
/-- the wish of a body whose exceptions leave -/
structure Lv (X : Cx) (E : XK) : Prop where
  stk : X.stack = X.env :: X.outer
  fr : X.env.frame = some X.env.locals
  ex : X.ex = []
  xe : ∀ x s', wpAny (model X.prog X.w) X.A (leaving X.env x) (fun _ s'' => CXE X.prog X.w X.outer X.H₀ X.s₀ E x s'') (fun _ _ => False) s' → X.xe x s'
theorem left_ok (L : Lv X E) {H' : Hp} {h1 h' : Heap} {s1 : Shared} {e C T0 : Addr} {a0 : Value} (I : Inv X pins σ H s) (un : Un (frs X.stack) [] H H' s.heap h1) (hok : HOk X.prog X.w H' h1)
    (ne : H' e = none) (nT : H' T0 = none) (ge : s.heap.get? e = none) (gT : s.heap.get? T0 = none) (fl : Heap.FlyingW (hideAll h1 (e :: T0 :: frs X.stack)) X.outer e (.ref C) a0 h')
    (sm : h1.UpToSlots h') (os : s1.os = s.os) (bare : AllBare s1.gens) (q : E (.ref C) none H') : CXE X.prog X.w X.outer X.H₀ X.s₀ E (.ref e) { s1 with heap := h' } := by
  have ex := L.ex
  have hstk := L.stk
  have fs : frs X.stack = X.env.locals :: X.fs := by rw [hstk]; show List.filterMap _ _ = _; rw [List.filterMap_cons_some L.fr]; rfl
  have stay : ∀ b o, h1.get? b = some o → b ≠ e → b ≠ T0 → b ∉ frs X.stack → h'.get? b = some o := fun b o q n1 n2 n3 => fl.1 b o (hideAll_get _ q (by simp [n1, n2, n3]))
  have frd : ∀ b ∈ frs X.stack, ∃ o, h1.get? b = some o ∧ ∀ vs, o.data ≠ .fields vs := fun b hb => by
    obtain ⟨o, ho, hn⟩ := I.fr_there hb
    obtain ⟨sl, e1⟩ := un.any ho (I.stkFree b hb) (by simp)
    exact ⟨_, e1, hn⟩
  have frn : ∀ b ∈ frs X.stack, H' b = none := fun b hb => by
    obtain ⟨o, ho, hn⟩ := I.fr_there hb
    exact un.free b o ho (I.stkFree b hb) (by simp)
  obtain ⟨T, hB, F, oT, ts, hT, dT⟩ := Flies.mk fl
  have old : ∀ b o, X.s₀.heap.get? b = some o → ∃ o', s.heap.get? b = some o' := fun b o q => I.base.there b o q (by rw [ex]; simp)
  have T_hid : ∀ o, h1.get? T = some o → T = e ∨ T = T0 ∨ T ∈ frs X.stack := fun o ho => by
    by_cases h1e : T = e
    · exact .inl h1e
    by_cases h2e : T = T0
    · exact .inr (.inl h2e)
    by_cases h3e : T ∈ frs X.stack
    · exact .inr (.inr h3e)
    · rw [hideAll_get _ ho (by simp [h1e, h2e, h3e])] at hB; cases hB
  have T_fr : ¬ T ∈ frs X.stack := fun hb => by
    obtain ⟨o, ho, hn⟩ := frd T hb
    obtain ⟨sl, e1⟩ := sm T o ho hn
    rw [hT] at e1
    cases e1
    exact hn _ dT
  refine ⟨e, C, T, H', rfl, F, ⟨ne, ?_, ?_, ?_⟩, ?_, bare, ?_, ?_, q⟩
  · cases hh : H' T with
    | none => rfl
    | some o =>
      obtain ⟨ob, hob⟩ := objOk_get (hok T o hh)
      rcases T_hid ob hob with z | z | z
      · rw [z, ne] at hh; cases hh
      · rw [z, nT] at hh; cases hh
      · exact absurd z T_fr
  · cases hh : X.s₀.heap.get? e with
    | none => rfl
    | some o => obtain ⟨o', h2⟩ := old e o hh; rw [ge] at h2; cases h2
  · cases hh : X.s₀.heap.get? T with
    | none => rfl
    | some o =>
      obtain ⟨o', h2⟩ := old T o hh
      obtain ⟨o2, h3⟩ := un.there T o' h2 (by simp)
      rcases T_hid o2 h3 with z | z | z
      · rw [z, ge] at h2; cases h2
      · rw [z, gT] at h2; cases h2
      · exact absurd z T_fr
  · exact os.trans I.os
  · have nl : ∀ b o, X.s₀.heap.get? b = some o → b ≠ X.env.locals := fun b o q z => by
      have h1 := Heap.lt_size q
      have h2 := I.ok.above
      exact absurd (Nat.lt_of_lt_of_le h1 h2) (by rw [z]; exact Nat.lt_irrefl _)
    refine ⟨fun b o q n hb _ => ?_, fun b o q n hb _ => ?_, fun b o q n _ => ?_, fun b o q _ => ?_, fun b xs q => un.tups b xs (I.base.tups b xs q), fun b o u q => un.frzs b o u (I.base.frzs b o u q), fun b ps q => ?_⟩
    · have k1 := I.base.keep b o q n hb (by rw [ex]; simp)
      have n1 := I.base.free b o q n (by rw [ex]; simp)
      have hb' : b ∉ frs X.stack := by rw [fs]; simp [nl b o q]; exact hb
      have k2 := un.keep b o k1 n1 hb' (by simp)
      exact stay b o k2 (fun z => by rw [z, ge] at k1; cases k1) (fun z => by rw [z, gT] at k1; cases k1) hb'
    · obtain ⟨sl, k1⟩ := I.base.slot b o q n hb (by rw [ex]; simp)
      have n1 := I.base.free b o q n (by rw [ex]; simp)
      have hb' : b ∈ frs X.stack := by rw [fs]; exact List.mem_cons_of_mem _ hb
      obtain ⟨sl2, k2⟩ := un.slot b _ k1 n1 hb' (by simp)
      obtain ⟨o', ho', hn'⟩ := frd b hb'
      rw [k2] at ho'
      cases ho'
      obtain ⟨sl3, k3⟩ := sm b _ k2 hn'
      exact ⟨sl3, k3⟩
    · obtain ⟨o', h2⟩ := old b o q
      exact un.free b o' h2 (I.base.free b o q n (by rw [ex]; simp)) (by simp)
    · obtain ⟨o', h2⟩ := old b o q
      obtain ⟨o2, h3⟩ := un.there b o' h2 (by simp)
      by_cases hb : b ∈ frs X.stack
      · obtain ⟨o3, ho3, hn3⟩ := frd b hb
        obtain ⟨sl, k⟩ := sm b o3 ho3 hn3
        exact ⟨_, k⟩
      · exact ⟨o2, stay b o2 h3 (fun z => by rw [z, ge] at h2; cases h2) (fun z => by rw [z, gT] at h2; cases h2) hb⟩
    · obtain ⟨m1, e1⟩ := I.base.tbls b ps q
      obtain ⟨m2, e2⟩ := un.tbls b _ e1
      exact ⟨m1 ++ m2, by rw [e2, Array.append_assoc]⟩
  · intro a o ho
    refine (hok a o ho).stay (fun b u hb q => ?_) (fun _ z => z) fun _ _ z => z
    have hb' : H' b ≠ none := by
      rcases hb with z | z
      · rw [z, ho]; simp
      · rw [z]; simp
    exact stay b u q (fun z => hb' (by rw [z]; exact ne)) (fun z => hb' (by rw [z]; exact nT)) fun z => hb' (frn b z)
end
end L2

namespace L2
open PySem PySem.Spec PyProof.Rows
open PySem.W (hideAll hideAll_get hideAll_none of_hideAll funFrames_hide fresh_of_stays flyingW_base)
/-! ### own error classes under ValueError -/
abbrev bmV : List Value := [.type "ValueError", .type "Exception", .type "BaseException", .type "object"]
noncomputable def ErrAt (K : PySem.W.Frag) (C : Addr) : Prop := PySem.W.excIn K C bmV "ValueError.__new__" = true
/-- C is F or stands under it -/
noncomputable def subOf (K : PySem.W.Frag) (C F : Addr) : Bool := match K.lookup C with
  | some ⟨_, _, .cls cd, _⟩ => cd.mro.contains (.ref F)
  | _ => false
theorem ErrAt.obj {K : PySem.W.Frag} {h : Heap} {C : Addr} (q : ErrAt K C) (X : K.In h) : ∃ bm N nm q bs hdct sn sub ab col dd k0 k1 k2 k3 k5 mN, h.get? C = some (excClassObj nm q C N bs bm hdct sn sub ab col dd k0 k1 k2 k3 k5 "ValueError.__new__") ∧ h.Ns N mN ∧ mN "__init__" = none ∧ OwnTail h bmV bm ∧
    ∀ F, subOf K C F = (Value.ref C :: bm).contains (.ref F) := by
  have q : PySem.W.excIn K C bmV "ValueError.__new__" = true := q
  unfold PySem.W.excIn at q
  split at q
  · rename_i dd cd sl lk
    split at q
    · rename_i C' bm k0 k1 k2 k3 nid k5 em es
      simp only [beq_iff_eq, Bool.and_eq_true, Bool.not_eq_true'] at q
      obtain ⟨⟨⟨⟨⟨q1, q2⟩, q3⟩, q4⟩, q5⟩, q6⟩ := q
      cases q1
      cases q2
      cases cd with
      | mk nm bs mro ns qn hd sn sub ab col del =>
        simp only at em q3 q5 q6
        cases em
        cases q3
        have hs : sl = #[k0, k1, k2, k3, some (.builtin "ValueError.__new__"), k5] := by
          cases sl with
          | mk l => simp only at es; rw [es]
        cases hs
        exact ⟨bm, ns, nm, qn, bs, hd, sn, sub, ab, col, dd, k0, k1, k2, k3, k5, _, X _ _ lk, Heap.Ns.of_isNs (PySem.W.isNs_of_in X q5), PySem.W.nsMap_none_of_in X q5 q6, PySem.W.tail_of_in X q4, fun F => by unfold subOf; rw [lk]⟩
    · cases q
  · cases q
theorem ErrAt.own {K : PySem.W.Frag} {h : Heap} {mg : Str → Option Value} {x : Str} {C : Addr} (q : ErrAt K C) (X : K.In h) (e : mg x = some (.ref C)) : OwnCls x C bmV "ValueError.__new__" mg h := by
  obtain ⟨bm, N, nm, qn, bs, hdct, sn, sub, ab, col, dd, k0, k1, k2, k3, k5, mN, hC, hN, hni, TL, _⟩ := q.obj X
  exact ⟨e, bm, N, nm, qn, bs, hdct, sn, sub, ab, col, dd, k0, k1, k2, k3, k5, mN, hC, hN, hni, TL⟩
section
variable {X : Cx} {E : XK}
theorem gone {P : Program} {w : World} {H : Hp} {h : Heap} {a : Addr} (hok : HOk P w H h) (e : h.get? a = none) : H a = none := by
  cases q : H a with
  | none => rfl
  | some o => obtain ⟨ob, hb⟩ := objOk_get (hok a o q); rw [e] at hb; cases hb
theorem hide_less {h : Heap} {xs ys : List Addr} (s : ∀ a ∈ ys, a ∈ xs) : (hideAll h xs).StaysIn (hideAll h ys) := fun b o q => by
  have hb : b ∉ xs := fun z => by rw [hideAll_none _ z] at q; cases q
  exact hideAll_get _ (of_hideAll _ q) fun z => hb (s b z)
/-! ### raise C(..) -/
noncomputable def tRaise (C : Addr) (E : XK) (ta : TA) : TS := fun _ σ H => ta σ H fun vs H1 => vs.length ≤ sizeLine ∧ E (.ref C) none H1
theorem a_tRaise {C : Addr} {E : XK} {ta : TA} {D : Ends} {σ : St} {H : Hp} : tRaise C E ta D σ H = (ta σ H fun vs H1 => vs.length ≤ sizeLine ∧ E (.ref C) none H1) := rfl
theorem ps_raise {x : Str} {C : Addr} {e0 : Expr} {es : List Expr} {ta : TA} {np cpos pos : Pos} (L : Lv X E) (hg : Gl X x) (hm : X.mg x = some (.ref C)) (q : ErrAt X.K C) (hc : X.calm = true) (ha : PA X (e0 :: es) ta)
    (hdb : (x == ("__debug__" : Str)) = false := by decide) (he : starEach (e0 :: es) X.env = (false, eval e0 X.env) :: starEach es X.env := by rfl) (hpl : (backTo cpos (starEach es X.env)).any (·.1) = false := by rfl) :
    PS X (.Raise (some (.Call (.Name x np) (e0 :: es) [] cpos)) none pos) (tRaise C E ta) := by
  intro pins s σ H D I h
  have O := q.own I.ok.mod.kin hm
  obtain ⟨bm, N, nm, qn, bs, hdct, sn, sub, ab, col, dd, k0, k1, k2, k3, k5, mN, hC, hN, hni, TL⟩ := O.obj
  refine wpAny_Raise_call_subT (C := C) (nm := nm) (q := qn) (N := N) (bs := bs) (bm := bm) (hdct := hdct) (sn := sn) (sub := sub) (ab := ab) (col := col) (dd := dd) (k0 := k0) (k1 := k1) (k2 := k2) (k3 := k3) (k5 := k5)
    PySem.F.excBase_ValueError (mN := mN) (TL.hasType PySem.F.excBase_ValueError.hasBase) (I.ok.hd hc) (by rw [he]; show (false || (backTo cpos (starEach es X.env)).any (·.1)) = false; rw [hpl]; rfl) hni (ld_glob I hg hm ⟨rfl, ?_⟩ hdb)
  have z := ha cpos pins s σ H _ I h
  rw [he] at z ⊢
  refine Calls.evalArgs_plain (wpAny_mono z (fun us s2 ⟨vs, H2, I2, r, hl, qE⟩ => ⟨rfl, by rw [← r.length]; exact hl, I2.bk _ _ hC, hN.keeps I2.bk, TL.keeps I2.bk, fun h' e hx => ?_⟩) fun _ _ y => y)
  refine L.xe _ _ ?_
  have hin : ∀ env ∈ X.env :: X.outer, ∀ a, env.frame = some a → a ∈ frs X.stack := fun env he a ha => by rw [L.stk]; exact mem_frs he ha
  have fun2 : s2.heap.FunFrames (hideAll s2.heap (frs X.stack)) (X.env :: X.outer) := funFrames_hide (L.stk ▸ I2.stack) hin
  refine wpAny_leaves_madeW (base := hideAll s2.heap (frs X.stack)) (h := s2.heap) (by rw [I2.ok.frames, L.stk]) L.fr (fun b o q => of_hideAll _ q) fun2 hx fun h2 t fl _ _ sm => ?_
  have ne := gone I2.hok hx.new
  exact left_ok (s1 := s2) L I2 Un.refl I2.hok ne ne hx.new hx.new (flyingW_base (hide_less (by intro a ha; simp [ha])) fl) ((Heap.UpToSlots.of_keeps hx.keeps).trans sm) rfl I2.bare qE
end
/-! ### a def that may refuse -/
section
variable {P : Program} {w : World} {K : PySem.W.Frag} {mg : Str → Option Value} {base : Heap}
theorem Fun.okE {x qual : Str} {st : Stmt} {f : Addr} {fd : FuncData} {N ps : List Str} {k : Nat} {sp : Sp} (F : Fun K x qual st f fd) (S : FnScope N ps (defScope st)) (len : ∀ vs H Q E, sp vs H Q E → vs.length = ps.length)
    (hbody : ∀ (cdv : Value) (A : Around) (outer : List Env) (s : Shared) (H : Hp) (vs : List V) (Q : VK) (E : XK), Room k (A.deeper (envOfC qual (defScope st) s.heap.objs.size f cdv)) → sp vs H Q E →
      Lv (cxOf (CXE P w) P w K mg base N qual (defScope st) f cdv A outer s H E) E →
      ∃ t, PSs (cxOf (CXE P w) P w K mg base N qual (defScope st) f cdv A outer s H E) (defBody st) t ∧ t { nx := fun _ H' => Q .non H', rt := Q } (start N vs) H) : FnOk P w K mg base (CXE P w) (k + 1) f fd ps sp := by
  obtain ⟨oc, od, kV, doc, pm, an, cdv, ct, osl, rfl, lk, hcd⟩ := F.ex
  refine fn_of lk hcd S len fun A outer s H vs Q E hr hsp => hbody cdv A outer s H vs Q E hr hsp ⟨rfl, rfl, rfl, fun x s' h => wpAny_mono h (fun _ _ z => z) fun _ _ z => z.elim⟩
end
end L2

namespace L2
open PySem PySem.Spec PyProof.Rows
open PySem.W (hideAll hideAll_get hideAll_none of_hideAll funFrames_hide fresh_of_stays flyingW_base)
/-! ### a call within a try -/
noncomputable def tCallJ (J : St → Prop) (sp : Sp) (dvs : List V) (E : XK) (t : TA) : TE := fun σ H Q => t σ H fun vs H1 => J σ ∧ sp (vs ++ dvs) H1 Q E
theorem a_tCallJ {J : St → Prop} {sp : Sp} {dvs : List V} {E : XK} {t : TA} {σ : St} {H : Hp} {Q : VK} : tCallJ J sp dvs E t σ H Q = (t σ H fun vs H1 => J σ ∧ sp (vs ++ dvs) H1 Q E) := rfl
section
variable {X : Cx} {CX : CXT} {k : Nat} {f : Addr} {fd : FuncData} {ps : List Str} {sp : Sp} {dvs : List V} {ds : List Value} {E : XK} {x : Str} {p pos : Pos} {e : Expr} {es : List Expr} {t : TA} {J : St → Prop}
noncomputable def PassJ (CX : CXT) (X : Cx) (J : St → Prop) (E : XK) : Prop := ∀ (pins : List (Addr × Obj)) (σ : St) (H : Hp) (s : Shared) (e : Value) (s' : Shared), Inv X pins σ H s → J σ → CX X.stack H s E e s' → X.xe e s'
theorem pe_callJ (F : FnOk X.prog X.w X.K X.mg X.base CX k f fd ps sp) (hr : Room k X.A) (hg : Gl X x) (hm : X.mg x = some (.ref f)) (hk : PySem.W.keepIn X.K (.ref f) = true) (hb : Binds X.K fd ps ds) (hd : Vals dvs ds) (hx : PassJ CX X J E)
    (ha : PA X (e :: es) t) (hdb : (x == ("__debug__" : Str)) = false := by decide) (he : starEach (e :: es) X.env = (false, eval e X.env) :: starEach es X.env := by rfl) (hpl : (backTo pos (starEach es X.env)).any (·.1) = false := by rfl) :
    PE X (.Call (.Name x p) (e :: es) [] pos) (tCallJ J sp dvs E t) := by
  intro pins s σ H Q I h
  refine wpAny_Call_Name_kw (ld_glob I hg hm ?_ hdb)
  refine PySem.W.callWith_K (h₀ := X.base) I.ok.mod.kin hk (thn (ha pos pins s σ H _ I h) fun us s1 ⟨vs, H1, I1, r, hj, q⟩ => ⟨I1.kIn, ?_⟩) he hpl
  have r2 : Vals (vs ++ dvs) (us ++ ds) := r.append hd
  have hl : (us ++ ds).length = ps.length := by rw [← r2.length]; exact F.len _ _ _ _ q
  refine wpAny_call (codeAny_mono (F.run X.A X.stack s1 H1 ⟨us, []⟩ (us ++ ds) (vs ++ dvs) Q E hr I1.env0 (hb s1 us I1.kIn hl) r2 q) fun r s' hq => ?_)
  cases r with
  | error e => exact hx pins σ H1 s1 e s' I1 hj hq
  | ok fl =>
    cases fl with
    | ret u => exact I1.after hq
    | next => exact False.elim hq
    | brk => exact False.elim hq
    | cont => exact False.elim hq
end
/-! ### contexts -/
section
variable {X : Cx} {pins pn : List (Addr × Obj)} {σ : St} {H : Hp} {s : Shared} {E : XK}
noncomputable abbrev Cx.pinned (X : Cx) (pn : List (Addr × Obj)) : Cx := { X with pn := X.pn ++ pn }
theorem Cx.Ok.pinned (ok : X.Ok) (pn : List (Addr × Obj)) : (X.pinned pn).Ok :=
  ⟨ok.mod, ok.kind, ok.glob, ok.blt, ok.above, ok.inj, ok.has, ok.cab, ok.hd, ok.frames, ok.stk, ok.exf, ok.bs, ok.bsz, ok.noex, ok.exfs, ok.funs, ok.frf⟩
theorem Cx.Ok.unpinned (ok : (X.pinned pn).Ok) : X.Ok :=
  ⟨ok.mod, ok.kind, ok.glob, ok.blt, ok.above, ok.inj, ok.has, ok.cab, ok.hd, ok.frames, ok.stk, ok.exf, ok.bs, ok.bsz, ok.noex, ok.exfs, ok.funs, ok.frf⟩
theorem Inv.topn (I : Inv X pins σ H s) : Inv (X.pinned pins) [] σ H s := ⟨I.ok.pinned _, I.os, I.bare, I.base, I.loc, I.cell, I.free, I.freeC, fun p hp => I.pin p (by simpa using hp), I.hok, I.len⟩
theorem Inv.unpn (I : Inv (X.pinned pn) pins σ H s) : Inv X pn σ H s := ⟨I.ok.unpinned, I.os, I.bare, I.base, I.loc, I.cell, I.free, I.freeC, fun p hp => I.pin p (List.mem_append_left _ hp), I.hok, I.len⟩
noncomputable abbrev Cx.tryB (X : Cx) (pn : List (Addr × Obj)) (J : St → Prop) (E : XK) : Cx :=
  (X.pinned pn).wish fun x s' => ∃ pins σ H s, Inv (X.pinned pn) pins σ H s ∧ J σ ∧ CXE X.prog X.w X.stack H s E x s'
theorem passJ {J : St → Prop} : PassJ (CXE X.prog X.w) (X.tryB pn J E) J E := fun pins σ H s _ _ I j h => ⟨pins, σ, H, s, I.unwish, j, h⟩
theorem SP.untry {J : St → Prop} {D : Ends} {f : Flow} {s' : Shared} (h : SP (X.tryB pn J E) pins D f s') : SP X pn D f s' := by
  cases f with
  | next => obtain ⟨σ', H', I, q⟩ := h; exact ⟨σ', H', I.unwish.unpn, q⟩
  | brk => obtain ⟨σ', H', I, q⟩ := h; exact ⟨σ', H', I.unwish.unpn, q⟩
  | cont => obtain ⟨σ', H', I, q⟩ := h; exact ⟨σ', H', I.unwish.unpn, q⟩
  | ret u => obtain ⟨v, σ', H', I, r, q⟩ := h; exact ⟨v, σ', H', I.unwish.unpn, r, q⟩
/-- within an except suite of the exception at e; nothing leaves it -/
noncomputable abbrev Cx.hnd (X : Cx) (e : Addr) : Cx := { X with A := X.A.mark (some (.ref e)), calm := false, xe := fun _ _ => False }
theorem Cx.Ok.hnd (ok : X.Ok) (e : Addr) : (X.hnd e).Ok :=
  ⟨ok.mod, ok.kind, ok.glob, ok.blt, ok.above, ok.inj, ok.has, ok.cab, fun z => (Bool.false_ne_true z).elim, ok.frames, ok.stk, ok.exf, ok.bs, ok.bsz, ok.noex, ok.exfs, ok.funs, ok.frf⟩
theorem Inv.hnd (I : Inv X pins σ H s) (e : Addr) : Inv (X.hnd e) pins σ H s := ⟨I.ok.hnd e, I.os, I.bare, I.base, I.loc, I.cell, I.free, I.freeC, I.pin, I.hok, I.len⟩
theorem Inv.unhnd {e : Addr} (ok : X.Ok) (I : Inv (X.hnd e) pins σ H s) : Inv X pins σ H s := ⟨ok, I.os, I.bare, I.base, I.loc, I.cell, I.free, I.freeC, I.pin, I.hok, I.len⟩
/-- the heap behind an exception that is taken here -/
theorem fly_keep {H' : Hp} {h1 h' : Heap} {e C T0 : Addr} {a0 : Value} {l : List Env} (I : Inv X pins σ H s) (un : Un (frs X.stack) [] H H' s.heap h1) (hok : HOk X.prog X.w H' h1)
    (ne : H' e = none) (nT : H' T0 = none) (ge : s.heap.get? e = none) (gT : s.heap.get? T0 = none) (fl : Heap.FlyingW (hideAll h1 (e :: T0 :: frs X.stack)) l e (.ref C) a0 h') (sm : h1.UpToSlots h') :
    Un (frs X.stack) [] H H' s.heap h' ∧ HOk X.prog X.w H' h' := by
  have stay : ∀ b o, h1.get? b = some o → b ≠ e → b ≠ T0 → b ∉ frs X.stack → h'.get? b = some o := fun b o q n1 n2 n3 => fl.1 b o (hideAll_get _ q (by simp [n1, n2, n3]))
  have frd : ∀ b ∈ frs X.stack, ∃ o, h1.get? b = some o ∧ ∀ vs, o.data ≠ .fields vs := fun b hb => by
    obtain ⟨o, ho, hn⟩ := I.fr_there hb
    obtain ⟨sl, e1⟩ := un.any ho (I.stkFree b hb) (by simp)
    exact ⟨_, e1, hn⟩
  have frn : ∀ b ∈ frs X.stack, H' b = none := fun b hb => by
    obtain ⟨o, ho, hn⟩ := I.fr_there hb
    exact un.free b o ho (I.stkFree b hb) (by simp)
  refine ⟨⟨fun b o q n hb hx => ?_, fun b o q n hb hx => ?_, un.free, fun b o q hx => ?_, un.tups, un.frzs, un.tbls⟩, fun a o ho => ?_⟩
  · exact stay b o (un.keep b o q n hb hx) (fun z => by rw [z, ge] at q; cases q) (fun z => by rw [z, gT] at q; cases q) hb
  · obtain ⟨sl, k2⟩ := un.slot b o q n hb hx
    obtain ⟨o', ho', hn'⟩ := frd b hb
    rw [k2] at ho'
    cases ho'
    obtain ⟨sl3, k3⟩ := sm b _ k2 hn'
    exact ⟨sl3, k3⟩
  · obtain ⟨o2, h3⟩ := un.there b o q hx
    by_cases hb : b ∈ frs X.stack
    · obtain ⟨o3, ho3, hn3⟩ := frd b hb
      obtain ⟨sl, k⟩ := sm b o3 ho3 hn3
      exact ⟨_, k⟩
    · exact ⟨o2, stay b o2 h3 (fun z => by rw [z, ge] at q; cases q) (fun z => by rw [z, gT] at q; cases q) hb⟩
  · refine (hok a o ho).stay (fun b u hb q => ?_) (fun _ z => z) fun _ _ z => z
    have hb' : H' b ≠ none := by
      rcases hb with z | z
      · rw [z, ho]; simp
      · rw [z]; simp
    exact stay b u q (fun z => hb' (by rw [z]; exact ne)) (fun z => hb' (by rw [z]; exact nT)) fun z => hb' (frn b z)
/-- an exception that is held by a name -/
noncomputable def ExcO (e C : Addr) : HO := .ext fun h => ∃ ob, h.get? e = some ob ∧ ob.cls = .ref C
theorem exc_inv {H' : Hp} {s1 : Shared} {h1 h' : Heap} {e C T0 : Addr} {a0 : Value} {l : List Env} (I : Inv X pins σ H s) (un : Un (frs X.stack) [] H H' s.heap h1) (hok : HOk X.prog X.w H' h1)
    (ne : H' e = none) (nT : H' T0 = none) (ge : s.heap.get? e = none) (gT : s.heap.get? T0 = none) (fl : Heap.FlyingW (hideAll h1 (e :: T0 :: frs X.stack)) l e (.ref C) a0 h') (sm : h1.UpToSlots h') (os : s1.os = s.os) (bare : AllBare s1.gens) :
    Inv X pins σ H' { s1 with heap := h' } ∧ Inv X pins σ (upd H' e (ExcO e C)) { s1 with heap := h' } := by
  obtain ⟨u, k⟩ := fly_keep I un hok ne nT ge gT fl sm
  obtain ⟨ob, hob, hoc⟩ := fl.there
  have k2 : HOk X.prog X.w (upd H' e (ExcO e C)) h' := k.adopt ne ⟨⟨ob, hob, hoc⟩, ⟨ob, hob⟩, fun h1 h2 ⟨o, h, c⟩ st => ⟨o, st o h, c⟩⟩
  have u2 : Un (frs X.stack) [] H (upd H' e (ExcO e C)) s.heap h' := by
    refine ⟨u.keep, u.slot, fun b o q n hx => ?_, u.there, fun b xs q => ?_, fun b o w q => ?_, fun b ps q => ?_⟩
    · rw [upd_ne (fun z => by rw [z, ge] at q; cases q)]; exact u.free b o q n hx
    · have := u.tups b xs q
      rw [upd_ne (ne_of_none this ne)]; exact this
    · have := u.frzs b o w q
      rw [upd_ne (ne_of_none this ne)]; exact this
    · obtain ⟨more, this⟩ := u.tbls b ps q
      exact ⟨more, by rw [upd_ne (ne_of_none this ne)]; exact this⟩
  exact ⟨I.call' (s' := { s1 with heap := h' }) os u k bare (by simp), I.call' (s' := { s1 with heap := h' }) os u2 k2 bare (by simp)⟩
end
/-! ### which clause takes it -/
theorem excMatch_own {M : Model} {A : Around} {E : Value → Shared → Prop} {s : Shared} {Q : Bool → Shared → Prop} {K : PySem.W.Frag} {e C F : Addr} {ob : Obj} (X : K.In s.heap) (qC : ErrAt K C) (qF : ErrAt K F) (he : s.heap.get? e = some ob) (hc : ob.cls = .ref C)
    (hq : Q (subOf K C F) s) : wpAny M A (excMatches (.ref e) (.ref F)) Q E s := by
  obtain ⟨bm, N, nm, qn, bs, hdct, sn, sub, ab, col, dd, k0, k1, k2, k3, k5, mN, hC, hN, hni, TL, hS⟩ := qC.obj X
  obtain ⟨bm', N', nm', qn', bs', hdct', sn', sub', ab', col', dd', j0, j1, j2, j3, j5, mN', hF, _, _, TL', _⟩ := qF.obj X
  have hB : (Value.ref F :: bm').contains (.type "BaseException") = true := by rw [List.contains_cons, TL'.hasType PySem.F.excBase_ValueError.hasBase, Bool.or_true]
  have f := tc_notTuple
  rw [hS] at hq
  obtain ⟨h, g, d, t, os⟩ := s
  generalize hb : (Value.ref C :: bm).contains (.ref F) = b at hq
  unfold excMatches
  repeat (first | (with_reducible refine wpAny_loadPart_at he ?_; rw [hc]) | with_reducible refine wpAny_loadPart_at hF ?_ | with_reducible refine wpAny_loadPart_at hC ?_ | (with_reducible refine wpAny_isSubtype_exc hF ?_; rw [hB]) | (with_reducible refine wpAny_isSubtype_exc hC ?_; rw [hb]) | wp_step)
  cases b <;> (wp_walk; exact hq)
end L2

namespace L2
open PySem PySem.Spec PyProof.Rows
open PySem.W (hideAll hideAll_get hideAll_none of_hideAll funFrames_hide fresh_of_stays flyingW_base)
section
variable {X : Cx} {pins : List (Addr × Obj)} {σ : St} {H : Hp} {s : Shared}
/-- a local name goes -/
theorem Inv.unbind {i : Nat} {n : Str} {u : Option Value} {h' : Heap} {t' : Nat} {m : Str → Option Value} (I : Inv X pins σ H s) (hN : X.N.Nodup) (hi : X.N[i]? = some n)
    (hl : ∀ (i : Nat) (x : Str) (v : V), X.N[i]? = some x → σ[i]? = some (some v) → Vis X.env.scope x → ∃ u, RelV v u ∧ Look X.env s.heap m x u)
    (hn : s.heap.Ns X.env.locals m) (hn' : h'.Ns X.env.locals (fun x => if x = n then u else m x)) (hs : Heap.SameBut X.env.locals s.heap h') : Inv X pins (σ.set i none) H { s with heap := h', toks := t' } := by
  have cne := I.cne
  obtain ⟨oL, _, _, hoL, _⟩ := id hn
  have old : ∀ b o, X.s₀.heap.get? b = some o → b ≠ X.env.locals := fun b o e => Nat.ne_of_lt (Nat.lt_of_lt_of_le (Heap.lt_size e) I.ok.above)
  have hiσ : i < σ.length := by rw [I.len]; exact (List.getElem?_eq_some_iff.mp hi).1
  refine ⟨I.ok, I.os, I.bare, ⟨fun b o e n hb hx => (hs.2 b (old b o e)).trans (I.base.keep b o e n hb hx), fun b o e n hb hx => ?_, I.base.free, fun b o e hx => ?_, I.base.tups, I.base.frzs, I.base.tbls⟩, ⟨_, hn', fun j y v' e1 e2 e3 => ?_⟩, fun y c e => ?_, I.free, I.freeC, fun p hp => ?_, fun b ob e => ?_, by simpa using I.len⟩
  · obtain ⟨sl, e1⟩ := I.base.slot b o e n hb hx
    exact ⟨sl, (hs.2 b (old b o e)).trans e1⟩
  · obtain ⟨o', e1⟩ := I.base.there b o e hx
    exact ⟨o', (hs.2 b (old b o e)).trans e1⟩
  · by_cases hj : j = i
    · subst hj
      rw [List.getElem?_set_self hiσ] at e2
      cases e2
    · rw [List.getElem?_set_ne (Ne.symm hj)] at e2
      obtain ⟨u', r', q⟩ := hl j y v' e1 e2 e3
      refine ⟨u', r', ?_⟩
      rcases q with ⟨k, e⟩ | ⟨k, c, e, z⟩
      · refine .inl ⟨k, ?_⟩
        have : y ≠ n := fun e => hj (nodup_ix hN e1 (e ▸ hi))
        simp [this, e]
      · exact .inr ⟨k, c, e, z.sameBut hs (cne y c e)⟩
  · obtain ⟨w', z⟩ := I.cell y c e
    exact ⟨w', z.sameBut hs (cne y c e)⟩
  · obtain ⟨e, n, ne, nf, d⟩ := I.pin p hp
    exact ⟨(hs.2 p.1 ne).trans e, n, ne, nf, d⟩
  · refine (I.hok b ob e).stay (fun c w' hc q => (hs.2 c ?_).trans q) (fun _ q => q) fun _ _ q => q
    rintro rfl
    rcases hc with rfl | hc
    · rw [I.free] at e; cases e
    · rw [I.free] at hc; cases hc
theorem name_goes {M : Model} {A : Around} {E : Value → Shared → Prop} {i : Nat} {n : Str} {pos : Pos} {Q : Unit → Shared → Prop} (I : Inv X pins σ H s) (hN : X.N.Nodup) (hi : X.N[i]? = some n) (hk : X.env.scope.names.lookup n = some .local)
    (h : ∀ s', Inv X pins (σ.set i none) H s' → Q () s') : wpAny M A (do bindName X.env n .none; unbindBehindTheSuite X.env n pos) Q E s := by
  obtain ⟨m, hn, hl⟩ := id I.loc
  have hcls : (X.env.scope.kind == .class || (X.env.scope.kind == .module && X.env.locals != X.env.globals)) = false := by rw [I.ok.kind]; rfl
  exact wpAny_nameGoes_keeps hk hn hcls fun h' v hn' hs => h _ (I.unbind hN hi hl hn hn' hs)
/-! ### try: except F as n -/
noncomputable def endsA (i : Nat) (D : Ends) : Ends := { nx := fun σ H => D.nx (σ.set i none) H, rt := D.rt, bk := fun σ H => D.bk (σ.set i none) H, ct := fun σ H => D.ct (σ.set i none) H }
noncomputable def EhA (K : PySem.W.Frag) (CF : Addr) (i : Nat) (J : St → St → Prop) (ts : TS) (D : Ends) (σ0 : St) : XK := fun Cv _ H' => ∃ C, Cv = .ref C ∧ ErrAt K C ∧ subOf K C CF = true ∧ ∀ σ' e, J σ0 σ' → H' e = none → ts (endsA i D) (σ'.set i (some (.ref e))) (upd H' e (ExcO e C))
noncomputable def tTry (tb : Ends → St → TS) : TS := fun D σ H => tb D σ D σ H
theorem a_tTry {tb : Ends → St → TS} {D : Ends} {σ : St} {H : Hp} : tTry tb D σ H = tb D σ D σ H := rfl
theorem ps_tryA {body suite : List Stmt} {b0 : Stmt} {F n : Str} {np hpos pos : Pos} {i : Nat} {CF : Addr} {J : St → St → Prop} {ts : TS} {tb : Ends → St → TS} (hstk : X.stack = X.env :: X.outer) (hfr : X.env.frame = some X.env.locals)
    (hgF : Gl X F) (hmF : X.mg F = some (.ref CF)) (qF : ErrAt X.K CF) (hN : X.N.Nodup) (hi : X.N[i]? = some n) (hl : X.env.scope.names.lookup n = some .local)
    (hb : ∀ D σ0 pn, PSs (X.tryB pn (J σ0) (EhA X.K CF i J ts D σ0)) body (tb D σ0)) (hs : ∀ e, PSs (X.hnd e) (b0 :: suite) ts) (hdb : (F == ("__debug__" : Str)) = false := by decide) :
    PS X (.Try body [.ExceptHandler (some (.Name F np)) (some n) (b0 :: suite) hpos] [] [] pos) (tTry tb) := by
  intro pins s σ H D I h
  refine wpAny_Try_except (wpAny_mono (hb D σ pins [] s σ H D (I.topn.wish _) h) (fun f s1 q => ?_) fun x s1 q => ?_)
  · have q := q.untry
    cases f with
    | next => exact wpAny_execs_nil q
    | _ => exact q
  obtain ⟨pins', σ', H1, s0, I1, hj, hx⟩ := q
  obtain ⟨e, C, T, H', rfl, ⟨a0, fl⟩, ⟨n1, n2, g1, g2⟩, os, bare, un, hok, C', eC, qC, hsub, hts⟩ := hx
  cases eC
  have fl' := fl
  rw [hstk] at fl'
  refine wpAny_looks_onW (by rw [I.ok.frames, hstk]) hfr fl' fun h4 held4 sm4 => ?_
  refine wpAny_landsW held4 fun h5 fl5 sm5 => ?_
  have fl5' := fl5
  rw [← hstk] at fl5'
  have I5 := (exc_inv I1.unpn un hok n1 n2 g1 g2 fl5' (sm4.trans sm5) os bare).1
  obtain ⟨ob, hob, hobc⟩ := fl5.there
  refine wpAny_handleBy_cons (codeAny_handlers_test (ld_glob (X := X.hnd e) (I5.hnd e) hgF hmF ?_ hdb)) (by intro q; cases q)
  refine excMatch_own I5.kIn qC qF hob hobc ?_
  rw [hsub]
  refine codeAny_handlers_suite_as ?_
  refine lands_againW fl5 fun h6 fl6 sm6 => ?_
  have fl6' := fl6
  rw [← hstk] at fl6'
  have I6 := (exc_inv I1.unpn un hok n1 n2 g1 g2 fl6' ((sm4.trans sm5).trans sm6) os bare).2
  refine store_ok (X := X.hnd e) (I6.hnd e) hN hi (.inl hl) (v := .ref e) rfl (fun s7 I7 => ?_) (.inr hl)
  refine wpAny_mono (hs e pins s7 _ _ (endsA i D) I7 (hts σ' e hj n1)) (fun f s8 q8 => ?_) fun _ _ z => z.elim
  cases f with
  | next => obtain ⟨σ8, H8, I8, q8⟩ := q8; exact name_goes (I8.unhnd I.ok) hN hi hl fun s9 I9 => ⟨_, _, I9, q8⟩
  | brk => obtain ⟨σ8, H8, I8, q8⟩ := q8; exact name_goes (I8.unhnd I.ok) hN hi hl fun s9 I9 => ⟨_, _, I9, q8⟩
  | cont => obtain ⟨σ8, H8, I8, q8⟩ := q8; exact name_goes (I8.unhnd I.ok) hN hi hl fun s9 I9 => ⟨_, _, I9, q8⟩
  | ret u => obtain ⟨v, σ8, H8, I8, r8, q8⟩ := q8; exact name_goes (I8.unhnd I.ok) hN hi hl fun s9 I9 => ⟨v, _, _, I9, r8, q8⟩
end
end L2

namespace L2
open PySem PySem.Spec PyProof.Rows PySem.Builtin PySem.Builtin.ObjectAttr PySem.Builtin.Getset_descriptor
/-! ### isinstance of an exception that is held -/
/-- what the text must have of an own error class for isinstance -/
structure ErrIs (K : PySem.W.Frag) (C : Addr) : Prop where
  at_ : ErrAt K C
  ga : PySem.W.findIn K (.ref C) "__getattribute__" = some (some (.builtin "BaseException.__getattribute__"))
  gx : PySem.W.findIn K (.ref C) "__getattr__" = some none
  cl : PySem.W.findIn K (.ref C) "__class__" = some (some (.builtin "object.__class__"))
  sp : PySem.W.specialIn K (.builtin "object.__class__") "__get__" = some (some (.builtin "getset_descriptor.__get__"))
  tk : PySem.W.takesIn K (.builtin "object.__class__") = some true
  mr : PySem.W.mroIn K C (.type "object") = some true
  cs : (PySem.W.clsIn K C).isSome = true
section
variable {prog : Program} {w : World} {A : Around} {E : Value → Shared → Prop} {s : Shared} {K : PySem.W.Frag} {e C : Addr} {ob : Obj}
theorem exc_ga_check {M : Model} {nameV : Value} {Q : Unit → Shared → Prop} (X : K.In s.heap) (q : ErrAt K C) (he : s.heap.get? e = some ob) (hc : ob.cls = .ref C) (hq : Q () s) :
    wpAny M A (checkBuiltinCall "BaseException.__getattribute__" ⟨[.ref e, nameV], []⟩) Q E s := by
  obtain ⟨bm, N, nm, qn, bs, hdct, sn, sub, ab, col, dd, k0, k1, k2, k3, k5, mN, hC, hN, hni, TL, hS⟩ := q.obj X
  obtain ⟨h, g, d, t, os⟩ := s
  have z1 : builtinKind "BaseException.__getattribute__" = some .slot := by decide +kernel
  have z2 : splitId "BaseException.__getattribute__" = some ("BaseException", "__getattribute__") := by decide +kernel
  have z3 : (Value.ref C :: bm).contains (.type "BaseException") = true := by rw [List.contains_cons, TL.hasType PySem.F.excBase_ValueError.hasBase, Bool.or_true]
  have z4 := PySem.F.args_bexc_ga (.ref e) nameV
  simp only [checkBuiltinCall, z2, z1]
  refine wpAny_bind ?_
  · unfold isInstance
    repeat (first | (with_reducible refine wpAny_loadPart_at he ?_; rw [hc]) | (with_reducible refine wpAny_isSubtype_exc hC ?_; rw [z3]) | wp_step)
    exact hq
theorem exc_get {R : Result → Shared → Prop} {tp : Value} (X : K.In s.heap) (hm : PySem.W.mroIn K C (.type "object") = some true) (he : s.heap.get? e = some ob) (hc : ob.cls = .ref C)
    (h : R (.ok (.ret (.ref C))) s) : codeAny (model prog w) A (.call (.builtin "getset_descriptor.__get__") ⟨[.builtin "object.__class__", .ref e, tp], []⟩) R s := by
  obtain ⟨hh, g, dr, t, os⟩ := s
  have L0 : PySem.W.Looks (model prog w) hh (typeOf (.ref e)) (.ref C) := hc ▸ (PySem.W.Looks.ld he).andThen .now
  have L1 := PySem.W.looks_mroIn (M := model prog w) X hm
  refine codeAny_call_builtin PySem.W.KF.slot_gs.plain PySem.W.KF.entry_gs (PySem.W.KF.slot_gs.check _ _ _ _ _ _ _ _ PySem.W.KF.type_class (PySem.W.KF.args_gs _ _ _) ?_)
  unfold Builtin.«getset_descriptor.__get__»
  unfold descrGet
  rw [PySem.W.dga_obj]
  refine wpAny_bind (wpAny_pure ?_)
  unfold descrGetter
  unfold descrCheckInstance
  unfold descrNameAndClass
  unfold isInstance
  simp only [PySem.W.KF.owner_class]
  repeat lk
  refine ⟨Code.quiet_builtin _ (by decide +kernel), codeAny_builtin PySem.W.KF.entry_class ?_⟩
  unfold Builtin.«object.__class__»
  unfold shownTypeOf
  repeat lk
  exact h
theorem exc_class {Q : Option Value → Shared → Prop} (X : K.In s.heap) (q : ErrIs K C) (he : s.heap.get? e = some ob) (hc : ob.cls = .ref C) (h : Q (some (.ref C)) { s with toks := s.toks + 1 }) : wpAny (model prog w) A (getAttr? (.ref e) "__class__") Q E s := by
  obtain ⟨hh, g, d, t, os⟩ := s
  have L0 : PySem.W.Looks (model prog w) hh (typeOf (.ref e)) (.ref C) := hc ▸ (PySem.W.Looks.ld he).andThen .now
  have L1 := PySem.W.looks_findIn (M := model prog w) X q.ga
  have L2 := PySem.W.looks_findIn (M := model prog w) X q.gx
  have L3 : PySem.W.Looks (model prog w) hh (ObjectAttr.find (.ref e) (.ref C) "__class__") (ObjectAttr.Found.bind (.builtin "getset_descriptor.__get__") (.builtin "object.__class__")) := by
    refine (PySem.W.looks_findIn (M := model prog w) X q.cl).andThen ?_
    refine PySem.W.Looks.andThen (a := some (.builtin "getset_descriptor.__get__")) (PySem.W.looks_specialIn X q.sp) ?_
    have Z := PySem.W.looks_takesIn (M := model prog w) X q.tk
    exact (show PySem.W.Looks (model prog w) hh (ObjectAttr.dataDescriptor? (some (.builtin "object.__class__")) (some (.builtin "getset_descriptor.__get__"))) (some (.builtin "getset_descriptor.__get__", .builtin "object.__class__")) from Z.andThen .now).andThen (PySem.W.Looks.tag .now)
  unfold getAttr? getAttrBy? getAttrBy
  refine wpAny_bind (wpAny_mkText (wpAny_bind (wpAny_attempt (wpAny_holding (wpAny_bind (L0.at (wpAny_bind (L1.at ?_))))))))
  have hx2 : (onTheHeap (Value.ref C) && Value.builtin "BaseException.__getattribute__" == Value.builtin "object.__getattribute__") = false := by
    have : (Value.builtin "BaseException.__getattribute__" == Value.builtin "object.__getattribute__") = false := by decide +kernel
    rw [this]; rfl
  simp only [hx2, Bool.false_eq_true, if_false]
  unfold getAttrByItsOwn hookBefore
  have hx3 : onTheHeap (Value.ref C) = true := rfl
  simp only [hx3, if_true]
  refine wpAny_bind (L2.at (wpAny_bind (wpAny_attempt (wpAny_holding ?_))))
  unfold callGetattribute
  simp only [Bool.false_and, Bool.false_eq_true, if_false]
  unfold boundAndCalled
  have f3 := PySem.F.attrBase_ValueError.ga.bind (.ref e)
  refine wpAny_bind (wpAny_of_eq f3 ?_)
  refine wpAny_call (codeAny_call_builtin PySem.F.attrBase_ValueError.ga.plain PySem.F.entry_bexc_ga (exc_ga_check X q.at_ he hc ?_))
  unfold Builtin.«object.__getattribute__»
  refine wpAny_bind (wpAny_pure (wpAny_bind (wpAny_pure (wpAny_bind (L0.at (wpAny_bind (L3.at ?_)))))))
  show wpAny _ _ (holding [Value.builtin "object.__class__"] (call (.builtin "getset_descriptor.__get__") [.builtin "object.__class__", .ref e, .ref C]) >>= ret) _ _ _
  refine wpAny_bind (wpAny_holding (wpAny_call (exc_get X q.mr he hc ?_)))
  refine wpAny_pure ?_
  exact PySem.W.handed_on rfl (wpAny_pure h)
theorem kitx_exc (q : ErrIs K C) : PySem.W.KitX K (.ref e) (.ref C) (fun h => ∃ ob, h.get? e = some ob ∧ ob.cls = .ref C) where
  ty := fun _ _ _ ⟨ob, he, hc⟩ => hc ▸ (PySem.W.Looks.ld he).andThen .now
  it := fun _ _ X _ => by
    obtain ⟨bm, N, nm, qn, bs, hdct, sn, sub, ab, col, dd, k0, k1, k2, k3, k5, mN, hC, _⟩ := q.at_.obj X
    intro A' Q' E' s' k z
    unfold isType
    unfold loadHead
    exact wpAny_bind (wpAny_loadPart (k _ _ hC) (wpAny_pure z))
  ne := fun h tp dd its n sl X htp => by
    obtain ⟨bm, N, nm, qn, bs, hdct, sn, sub, ab, col, dd, k0, k1, k2, k3, k5, mN, hC, _⟩ := q.at_.obj X
    cases z : (Value.ref C == Value.ref tp) with
    | false => rfl
    | true =>
      have e : C = tp := Value.ref.inj (beq_iff_eq.mp z)
      rw [e, htp] at hC
      have := congrArg (fun o => o.map (·.cls)) hC
      simp at this
  ca := fun X ⟨ob, he, hc⟩ k => exc_class X q he hc k
end
section
variable {X : Cx}
/-- a class as a value -/
noncomputable def clsV : V → Option Value
  | .ref a => some (.ref a)
  | .ty n => some (.type n)
  | _ => none
/-- isinstance(e, F), e an exception that is held -/
noncomputable def rIsE (K : PySem.W.Frag) : List V → Hp → VK → Prop := fun xs H Q => ∃ (e C : Addr) (f : V) (fv : Value) (b : Bool), xs = [.ref e, f] ∧ clsV f = some fv ∧ H e = some (ExcO e C) ∧ ErrIs K C ∧ PySem.W.kitOne K (.ref C) fv = some b ∧ Q (.bl b) H
theorem call_isE : CallR X (.builtin "isinstance") (rIsE X.K) := by
  intro pins s σ H xs us Q I r h
  obtain ⟨e, C, f, fv, b, rfl, rf, he, q, hk, hq⟩ := h
  obtain ⟨u, c, rfl, ru, rc⟩ := vals2 r
  cases (show u = Value.ref e from ru)
  have ef : c = fv := by
    cases f with
    | ref a => cases rf; exact (show c = Value.ref a from rc)
    | ty n => cases rf; exact (show c = Value.type n from rc)
    | _ => cases rf
  subst ef
  obtain ⟨⟨ob, h1, h2⟩, _⟩ := (show ObjOk X.prog X.w H s.heap e (ExcO e C) from I.hok e _ he)
  exact PySem.W.kia_one (kitx_exc q) I.kIn ⟨ob, h1, h2⟩ hk (fun z => nomatch z) fun tk => ⟨.bl b, H, I.tok _, rfl, hq⟩
theorem a_rIsE {K : PySem.W.Frag} {xs : List V} {H : Hp} {Q : VK} : rIsE K xs H Q = (∃ (e C : Addr) (f : V) (fv : Value) (b : Bool), xs = [.ref e, f] ∧ clsV f = some fv ∧ H e = some (ExcO e C) ∧ ErrIs K C ∧ PySem.W.kitOne K (.ref C) fv = some b ∧ Q (.bl b) H) := rfl
end
end L2

namespace L2
open PySem PySem.Spec PyProof.Rows
theorem bt_ValueError : bootBuiltins "ValueError" = some (.type "ValueError") := by decide +kernel
/-! ### plain data shown as texts -/
mutual
noncomputable def D.py : D → PyData
  | .non => .none
  | .bl b => .bool b
  | .int i => .int i
  | .str x => .str x
  | .tup ds => .tuple (D.pys ds)
  | .lst ds => .list (D.pys ds)
noncomputable def D.pys : List D → List PyData
  | [] => []
  | d :: ds => D.py d :: D.pys ds
end
section
variable {P : Program} {w : World} {H : Hp} {h : Heap}
end
/-! ### fields of f-strings whose text does not matter -/
section
variable {X : Cx} {k : Nat}
/-- {x!r}, x a text -/
noncomputable def tFmtR (te : TE) : TE := fun σ H Q => te σ H fun v H1 => ∃ x, v = .str x ∧ (∀ c ∈ x.cps.toList, c < 16 ^ 8) ∧ x.length ≤ 100000 ∧ ∀ z : Str, z.length ≤ 10 * x.length + 2 → Q (.str z) H1
theorem pe_fmtR {e : Expr} {te : TE} {pos : Pos} (h : PE X e te) : PE X (.FormattedValue e 114 none pos) (tFmtR te) := by
  intro pins s σ H Q I hw
  refine wpAny_FormattedValue_repr (thn (h pins s σ H _ I hw) fun v s1 ⟨x, H1, I1, r1, q1⟩ => ?_)
  obtain ⟨x, rfl, hs, hx, q⟩ := q1
  obtain ⟨t, rfl⟩ := r1
  have hl := StrLaws.reprText_len x hs
  have hz : (reprText x).length ≤ sizeLine := Nat.le_trans (Nat.le_trans hl (show 10 * x.length + 2 ≤ 1000002 by omega)) (by decide)
  refine wpAny_pyReprObj_str ?_ hz
  exact wpAny_formatField_str ⟨.str _, H1, I1.tok _, ⟨_, rfl⟩, q _ hl⟩ ⟨.str _, H1, (I1.tok _).tok _, ⟨_, rfl⟩, q _ hl⟩ hz
theorem a_tFmtR {te : TE} {σ : St} {H : Hp} {Q : VK} : tFmtR te σ H Q = (te σ H fun v H1 => ∃ x, v = .str x ∧ (∀ c ∈ x.cps.toList, c < 16 ^ 8) ∧ x.length ≤ 100000 ∧ ∀ z : Str, z.length ≤ 10 * x.length + 2 → Q (.str z) H1) := rfl
theorem b_rSlT {K : PySem.W.Frag} {x : V} {lo hi : Option Int} {H : Hp} {Q : VK} : rSlT K x lo hi H Q = (∃ a xs, x = .ref a ∧ SqT K H a xs ∧ ¬ (HT.sIx xs.length 0 lo = 0 ∧ HT.sIx xs.length xs.length hi = xs.length) ∧ NewO H (.tup (cutV xs lo hi)) Q) := rfl
end
end L2

namespace L2
open PySem PySem.Spec PyProof.Rows
/-! ### the greatest and the least of some whole numbers -/
section
variable {X : Cx}
end
/-! ### small things that more than one law needs -/
theorem compR {lo : Int} {n : Nat} {caps : List Nat} {tc : TT} {te : TE} {σ : St} {H : Hp} {Q : VK} (Pv : Nat → List V → Hp → Prop) (h0 : Pv 0 [] H) (hx : n ≤ 100000) (hy : ∀ i ys H', Pv i ys H' → ys.length ≤ i)
    (hs : ∀ i ys H', i < n → Same H H' → Pv i ys H' → tc (blkSt caps σ (some (.int (lo + i)))) H' fun b H2 => if b = true then te (blkSt caps σ (some (.int (lo + i)))) H2 fun y H3 => Same H H3 ∧ Pv (i + 1) (ys ++ [y]) H3 else Same H H2 ∧ Pv (i + 1) ys H2)
    (hd : ∀ p ys H1 H2, Same H H1 → Same H1 H2 → Pv n ys H1 → H1 p = none → H2 p = some (.lst ys) → Q (.ref p) H2) : wComp (Itr lo n) caps tc te σ H Q :=
  comp_range (fun i ys H' => Same H H' ∧ Pv i ys H') ⟨Same.refl H, h0⟩ (small_size hx) (fun i ys H' p => hy i ys H' p.2) (fun i ys H' hi p => hs i ys H' hi p.1 p.2) fun ys H' p q n => hd q ys H' _ p.1 (same_new n _) p.2 n upd_same
theorem comp_tup {K : PySem.W.Frag} {a : Addr} {xs : List V} {caps : List Nat} {tc : TT} {te : TE} {σ : St} {H : Hp} {Q : VK} (Pv : Nat → List V → Hp → Prop) (h0 : Pv 0 [] H) (hx : xs.length < sizeLine) (hy : ∀ i ys H, Pv i ys H → ys.length ≤ i)
    (hl : ∀ i ys H, i ≤ xs.length → Pv i ys H → SqT K H a xs)
    (hs : ∀ i x ys H, xs[i]? = some x → Pv i ys H → tc (blkSt caps σ (some x)) H fun b H2 => if b = true then te (blkSt caps σ (some x)) H2 fun y H3 => Pv (i + 1) (ys ++ [y]) H3 else Pv (i + 1) ys H2)
    (hd : ∀ ys H, Pv xs.length ys H → ∀ p, H p = none → Q (.ref p) (upd H p (.lst ys))) : wComp (Itt K a) caps tc te σ H Q := by
  refine ⟨fun i m ys H => m = xs.length - i ∧ i ≤ xs.length ∧ Pv i ys H, ⟨xs.length, by simp, Nat.zero_le _, h0⟩, ?_⟩
  rintro i m ys H ⟨rfl, hi, p⟩
  have q := hl i ys H hi p
  by_cases hlt : i < xs.length
  · refine .inr ⟨⟨xs, xs[i], q, by simp [hlt]⟩, Nat.lt_of_le_of_lt (Nat.le_trans (hy i ys H p) hi) hx, Pv (i + 1), fun ys' H' p' => ⟨xs.length - (i + 1), by omega, rfl, hlt, p'⟩, fun x H' y => ?_⟩
    obtain ⟨e, y⟩ := y
    subst e
    exact hs i x ys _ (y xs q) p
  · have e : i = xs.length := by omega
    subst e
    exact .inl ⟨⟨xs, q, Nat.le_refl _⟩, hd ys H p⟩
theorem WalkT.comp {K : PySem.W.Frag} {a : Addr} {xs : List V} {caps : List Nat} {tc : TT} {te : TE} {σ : St} {H : Hp} {Q : VK} (e : H a = some (.tup xs)) (Pv : Nat → List V → Hp → Prop) (h0 : Pv 0 [] H) (hx : xs.length ≤ 100000)
    (hy : ∀ i ys H', Pv i ys H' → ys.length ≤ i)
    (hs : ∀ i x ys H', xs[i]? = some x → Same H H' → Pv i ys H' → tc (blkSt caps σ (some x)) H' fun b H2 => if b = true then te (blkSt caps σ (some x)) H2 fun y H3 => Same H H3 ∧ Pv (i + 1) (ys ++ [y]) H3 else Same H H2 ∧ Pv (i + 1) ys H2)
    (hd : ∀ p ys H1 H2, Same H H1 → Same H1 H2 → Pv xs.length ys H1 → H1 p = none → H2 p = some (.lst ys) → Q (.ref p) H2) : WalkT K (.ref a) H fun J H1 => wComp J caps tc te σ H1 Q :=
  ⟨a, rfl, ⟨xs, e⟩, comp_tup (fun i ys H' => Same H H' ∧ Pv i ys H') ⟨Same.refl H, h0⟩ (small_size hx) (fun i ys H' p => hy i ys H' p.2) (fun i ys H' _ p => SqT.of (p.1 _ _ e)) (fun i x ys H' ex p => hs i x ys H' ex p.1 p.2) fun ys H' p q n => hd q ys H' _ p.1 (same_new n _) p.2 n upd_same⟩
end L2

namespace L2
open PySem PySem.Spec PyProof.Rows
/-! ### deeds as data -/
noncomputable abbrev Deed := M.Deed Str
noncomputable def vDeed : Deed → List V
  | .take x i => [.str (Str.ofString "take"), .str x, .int i]
  | .join f i j h => [.str (Str.ofString "join"), .str f, .int i, .int j, .int h]
  | .put i s => [.str (Str.ofString "put"), .int i, .int s]
  | .fetch s i => [.str (Str.ofString "fetch"), .int s, .int i]
noncomputable def dDeed : Deed → D
  | .take x i => .tup [.str (Str.ofString "take"), .str x, .int i]
  | .join f i j h => .tup [.str (Str.ofString "join"), .str f, .int i, .int j, .int h]
  | .put i s => .tup [.str (Str.ofString "put"), .int i, .int s]
  | .fetch s i => .tup [.str (Str.ofString "fetch"), .int s, .int i]
theorem deed_of {H : Hp} {d : Deed} {v : V} (h : Dt H (dDeed d) v) : ∃ a, v = .ref a ∧ H a = some (.tup (vDeed d)) := by
  cases d <;> (obtain ⟨a, vs, rfl, e, h⟩ := isD_tup.mp h; refine ⟨a, rfl, ?_⟩; simp only [isDs_cons, isD_str, isD_int, isDs_nil] at h)
  · obtain ⟨_, _, rfl, rfl, _, _, rfl, rfl, _, _, rfl, rfl, rfl⟩ := h; exact e
  · obtain ⟨_, _, rfl, rfl, _, _, rfl, rfl, _, _, rfl, rfl, _, _, rfl, rfl, _, _, rfl, rfl, rfl⟩ := h; exact e
  · obtain ⟨_, _, rfl, rfl, _, _, rfl, rfl, _, _, rfl, rfl, rfl⟩ := h; exact e
  · obtain ⟨_, _, rfl, rfl, _, _, rfl, rfl, _, _, rfl, rfl, rfl⟩ := h; exact e
/-! ### list(x), tuple(x) -/
noncomputable def rTupF : List V → Hp → VK → Prop := fun xs H Q => ∃ p ys, xs = [.ref p] ∧ H p = some (.lst ys) ∧ NewO H (.tup ys) Q
theorem call_tupF {X : Cx} : CallR X (.type "tuple") rTupF := fun pins s σ H xs us Q I r h => by
  obtain ⟨p, ys, e, h, q⟩ := h
  exact call_tuple_of pins s σ H xs us Q I r ⟨p, ys, e, .inl ⟨SqL.of h, q⟩⟩
theorem a_rTupF {xs : List V} {H : Hp} {Q : VK} : rTupF xs H Q = (∃ p ys, xs = [.ref p] ∧ H p = some (.lst ys) ∧ NewO H (.tup ys) Q) := rfl
/-! ### a tuple cut, or left whole -/
noncomputable def rSlU (K : PySem.W.Frag) : V → Option Int → Option Int → Hp → VK → Prop := fun x lo hi H Q => ∃ a xs, x = .ref a ∧ H a = some (.tup xs) ∧
  ((HT.sIx xs.length 0 lo = 0 ∧ HT.sIx xs.length xs.length hi = xs.length) → Q (.ref a) H) ∧ (¬ (HT.sIx xs.length 0 lo = 0 ∧ HT.sIx xs.length xs.length hi = xs.length) → NewO H (.tup (cutV xs lo hi)) Q)
theorem a_rSlU {K : PySem.W.Frag} {x : V} {lo hi : Option Int} {H : Hp} {Q : VK} : rSlU K x lo hi H Q = (∃ a xs, x = .ref a ∧ H a = some (.tup xs) ∧
  ((HT.sIx xs.length 0 lo = 0 ∧ HT.sIx xs.length xs.length hi = xs.length) → Q (.ref a) H) ∧ (¬ (HT.sIx xs.length 0 lo = 0 ∧ HT.sIx xs.length xs.length hi = xs.length) → NewO H (.tup (cutV xs lo hi)) Q)) := rfl
open HT in
theorem item_whole {P : Program} {w : World} {AA : Around} {EE : Value → Shared → Prop} {s : Shared} {t sl : Addr} {its : Array Value} {vl vu : Value} {lo hi : Option Int} {Q : Value → Shared → Prop} (ht : IsTup s.heap t its) (hs : s.heap.IsSliceOf sl vl vu .none) (pl : IsPart vl lo) (pu : IsPart vu hi)
    (hw : sIx its.size 0 lo = 0 ∧ sIx its.size its.size hi = its.size) (h : Q (.ref t) s) : wpAny (model P w) AA (getItem (.ref t) (.ref sl)) Q EE s := by
  obtain ⟨os, a1, a2, a3⟩ := id hs
  unfold getItem
  try with_reducible refine wpAny_holding ?_
  first | refine wpAny_bind (wpAny_pure ?_) | skip
  refine wpAny_bind (wpAny_sequenceKey ht.typeIs (by decide) ?_)
  have kind : s.TypeIs (.ref sl) "slice" := ⟨os, a1, a2⟩
  refine wpAny_bind (wpAny_callSpecial?_slot (name := Str.ofString "__getitem__") ht.typeIs PyProof.Rows.slot_tuple_getitem
    (wpAny_call_entry PyProof.Rows.slot_tuple_getitem ht.typeIs entry_tuple_getitem ?_ (args_tuple_getitem _ _)))
  show wpAny _ _ (Builtin.Tuple.tupleItemsOf (.ref t) >>= _) _ _ s
  refine wpAny_bind (tupleItemsOf_ ht ?_)
  refine wpAny_bind (wpAny_typeOf kind ?_)
  rw [if_pos (by decide)]
  refine wpAny_bind (sliceApplied_gen hs pl pu ?_)
  have yes : (((sIx its.size 0 lo : Nat) : Int) == 0 && (1 : Int) == 1 && (sIx its.size its.size hi - sIx its.size 0 lo) == its.size) = true := by
    rw [hw.1, hw.2]; simp
  show wpAny _ _ (if (((sIx its.size 0 lo : Nat) : Int) == 0 && (1 : Int) == 1 && (sIx its.size its.size hi - sIx its.size 0 lo) == its.size) = true then _ else _) _ _ s
  rw [if_pos yes]
  refine wpAny_bind (wpAny_bind (m := typeOf _) (wpAny_typeOf ht.typeIs (wpAny_pure ?_)))
  rw [if_pos (by decide)]
  first
    | exact wpAny_bind (wpAny_pure (wpAny_pure ⟨_, rfl, wpAny_pure h⟩))
    | exact wpAny_pure ⟨_, rfl, wpAny_pure h⟩
    | exact wpAny_bind (wpAny_rule (wpAny_pure ⟨_, rfl, wpAny_pure h⟩))
theorem sl_tupU {X : Cx} : SlR X (rSlU X.K) := by
  intro pins s σ H x v vl vu lo hi sl Q I rx hs pl pu h
  obtain ⟨a, xs, rfl, hx, h1, h2⟩ := h
  by_cases hw : HT.sIx xs.length 0 lo = 0 ∧ HT.sIx xs.length xs.length hi = xs.length
  · cases rx
    obtain ⟨its, r, ht, hz⟩ := I.tuple (SqT.of (K := X.K) hx)
    have hlen : its.toArray.size = xs.length := by rw [List.size_toArray]; exact r.length.symm
    exact ⟨"tuple", _, PyProof.Rows.slot_tuple_getitem.lookup, ht.typeIs, item_whole ht hs pl pu (by rw [hlen]; exact hw) ⟨.ref a, _, I, rfl, h1 hw⟩⟩
  · exact sl_tup pins s σ H (.ref a) v vl vu lo hi sl Q I rx hs pl pu ⟨a, xs, rfl, SqT.of hx, hw, h2 hw⟩
/-! ### states: two lists -/
theorem st_mk {H : Hp} {B S : List D} {p b s : Addr} {vs us : List V} (e : H p = some (.tup [.ref b, .ref s])) (eb : H b = some (.lst vs)) (es : H s = some (.lst us)) (db : Dts H B vs) (ds : Dts H S us) : Dt H (.tup [.lst B, .lst S]) (.ref p) :=
  Dt.tup e (.cons (Dt.lst eb db) (.cons (Dt.lst es ds) .nil))
/-- a new state, its lists new -/
noncomputable def RetS (H : Hp) (st : List D × List D) (Q : VK) : Prop := ∀ p b s vs us H', Same H H' → H' p = some (.tup [.ref b, .ref s]) → H b = none → H s = none → b ≠ s → H' b = some (.lst vs) → H' s = some (.lst us) → Dts H' st.1 vs → Dts H' st.2 us → Q (.ref p) H'
theorem RetS.d {H : Hp} {B S : List D} {Q : VK} (h : RetD H (.tup [.lst B, .lst S]) Q) : RetS H (B, S) Q := fun p b s vs us H' S' e _ _ _ eb es db ds => h _ _ S' (st_mk e eb es db ds)
theorem Dts.len {H : Hp} {B : List D} {vs : List V} (h : Dts H B vs) : vs.length = B.length := h.length
end L2

namespace L2
open PySem PySem.Spec PyProof.Rows
/-! ### a body cut in two: the rest is a letter -/
section
variable {D : Ends} {σ : St} {H : Hp} {a b c d e f g h i j k l B : TS}
end
/-! ### the rest, with its ends, as one letter -/
section
variable {D : Ends} {σ : St} {H : Hp} {a b c d e f B : TS}
theorem cutC1 (q : ∀ C : St → Hp → Prop, C = B D → tSeq a (fun _ => C) D σ H) : tSeq a B D σ H := q _ rfl
theorem cutC2 (q : ∀ C : St → Hp → Prop, C = B D → tSeq a (tSeq b fun _ => C) D σ H) : tSeq a (tSeq b B) D σ H := q _ rfl
theorem cutC3 (q : ∀ C : St → Hp → Prop, C = B D → tSeq a (tSeq b (tSeq c fun _ => C)) D σ H) : tSeq a (tSeq b (tSeq c B)) D σ H := q _ rfl
end
theorem lst1 {p : List Value → Prop} (h : ∀ a, p [a]) (us : List Value) (hl : us.length = 1) : p us := by
  obtain _ | ⟨a, us⟩ := us
  · cases hl
  obtain _ | ⟨_, _⟩ := us
  · exact h a
  · simp at hl
theorem lst2 {p : List Value → Prop} (h : ∀ a b, p [a, b]) (us : List Value) (hl : us.length = 2) : p us := by
  obtain _ | ⟨a, us⟩ := us
  · cases hl
  obtain _ | ⟨b, us⟩ := us
  · cases hl
  obtain _ | ⟨_, _⟩ := us
  · exact h a b
  · simp at hl
theorem lst6 {p : List Value → Prop} (h : ∀ a b c d e f, p [a, b, c, d, e, f]) (us : List Value) (hl : us.length = 6) : p us := by
  obtain _ | ⟨a, us⟩ := us
  · cases hl
  obtain _ | ⟨b, us⟩ := us
  · cases hl
  obtain _ | ⟨c, us⟩ := us
  · cases hl
  obtain _ | ⟨d, us⟩ := us
  · cases hl
  obtain _ | ⟨e, us⟩ := us
  · cases hl
  obtain _ | ⟨f, us⟩ := us
  · cases hl
  obtain _ | ⟨_, _⟩ := us
  · exact h a b c d e f
  · simp at hl
theorem Fun.binds1 {K : PySem.W.Frag} {x qual : Str} {st : Stmt} {f : Addr} {fd : FuncData} {ps : List Str} (F : Fun K x qual st f fd) (hn : ps.length = 1) (h : ∀ (kV doc pm : Value) (an : Option Addr) (cdv ct : Value) (a : Value), bindArgs (PySem.W.fnOf x qual (defArgs st) (defBody st) (defScope st) .none kV doc pm an cdv ct) ⟨[a], []⟩ = pure (ps.zip [a])) : Binds K fd ps [] :=
  F.binds fun kV doc pm an cdv ct us hl => lst1 (p := fun us => bindArgs (PySem.W.fnOf x qual (defArgs st) (defBody st) (defScope st) .none kV doc pm an cdv ct) ⟨us, []⟩ = pure (ps.zip us)) (h kV doc pm an cdv ct) us (hl.trans hn)
theorem Fun.binds2 {K : PySem.W.Frag} {x qual : Str} {st : Stmt} {f : Addr} {fd : FuncData} {ps : List Str} (F : Fun K x qual st f fd) (hn : ps.length = 2) (h : ∀ (kV doc pm : Value) (an : Option Addr) (cdv ct : Value) (a b : Value), bindArgs (PySem.W.fnOf x qual (defArgs st) (defBody st) (defScope st) .none kV doc pm an cdv ct) ⟨[a, b], []⟩ = pure (ps.zip [a, b])) : Binds K fd ps [] :=
  F.binds fun kV doc pm an cdv ct us hl => lst2 (p := fun us => bindArgs (PySem.W.fnOf x qual (defArgs st) (defBody st) (defScope st) .none kV doc pm an cdv ct) ⟨us, []⟩ = pure (ps.zip us)) (h kV doc pm an cdv ct) us (hl.trans hn)
theorem Fun.binds6 {K : PySem.W.Frag} {x qual : Str} {st : Stmt} {f : Addr} {fd : FuncData} {ps : List Str} (F : Fun K x qual st f fd) (hn : ps.length = 6) (h : ∀ (kV doc pm : Value) (an : Option Addr) (cdv ct : Value) (a b c d e f : Value), bindArgs (PySem.W.fnOf x qual (defArgs st) (defBody st) (defScope st) .none kV doc pm an cdv ct) ⟨[a, b, c, d, e, f], []⟩ = pure (ps.zip [a, b, c, d, e, f])) : Binds K fd ps [] :=
  F.binds fun kV doc pm an cdv ct us hl => lst6 (p := fun us => bindArgs (PySem.W.fnOf x qual (defArgs st) (defBody st) (defScope st) .none kV doc pm an cdv ct) ⟨us, []⟩ = pure (ps.zip us)) (h kV doc pm an cdv ct) us (hl.trans hn)
theorem Dts.strs {H : Hp} {f : Nat → Str} {n : Nat} {vs : List V} (h : Dts H ((List.range n).map fun k => D.str (f k)) vs) : vs = ((List.range n).map f).map V.str := by
  have : ((List.range n).map fun k => D.str (f k)) = ((List.range n).map f).map D.str := by rw [List.map_map]; rfl
  rw [this] at h
  exact Dts.of_str h
end L2

namespace L2
open PySem PySem.Spec PyProof.Rows
section
variable {X : Cx} {pins : List (Addr × Obj)} {σ : St} {H H' : Hp} {s : Shared} {h' : Heap}
/-- some untracked records of ours have turned -/
theorem turnedL {fp : List Addr} {t' : Nat} (I : Inv X pins σ H s) (k : ∀ b o, b ∉ fp → s.heap.get? b = some o → h'.get? b = some o) (hf : ∀ b ∈ fp, FpOk X pins H b) : Inv X pins σ H { s with heap := h', toks := t' } := by
  have nit : ∀ b u, H b = some u → b ∉ fp := fun b u e z => by
    have := (hf b z).1
    rw [e] at this; cases this
  have far : ∀ b ∈ fp, b ≠ X.env.locals := fun b z => (hf b z).2.1
  refine I.step (g' := s.gens) (d' := s.drawn) (ch := fp) (fun b hb => ?_) (fun b o _ _ hc e _ => k b o hc e) (fun b o _ _ hc e _ => ⟨o.slots, k b o hc e⟩) (fun _ _ _ _ n => n) (fun b o hc e => ⟨o, k b o hc e⟩) (fun _ _ e => e) (fun _ _ _ e => e) (fun b ps e => ⟨#[], by rw [e]; simp⟩) (fun m hm => ?_) (fun b u e => ?_) I.bare
  · obtain ⟨_, f1, _, f3, f4, f5⟩ := hf b hb
    exact ⟨f3, f1, f4, f5⟩
  · obtain ⟨o, es, ep, ho, r⟩ := hm
    exact ⟨o, es, ep, k _ o (fun z => far _ z rfl) ho, r⟩
  · refine (I.hok b u e).stay (fun c v hc q => k c v ?_ q) (fun _ q => q) fun _ _ q => q
    rcases hc with z | z
    · rw [z]; exact nit b u e
    · exact nit c _ z
/-- a pair that an iterator of ours has made -/
theorem pairLaid {fp : List Addr} {t' : Nat} {x y : V} {u v : Value} (I : Inv X pins σ H s) (hx : RelV x u) (hy : RelV y v) (hf : ∀ b ∈ fp, FpOk X pins H b) (ho : ∀ b ∈ fp, ∃ o, s.heap.get? b = some o)
    (new : h'.get? s.heap.objs.size = some { cls := .type "tuple", data := .seq #[u, v] }) (k : ∀ b o, b ∉ fp → s.heap.get? b = some o → h'.get? b = some o) :
    Inv X pins σ (upd H s.heap.objs.size (.tup [x, y])) { s with heap := h', toks := t' } ∧ ∀ b ∈ fp, FpOk X pins (upd H s.heap.objs.size (.tup [x, y])) b := by
  have lt : ∀ b ∈ fp, b ≠ s.heap.objs.size := fun b hb => by
    obtain ⟨o, e⟩ := ho b hb
    exact Nat.ne_of_lt (Heap.lt_size e)
  have hf' : ∀ b ∈ fp, FpOk X pins (upd H s.heap.objs.size (.tup [x, y])) b := fun b hb => by
    obtain ⟨f0, r⟩ := hf b hb
    exact ⟨by rw [upd_ne (lt b hb)]; exact f0, r⟩
  refine ⟨?_, hf'⟩
  have I1 : Inv X pins σ (upd H s.heap.objs.size (.tup [x, y])) { s with heap := s.heap.push { cls := .type "tuple", data := .seq #[u, v] } } :=
    I.laid (t' := s.toks) (fun b o q => Heap.get?_push_of_some _ q) (Nat.le_refl _) ⟨show 2 ≤ sizeLine by decide, [u, v], .cons hx (.cons hy .nil), IsTup.new _ _⟩
  refine turnedL (s := { s with heap := s.heap.push { cls := .type "tuple", data := .seq #[u, v] } }) (fp := fp) I1 (fun b o hb e => ?_) hf'
  rcases Heap.get?_push_cases e with ⟨rfl, rfl⟩ | q
  · exact new
  · exact k b o hb q
end
/-! ### enumerate(l) -/
noncomputable def Ite (a : Addr) : It := ⟨fun i H => ∃ xs x, H a = some (.lst xs) ∧ xs[i]? = some x,
  fun i H x H' => ∃ T y, x = .ref T ∧ H T = none ∧ H' = upd H T (.tup [.int (i : Int), y]) ∧ ∀ ys, H a = some (.lst ys) → ys[i]? = some y,
  fun i H => ∃ xs, H a = some (.lst xs) ∧ xs.length ≤ i⟩
noncomputable def WalkE (x : V) (H : Hp) (R : It → Hp → Prop) : Prop := ∃ a, x = .ref a ∧ (∃ xs, H a = some (.lst xs)) ∧ R (Ite a) H
theorem WalkE.for {a : Addr} {xs : List V} {g : TG} {tb : TS} {D : Ends} {σ : St} {H : Hp} (e : H a = some (.lst xs)) (Pv : Nat → St → Hp → Prop) (h0 : Pv 0 σ H) (hl : ∀ i σ H, i ≤ xs.length → Pv i σ H → H a = some (.lst xs))
    (hs : ∀ i x σ H T H', xs[i]? = some x → Pv i σ H → Same H H' → H T = none → H' T = some (.tup [.int (i : Int), x]) → g (.ref T) σ H' fun σ2 H2 => tb { D with nx := Pv (i + 1), ct := Pv (i + 1), bk := D.nx } σ2 H2) (hd : ∀ σ H, Pv xs.length σ H → D.nx σ H) : WalkE (.ref a) H fun J H1 => ForW J g tb D σ H1 := by
  refine ⟨a, rfl, ⟨xs, e⟩, fun i m σ H => i + m = xs.length ∧ Pv i σ H, ⟨xs.length, by simp, h0⟩, fun i m σ H h => ?_⟩
  obtain ⟨h1, h2⟩ := h
  have ea := hl i σ H (by omega) h2
  by_cases c : m = 0
  · subst c
    have : i = xs.length := by omega
    subst this
    exact .inl ⟨⟨xs, ea, Nat.le_refl _⟩, hd σ H h2⟩
  · have hi : i < xs.length := by omega
    refine .inr ⟨⟨xs, _, ea, List.getElem?_eq_getElem hi⟩, Pv (i + 1), fun σ' H' q => ⟨m - 1, by omega, by omega, q⟩, fun x H' y => ?_⟩
    obtain ⟨T, z, rfl, nT, rfl, hz⟩ := y
    exact hs i z σ H T _ (hz xs ea) h2 (same_new nT _) nT upd_same
/-! ### zip(l, m) -/
noncomputable def Itz (a b : Addr) : It := ⟨fun i H => ∃ xs ys x y, H a = some (.lst xs) ∧ H b = some (.lst ys) ∧ xs[i]? = some x ∧ ys[i]? = some y,
  fun i H x H' => ∃ T y z, x = .ref T ∧ H T = none ∧ H' = upd H T (.tup [y, z]) ∧ (∀ ys, H a = some (.lst ys) → ys[i]? = some y) ∧ ∀ ys, H b = some (.lst ys) → ys[i]? = some z,
  fun i H => ∃ xs ys, H a = some (.lst xs) ∧ H b = some (.lst ys) ∧ (xs.length ≤ i ∨ ys.length ≤ i)⟩
structure Apart5 (z TI TO i1 i2 : Addr) : Prop where
  a : TI ≠ z
  b : TO ≠ z
  c : i1 ≠ z
  d : i2 ≠ z
  e : TI ≠ TO
  f : TI ≠ i1
  g : TI ≠ i2
  h : TO ≠ i1
  i : TO ≠ i2
  j : i1 ≠ i2
theorem ne5 (n : Nat) : Apart5 (n + 4) (n + 2) (n + 3) n (n + 1) := by
  constructor <;> (intro z; have z' : @Eq Nat _ _ := z; omega)
noncomputable def WalkZ (x y : V) (H : Hp) (R : It → Hp → Prop) : Prop := ∃ a b, x = .ref a ∧ y = .ref b ∧ (∃ xs, H a = some (.lst xs)) ∧ (∃ xs, H b = some (.lst xs)) ∧ R (Itz a b) H
theorem boot_zip : bootBuiltins "zip" = some (.type "zip") := by decide +kernel
theorem WalkZ.for {a b : Addr} {xs ys : List V} {g : TG} {tb : TS} {D : Ends} {σ : St} {H : Hp} (e : H a = some (.lst xs)) (e2 : H b = some (.lst ys)) (hxy : xs.length = ys.length) (Pv : Nat → St → Hp → Prop) (h0 : Pv 0 σ H) (hl : ∀ i σ H, i ≤ xs.length → Pv i σ H → H a = some (.lst xs) ∧ H b = some (.lst ys))
    (hs : ∀ i x y σ H T H', xs[i]? = some x → ys[i]? = some y → Pv i σ H → Same H H' → H T = none → H' T = some (.tup [x, y]) → g (.ref T) σ H' fun σ2 H2 => tb { D with nx := Pv (i + 1), ct := Pv (i + 1), bk := D.nx } σ2 H2) (hd : ∀ σ H, Pv xs.length σ H → D.nx σ H) : WalkZ (.ref a) (.ref b) H fun J H1 => ForW J g tb D σ H1 := by
  refine ⟨a, b, rfl, rfl, ⟨xs, e⟩, ⟨ys, e2⟩, fun i m σ H => i + m = xs.length ∧ Pv i σ H, ⟨xs.length, by simp, h0⟩, fun i m σ H h => ?_⟩
  obtain ⟨h1, h2⟩ := h
  obtain ⟨ea, eb⟩ := hl i σ H (by omega) h2
  by_cases c : m = 0
  · subst c
    have : i = xs.length := by omega
    subst this
    exact .inl ⟨⟨xs, ys, ea, eb, .inl (Nat.le_refl _)⟩, hd σ H h2⟩
  · have hi : i < xs.length := by omega
    refine .inr ⟨⟨xs, ys, _, _, ea, eb, List.getElem?_eq_getElem hi, List.getElem?_eq_getElem (by omega)⟩, Pv (i + 1), fun σ' H' q => ⟨m - 1, by omega, by omega, q⟩, fun x H' y => ?_⟩
    obtain ⟨T, z1, z2, rfl, nT, rfl, hz1, hz2⟩ := y
    exact hs i z1 z2 σ H T _ (hz1 xs ea) (hz2 ys eb) h2 (same_new nT _) nT upd_same
end L2

namespace L2
open PySem PySem.Spec PyProof.Rows
/-! ### greater whole numbers -/
noncomputable abbrev bits (x : Int) : Nat := Builtin.Int.intBits x
/-! ### dicts by texts -/
noncomputable def GivD (H : Hp) (p : Addr) (giv : Str → Int) (ok : Str → Prop) : Prop := ∃ kvs : List (Key × V), H p = some (.dK kvs) ∧ ∀ x, ok x → valV kvs (.inr x) = some (.int (giv x))
noncomputable abbrev Four := Int × Int × Int × Int
noncomputable def vFour (q : Four) : List V := [.int q.1, .int q.2.1, .int q.2.2.1, .int q.2.2.2]
noncomputable def MeanD (H : Hp) (p : Addr) (mean : Str → Four) (ok : Str → Prop) : Prop := ∃ kvs : List (Key × V), H p = some (.dK kvs) ∧ ∀ f, ok f → ∃ a, valV kvs (.inr f) = some (.ref a) ∧ H a = some (.tup (vFour (mean f)))
theorem GivD.same {H H' : Hp} {p : Addr} {giv : Str → Int} {ok : Str → Prop} (h : GivD H p giv ok) (S : Same H H') : GivD H' p giv ok := by
  obtain ⟨kvs, e, q⟩ := h
  exact ⟨kvs, S _ _ e, q⟩
theorem MeanD.same {H H' : Hp} {p : Addr} {mean : Str → Four} {ok : Str → Prop} (h : MeanD H p mean ok) (S : Same H H') : MeanD H' p mean ok := by
  obtain ⟨kvs, e, q⟩ := h
  exact ⟨kvs, S _ _ e, fun f hf => let ⟨a, h1, h2⟩ := q f hf; ⟨a, h1, S _ _ h2⟩⟩
theorem GivD.get {H : Hp} {p : Addr} {giv : Str → Int} {ok : Str → Prop} {x : Str} (h : GivD H p giv ok) (hx : ok x) : DGet H p (.str x) (some (.int (giv x))) := by
  obtain ⟨kvs, e, q⟩ := h
  exact .inl ⟨kvs, .inr x, Rd.of e, rfl, (q x hx).symm⟩
theorem MeanD.get {H : Hp} {p : Addr} {mean : Str → Four} {ok : Str → Prop} {f : Str} (h : MeanD H p mean ok) (hf : ok f) : ∃ a, DGet H p (.str f) (some (.ref a)) ∧ H a = some (.tup (vFour (mean f))) := by
  obtain ⟨kvs, e, q⟩ := h
  obtain ⟨a, h1, h2⟩ := q f hf
  exact ⟨a, .inl ⟨kvs, .inr f, Rd.of e, rfl, h1.symm⟩, h2⟩
end L2

namespace L2
open PySem PySem.Spec PyProof.Rows
/-! ### range(a, b, -1) -/
section
variable {X : Cx} {tg : Expr}
end
/-! ### l.index(m), a list of whole numbers -/
section
variable {X : Cx}
noncomputable def isInt (m : Int) : Value → Bool | .int i _ => i == m | _ => false
end
/-! ### the heap without one list, which is being written -/
theorem Dts.snoc {H : Hp} {ds : List D} {d : D} {us : List V} {v : V} (h : Dts H ds us) (g : Dt H d v) : Dts H (ds ++ [d]) (us ++ [v]) := h.append (.one g)
/-! ### a list walked within a comprehension -/
theorem piTK {X : Cx} {K : PySem.W.Frag} {tg l : Expr} {tl : TE} (h : X.K = K) (hl : PE X l tl) : PI X tg l (iT K tl) := h ▸ piT hl
/-! ### any of a list of truth values -/
section
variable {X : Cx}
end
end L2

namespace L2
open PySem PySem.Spec PyProof.Rows
/-! ### reversed(l) -/
section
variable {X : Cx} {tg : Expr}
/-! ### for x in reversed(l), the list staying as it is -/
end
end L2

namespace L2
open PySem PySem.Spec PyProof.Rows
/-! ### l != l2, the items alike in this program and world -/
/-! ### dict(d) -/
end L2

namespace L2
open PySem PySem.Spec PyProof.Rows
open PySem.W (hideAll hideAll_get hideAll_none of_hideAll funFrames_hide fresh_of_stays flyingW_base)
/-! ### a try whose body has loops: the exception is looked at first -/
section
variable {X : Cx} {pins pn : List (Addr × Obj)} {σ : St} {H : Hp} {s : Shared} {E : XK}
end
/-! ### a dict's display -/
theorem a_tDisp {trs : List (TE × TE)} {σ : St} {H : Hp} {Q : VK} : tDisp trs σ H Q = (∀ p, H p = none → tPairs trs σ (upd H p (.dK [])) fun ps H2 => H2 p = some (.dK []) ∧ ∃ kvs : List (Key × V), ps = kvs.map (fun kv => (kV kv.1, kv.2)) ∧ kvs.length ≤ 15 ∧ Q (.ref p) (upd H2 p (.dK (mergeK [] kvs)))) := (rfl)
theorem a_pNil {σ : St} {H : Hp} {Q : List (V × V) → Hp → Prop} : tPairs [] σ H Q = Q [] H := (rfl)
theorem a_pCons {tk tv : TE} {r : List (TE × TE)} {σ : St} {H : Hp} {Q : List (V × V) → Hp → Prop} : tPairs ((tk, tv) :: r) σ H Q = (tk σ H fun x H1 => tv σ H1 fun y H2 => tPairs r σ H2 fun ps H3 => Q ((x, y) :: ps) H3) := (rfl)
end L2

namespace L2
open PySem PySem.Spec PyProof.Rows
/-! ### zip of lists, tuples and texts -/
section
variable {prog : Program} {w : World} {A : Around} {E : Value → Shared → Prop} {s : Shared}
theorem nextOf_tup {j l : Addr} {i : Nat} {its} {x : Value} {Q : Value → Shared → Prop} (t1 : s.heap.IsTupleIter j l i) (t2 : s.heap.IsTuple l its) (ex : its[i]? = some x)
    (q : ∀ h', h'.IsTupleIter j l (i + 1) → Heap.SameBut j s.heap h' → Q x { s with heap := h' }) : wpAny (model prog w) A (Builtin.SmallTypes.nextOf (.ref j)) Q E s := by
  obtain ⟨ob, g, gc, gd⟩ := id t1
  obtain ⟨ol, gl, _, nl, dl⟩ := t2
  unfold Builtin.SmallTypes.nextOf
  refine wpAny_bind (wpAny_callSpecial?_slot (name := Str.ofString "__next__") t1.typeIs F.slot_tuple_iterator_next (wpAny_call_entry F.slot_tuple_iterator_next t1.typeIs F.entry_tuple_iterator_next ?_ (F.args_tuple_iterator_next_1 _)))
  show wpAny _ _ (field (.ref j) 0 >>= _) _ _ s
  refine wpAny_bind (wpAny_field g gd (x := .ref l) rfl ?_); rw [if_neg (show ¬ ((Value.ref l == Value.none) = true) from Bool.false_ne_true)]
  show wpAny _ _ (field (.ref j) 1 >>= _) _ _ s
  refine wpAny_bind (wpAny_field g gd (x := .int i 0) rfl (show wpAny _ _ (seqItems? (.ref l) >>= _) _ _ s from wpAny_bind (wpAny_seqItems gl dl ?_)))
  simp only [ex, Int.toNat_natCast]
  refine wpAny_bind (wpAny_setField g gd (by simp) (wpAny_pure ⟨x, rfl, wpAny_pure (q _ ⟨_, Heap.get?_update_self _ g (Obj.isFreed_of_fields (Obj.data_mapFields gd _)), (Obj.cls_mapFields ..).trans gc, ?_⟩ (Heap.SameBut.update ..))⟩))
  rw [Obj.data_mapFields gd]; simp [rawInt]
theorem nextOf_tup_end {j l : Addr} {i : Nat} {its} {Q : Value → Shared → Prop} (nh : A.handled = none) (t1 : s.heap.IsTupleIter j l i) (t2 : s.heap.IsTuple l its) (ex : its[i]? = none)
    (q : ∀ h' e, Heap.ExtBut j s.heap h' → (∃ o, h'.get? e = some o ∧ o.cls = .type "StopIteration") → E (.ref e) { s with heap := h' }) : wpAny (model prog w) A (Builtin.SmallTypes.nextOf (.ref j)) Q E s := by
  obtain ⟨ob, g, gc, gd⟩ := id t1
  obtain ⟨ol, gl, _, nl, dl⟩ := t2
  unfold Builtin.SmallTypes.nextOf
  refine wpAny_bind (wpAny_callSpecial?_slot (name := Str.ofString "__next__") t1.typeIs F.slot_tuple_iterator_next (wpAny_call_entry F.slot_tuple_iterator_next t1.typeIs F.entry_tuple_iterator_next ?_ (F.args_tuple_iterator_next_1 _)))
  show wpAny _ _ (field (.ref j) 0 >>= _) _ _ s
  refine wpAny_bind (wpAny_field g gd (x := .ref l) rfl ?_); rw [if_neg (show ¬ ((Value.ref l == Value.none) = true) from Bool.false_ne_true)]
  show wpAny _ _ (field (.ref j) 1 >>= _) _ _ s
  refine wpAny_bind (wpAny_field g gd (x := .int i 0) rfl (show wpAny _ _ (seqItems? (.ref l) >>= _) _ _ s from wpAny_bind (wpAny_seqItems gl dl ?_)))
  simp only [ex, Int.toNat_natCast]
  refine wpAny_bind (wpAny_rule (wpAny_bind (wpAny_setField g gd (by simp) (show wpAny _ _ (newExc (.type "StopIteration") [] >>= _) _ _ _ from wpAny_bind ?_))))
  simp only [newTuple, newExc]
  refine wpAny_bind (wpAny_newObj_type (wpAny_bind (m := firstArgMember _ _) (wpAny_of_eq (a := Value.none) (by first | rfl | (simp only [firstArgMember]; rfl)) (wpAny_newObj_type ?_ (by size_fits)))) (by size_fits))
  unfold raiseNew
  refine wpAny_bind (wpAny_handled (by (first | rw [show A.in1.handled = none from nh] | rw [nh]); exact wpAny_bind (wpAny_pure (wpAny_throw (q _ _ (((Heap.SameBut.update ..).extBut.push _).push _) ⟨_, Heap.get?_push_size _ rfl, rfl⟩)))))
end
theorem drawsT {prog : Program} {w : World} {A : Around} (nh : A.handled = none) (j l : Addr) (ne : l ≠ j) (its : Array Value) :
    Draws prog w A j [j, l] its.size (fun i v => its[i]? = some v) (fun i h => h.IsTupleIter j l i ∧ h.IsTuple l its) where
  live := fun _ _ st => let ⟨o, q, _⟩ := st.1; ⟨o, q⟩
  frame := fun _ _ _ st k => ⟨st.1.at fun o e => k j (by simp) o e, let ⟨o, q, r⟩ := st.2; ⟨o, k l (by simp) o q, r⟩⟩
  item := fun i s Q E hi st q => nextOf_tup st.1 st.2 (x := its[i]) (by simp [hi]) fun h' a b => q _ h' s.toks (by simp [hi]) ⟨a, st.2.extBut b.extBut ne⟩ b
  done := fun s Q E st q => nextOf_tup_end nh st.1 st.2 (by simp) q
theorem Draws.map {prog : Program} {w : World} {A : Around} {j : Addr} {fp : List Addr} {n : Nat} {P P' : Nat → Value → Prop} {St : Nat → Heap → Prop} (D : Draws prog w A j fp n P St) (h : ∀ i v, P i v → P' i v) : Draws prog w A j fp n P' St where
  live := D.live
  frame := D.frame
  item := fun i s Q E hi st q => D.item i s Q E hi st fun x h' tk p => q x h' tk (h _ _ p)
  done := D.done
/-- the two drawn from, and the zip's own records, apart -/
structure ZApart (z TI TO i1 i2 : Addr) (f1 f2 : List Addr) : Prop where
  own : Apart5 z TI TO i1 i2
  m1 : i1 ∈ f1
  m2 : i2 ∈ f2
  z1 : z ∉ f1
  z2 : z ∉ f2
  t1 : TO ∉ f1
  t2 : TO ∉ f2
  x1 : i2 ∉ f1
  x2 : i1 ∉ f2
section
variable {prog : Program} {w : World} {A : Around} {E : Value → Shared → Prop} {s : Shared} {z TI TO i1 i2 : Addr} {f1 f2 : List Addr} {n1 n2 k : Nat} {P1 P2 : Nat → Value → Prop} {S1 S2 : Nat → Heap → Prop} {a b : Value}
theorem fr_but {h h' : Heap} {c : Addr} {f : List Addr} (e : Heap.ExtBut c h h') (n : c ∉ f) : ∀ b ∈ f, ∀ o, h.get? b = some o → h'.get? b = some o := fun b hb o q => e b o (fun y => n (y ▸ hb)) q
theorem zipD_item {Q : Value → Shared → Prop} (ap : ZApart z TI TO i1 i2 f1 f2) (D1 : Draws prog w A i1 f1 n1 P1 S1) (D2 : Draws prog w A i2 f2 n2 P2 S2) (qz : IsZip s.heap z TI TO .none) (qI : IsPair s.heap TI (.ref i1) (.ref i2)) (qO : IsPair s.heap TO a b)
    (st1 : S1 k s.heap) (st2 : S2 k s.heap) (l1 : k < n1) (l2 : k < n2)
    (q : ∀ h' tk x y, P1 k x → P2 k y → IsZip h' z TI TO (rawInt s.heap.objs.size) → IsPair h' TO x y → S1 (k + 1) h' → S2 (k + 1) h' → IsPair h' s.heap.objs.size x y →
      (∀ c o, c ≠ z → c ≠ TO → c ≠ i1 → c ≠ i2 → s.heap.get? c = some o → h'.get? c = some o) → Q (.ref s.heap.objs.size) { s with heap := h', toks := tk }) :
    wpAny (model prog w) A (Builtin.«zip.__next__» ⟨[.ref z], []⟩) (fun fin s' => ∃ v, fin = .done (.ret v) ∧ Q v s') E s := by
  show wpAny _ _ (field (.ref z) 2 >>= _) _ _ _
  refine wpAny_bind (wpAny_field qz rfl (x := .bool false) rfl (show wpAny _ _ (field (.ref z) 3 >>= _) _ _ _ from wpAny_bind (wpAny_field qz rfl (x := .ref TI) rfl (wpAny_bind (wpAny_seqItems qI rfl ?_)))))
  show wpAny _ _ (Builtin.SmallTypes.ownedTupleIsFree (.ref z) >>= _) _ _ _
  unfold Builtin.SmallTypes.ownedTupleIsFree
  refine wpAny_bind (wpAny_bind (wpAny_field qz rfl (x := .none) rfl (wpAny_pure ?_)))
  rw [if_pos rfl]
  refine wpAny_bind (wpAny_rule (wpAny_bind (wpAny_field qz rfl (x := .ref TO) rfl (wpAny_bind (wpAny_setField_rec qz (by simp) fun h₁ z₁ b₁ => wpAny_bind ?_)))))
  replace z₁ : IsZip h₁ z TI TO .ellipsis := z₁
  simp only [List.forIn_nil, List.forIn_cons, List.zipIdx_nil, List.zipIdx_cons]
  refine wpAny_bind (wpAny_bind (wpAny_onRaise (show wpAny _ _ (Builtin.SmallTypes.nextOf (.ref i1) >>= _) _ _ _ from wpAny_bind (D1.item k _ _ _ l1 (D1.frame _ _ _ st1 (fr_but b₁.extBut ap.z1)) fun x h₂ t₂ px s1 b₂ => wpAny_pure ?_))))
  have O₂ : IsPair h₂ TO a b := b₂.extBut _ _ ap.own.h (b₁.extBut _ _ ap.own.b qO)
  refine wpAny_bind (wpAny_seqItems O₂ rfl (wpAny_bind (wpAny_updateSeq_pair O₂ fun h₃ O₃ b₃ => wpAny_bind (wpAny_letGo (wpAny_pure ?_)))))
  replace O₃ : IsPair h₃ TO x b := O₃
  have st2' : S2 k h₃ := D2.frame _ _ _ (D2.frame _ _ _ (D2.frame _ _ _ st2 (fr_but b₁.extBut ap.z2)) (fr_but b₂.extBut ap.x2)) (fr_but b₃.extBut ap.t2)
  refine wpAny_bind (wpAny_bind (wpAny_onRaise (show wpAny _ _ (Builtin.SmallTypes.nextOf (.ref i2) >>= _) _ _ _ from wpAny_bind (D2.item k _ _ _ l2 st2' fun y h₄ t₄ py s2 b₄ => wpAny_pure ?_))))
  have O₄ : IsPair h₄ TO x b := b₄.extBut _ _ ap.own.i O₃
  refine wpAny_bind (wpAny_seqItems O₄ rfl (wpAny_bind (wpAny_updateSeq_pair O₄ fun h₅ O₅ b₅ => wpAny_bind (wpAny_letGo (wpAny_pure (wpAny_pure ?_))))))
  replace O₅ : IsPair h₅ TO x y := O₅
  refine wpAny_bind (wpAny_seqItems O₅ rfl (wpAny_bind (wpAny_newTuple ?_)))
  have sz : h₅.objs.size = s.heap.objs.size := by rw [b₅.1, b₄.1, b₃.1, b₂.1, b₁.1]
  have z₅ : IsZip h₅ z TI TO .ellipsis := b₅.extBut _ _ ap.own.b.symm (b₄.extBut _ _ ap.own.d.symm (b₃.extBut _ _ ap.own.b.symm (b₂.extBut _ _ ap.own.c.symm z₁)))
  have k₅ : ∀ c o, c ≠ z → c ≠ TO → c ≠ i1 → c ≠ i2 → s.heap.get? c = some o → h₅.get? c = some o := fun c o c1 c2 c3 c4 e => b₅.extBut _ _ c2 (b₄.extBut _ _ c4 (b₃.extBut _ _ c2 (b₂.extBut _ _ c3 (b₁.extBut _ _ c1 e))))
  have e1 : S1 (k + 1) h₅ := D1.frame _ _ _ (D1.frame _ _ _ (D1.frame _ _ _ s1 (fr_but b₃.extBut ap.t1)) (fr_but b₄.extBut ap.x1)) (fr_but b₅.extBut ap.t1)
  have e2 : S2 (k + 1) h₅ := D2.frame _ _ _ s2 (fr_but b₅.extBut ap.t2)
  have zl : z < h₅.objs.size := Heap.lt_size z₅
  show wpAny _ _ (Builtin.SmallTypes.ownedTupleHandOut (.ref z) (.ref h₅.objs.size) >>= _) _ _ _
  unfold Builtin.SmallTypes.ownedTupleHandOut
  refine wpAny_bind (wpAny_bind (wpAny_setField_rec (show IsZip (h₅.push { cls := .type "tuple", data := .seq #[x, y] }) z TI TO .ellipsis from Heap.get?_push_of_some _ z₅) (by simp) fun h₇ z₇ b₇ => ?_))
  replace z₇ : IsZip h₇ z TI TO (rawInt h₅.objs.size) := z₇
  refine wpAny_setField_rec z₇ (by simp) fun h₈ z₈ b₈ => wpAny_pure ⟨_, rfl, ?_⟩
  replace z₈ : IsZip h₈ z TI TO (rawInt h₅.objs.size) := z₈
  have up : ∀ c o, c ≠ z → h₅.get? c = some o → h₈.get? c = some o := fun c o c1 e => b₈.extBut _ _ c1 (b₇.extBut _ _ c1 (Heap.get?_push_of_some _ e))
  have T₈ : IsPair h₈ h₅.objs.size x y := b₈.extBut _ _ (Nat.ne_of_gt zl) (b₇.extBut _ _ (Nat.ne_of_gt zl) (Heap.get?_push_size _ rfl))
  rw [sz] at z₈ T₈
  show Q (.ref h₅.objs.size) _
  rw [sz]
  exact q h₈ _ x y px py z₈ (up _ _ ap.own.b O₅) (D1.frame _ _ _ e1 fun c hc o e => up c o (fun y => ap.z1 (y ▸ hc)) e) (D2.frame _ _ _ e2 fun c hc o e => up c o (fun y => ap.z2 (y ▸ hc)) e) T₈ fun c o c1 c2 c3 c4 e => up c o c1 (k₅ c o c1 c2 c3 c4 e)
theorem zipD_end {Q : Fin → Shared → Prop} (ap : ZApart z TI TO i1 i2 f1 f2) (D1 : Draws prog w A i1 f1 n1 P1 S1) (D2 : Draws prog w A i2 f2 n2 P2 S2) (qz : IsZip s.heap z TI TO .none) (qI : IsPair s.heap TI (.ref i1) (.ref i2)) (qO : IsPair s.heap TO a b)
    (st1 : S1 k s.heap) (st2 : S2 k s.heap) (fin : n1 = k ∨ k < n1 ∧ n2 = k)
    (q : ∀ h' tk e, (∀ c o, c ≠ z → c ≠ TO → c ≠ i1 → c ≠ i2 → s.heap.get? c = some o → h'.get? c = some o) → (∃ o, h'.get? e = some o ∧ o.cls = .type "StopIteration") → E (.ref e) { s with heap := h', toks := tk }) :
    wpAny (model prog w) A (Builtin.«zip.__next__» ⟨[.ref z], []⟩) Q E s := by
  show wpAny _ _ (field (.ref z) 2 >>= _) _ _ _
  refine wpAny_bind (wpAny_field qz rfl (x := .bool false) rfl (show wpAny _ _ (field (.ref z) 3 >>= _) _ _ _ from wpAny_bind (wpAny_field qz rfl (x := .ref TI) rfl (wpAny_bind (wpAny_seqItems qI rfl ?_)))))
  show wpAny _ _ (Builtin.SmallTypes.ownedTupleIsFree (.ref z) >>= _) _ _ _
  unfold Builtin.SmallTypes.ownedTupleIsFree
  refine wpAny_bind (wpAny_bind (wpAny_field qz rfl (x := .none) rfl (wpAny_pure ?_)))
  rw [if_pos rfl]
  refine wpAny_bind (wpAny_rule (wpAny_bind (wpAny_field qz rfl (x := .ref TO) rfl (wpAny_bind (wpAny_setField_rec qz (by simp) fun h₁ z₁ b₁ => wpAny_bind ?_)))))
  replace z₁ : IsZip h₁ z TI TO .ellipsis := z₁
  simp only [List.forIn_nil, List.forIn_cons, List.zipIdx_nil, List.zipIdx_cons]
  have st1' : S1 k h₁ := D1.frame _ _ _ st1 (fr_but b₁.extBut ap.z1)
  rcases fin with rfl | ⟨l1, rfl⟩
  · refine wpAny_bind (wpAny_bind (wpAny_onRaise (show wpAny _ _ (Builtin.SmallTypes.nextOf (.ref i1) >>= _) _ _ _ from wpAny_bind (D1.done _ _ _ st1' fun h₂ e b₂ he => ?_))))
    obtain ⟨oe, g1, g2⟩ := he
    have z₂ : IsZip h₂ z TI TO .ellipsis := b₂ _ _ ap.own.c.symm z₁
    have ne : e ≠ z := fun y => by rw [y, z₂] at g1; cases g1; simp at g2
    exact wpAny_setField_rec z₂ (by simp) fun h₃ _ b₃ => q h₃ s.toks e (fun c o c1 _ c3 _ y => b₃.extBut _ _ c1 (b₂ _ _ c3 (b₁.extBut _ _ c1 y))) ⟨oe, b₃.extBut _ _ ne g1, g2⟩
  · refine wpAny_bind (wpAny_bind (wpAny_onRaise (show wpAny _ _ (Builtin.SmallTypes.nextOf (.ref i1) >>= _) _ _ _ from wpAny_bind (D1.item n2 _ _ _ l1 st1' fun x h₂ t₂ px s1 b₂ => wpAny_pure ?_))))
    have O₂ : IsPair h₂ TO a b := b₂.extBut _ _ ap.own.h (b₁.extBut _ _ ap.own.b qO)
    refine wpAny_bind (wpAny_seqItems O₂ rfl (wpAny_bind (wpAny_updateSeq_pair O₂ fun h₃ O₃ b₃ => wpAny_bind (wpAny_letGo (wpAny_pure ?_)))))
    have st2' : S2 n2 h₃ := D2.frame _ _ _ (D2.frame _ _ _ (D2.frame _ _ _ st2 (fr_but b₁.extBut ap.z2)) (fr_but b₂.extBut ap.x2)) (fr_but b₃.extBut ap.t2)
    refine wpAny_bind (wpAny_bind (wpAny_onRaise (show wpAny _ _ (Builtin.SmallTypes.nextOf (.ref i2) >>= _) _ _ _ from wpAny_bind (D2.done _ _ _ st2' fun h₄ e b₄ he => ?_))))
    obtain ⟨oe, g1, g2⟩ := he
    have z₄ : IsZip h₄ z TI TO .ellipsis := b₄ _ _ ap.own.d.symm (b₃.extBut _ _ ap.own.b.symm (b₂.extBut _ _ ap.own.c.symm z₁))
    have ne : e ≠ z := fun y => by rw [y, z₄] at g1; cases g1; simp at g2
    exact wpAny_setField_rec z₄ (by simp) fun h₅ _ b₅ => q h₅ _ e (fun c o c1 c2 c3 c4 y => b₅.extBut _ _ c1 (b₄ _ _ c4 (b₃.extBut _ _ c2 (b₂.extBut _ _ c3 (b₁.extBut _ _ c1 y))))) ⟨oe, b₅.extBut _ _ ne g1, g2⟩
theorem pyNext_zipD {Q : Option Value → Shared → Prop} (ap : ZApart z TI TO i1 i2 f1 f2) (D1 : Draws prog w A.in1 i1 f1 n1 P1 S1) (D2 : Draws prog w A.in1 i2 f2 n2 P2 S2) (qz : IsZip s.heap z TI TO .none) (qI : IsPair s.heap TI (.ref i1) (.ref i2)) (qO : IsPair s.heap TO a b)
    (st1 : S1 k s.heap) (st2 : S2 k s.heap) (l1 : k < n1) (l2 : k < n2)
    (q : ∀ h' tk x y, P1 k x → P2 k y → IsZip h' z TI TO (rawInt s.heap.objs.size) → IsPair h' TO x y → S1 (k + 1) h' → S2 (k + 1) h' → IsPair h' s.heap.objs.size x y →
      (∀ c o, c ≠ z → c ≠ TO → c ≠ i1 → c ≠ i2 → s.heap.get? c = some o → h'.get? c = some o) → Q (some (.ref s.heap.objs.size)) { s with heap := h', toks := tk }) :
    wpAny (model prog w) A (pyNext (.ref z)) Q E s := by
  have ht : s.TypeIs (.ref z) "zip" := ⟨_, qz, rfl⟩
  unfold pyNext
  exact wpAny_bind (wpAny_attempt (wpAny_callSpecial?_slot (name := Str.ofString "__next__") ht F.slot_zip_next (wpAny_call_entry F.slot_zip_next ht F.entry_zip_next (zipD_item ap D1 D2 qz qI qO st1 st2 l1 l2 fun h' tk x y p1 p2 a1 a2 a3 a4 a5 a6 => wpAny_pure (q h' tk x y p1 p2 a1 a2 a3 a4 a5 a6)) (F.args_zip_next_1 _))))
theorem pyNext_zipD_end {Q : Option Value → Shared → Prop} (ap : ZApart z TI TO i1 i2 f1 f2) (D1 : Draws prog w A.in1 i1 f1 n1 P1 S1) (D2 : Draws prog w A.in1 i2 f2 n2 P2 S2) (qz : IsZip s.heap z TI TO .none) (qI : IsPair s.heap TI (.ref i1) (.ref i2)) (qO : IsPair s.heap TO a b)
    (st1 : S1 k s.heap) (st2 : S2 k s.heap) (fin : n1 = k ∨ k < n1 ∧ n2 = k)
    (q : ∀ h' tk, (∀ c o, c ≠ z → c ≠ TO → c ≠ i1 → c ≠ i2 → s.heap.get? c = some o → h'.get? c = some o) → Q none { s with heap := h', toks := tk }) : wpAny (model prog w) A (pyNext (.ref z)) Q E s := by
  have ht : s.TypeIs (.ref z) "zip" := ⟨_, qz, rfl⟩
  unfold pyNext
  refine wpAny_bind (wpAny_attempt (wpAny_callSpecial?_slot (name := Str.ofString "__next__") ht F.slot_zip_next (wpAny_call_entry F.slot_zip_next ht F.entry_zip_next (zipD_end ap D1 D2 qz qI qO st1 st2 fin fun h' tk e hk he => ?_) (F.args_zip_next_1 _))))
  obtain ⟨o, g1, g2⟩ := he
  exact wpAny_bind (wpAny_isInstance (T := "StopIteration") (b := true) ⟨o, g1, g2⟩ isSubtype_stop (wpAny_pure (q _ tk hk)))
end
/-- a list, a tuple or a text that is drawn from -/
inductive Kd where
  | l (a : Addr)
  | t (a : Addr)
  | s (x : Str)
noncomputable def Kd.v : Kd → V
  | .l a => .ref a
  | .t a => .ref a
  | .s x => .str x
noncomputable def signsV (x : Str) : List V := x.cps.toList.map fun c => V.str ⟨#[c]⟩
noncomputable def Kd.has (K : PySem.W.Frag) (H : Hp) : Kd → List V → Prop
  | .l a, xs => SqL K H a xs
  | .t a, xs => SqT K H a xs
  | .s x, xs => xs = signsV x
noncomputable def Kd.it (j : Addr) (i : Nat) (h : Heap) : Kd → Prop
  | .l a => h.IsListIter j a i
  | .t a => h.IsTupleIter j a i
  | .s x => ∃ t, h.IsStrIter j (strIterType x) x t i
theorem Kd.it_at {j : Addr} {i : Nat} {h h' : Heap} (p : Kd) (x : p.it j i h) (e : ∀ o, h.get? j = some o → h'.get? j = some o) : p.it j i h' := by
  cases p with
  | l a => exact Heap.IsListIter.at x e
  | t a => exact Heap.IsTupleIter.at x e
  | s z => obtain ⟨t, o, q, r⟩ := x; exact ⟨t, o, e o q, r⟩
theorem Kd.it_obj {j : Addr} {i : Nat} {h : Heap} (p : Kd) (x : p.it j i h) : ∃ o, h.get? j = some o ∧ ∀ v, o.data ≠ .cell v := by
  cases p with
  | l a => obtain ⟨o, q, _, d⟩ := x; exact ⟨o, q, fun v z => by rw [d] at z; cases z⟩
  | t a => obtain ⟨o, q, _, d⟩ := x; exact ⟨o, q, fun v z => by rw [d] at z; cases z⟩
  | s z => obtain ⟨t, o, q, _, d⟩ := x; exact ⟨o, q, fun v z => by rw [d] at z; cases z⟩
theorem kfar {X : Cx} {pins : List (Addr × Obj)} {σ : St} {H : Hp} {s : Shared} {a b : Addr} {o : Obj} (I : Inv X pins σ H s) (hk : X.K.lookup a = some o) (f : FpOk X pins H b) : a ≠ b := fun e => by
  subst e
  have hb := I.ok.mod.kin a o hk
  rcases f.2.2.2.1 with z | z
  · exact I.ok.noex a o hb z
  · exact absurd (Nat.lt_of_lt_of_le (Heap.lt_size hb) (Nat.le_trans I.ok.bsz z)) (Nat.lt_irrefl _)
theorem rdfar {X : Cx} {pins : List (Addr × Obj)} {H : Hp} {a b : Addr} {u : HO} (r : Rd H a u) (f : FpOk X pins H b) : a ≠ b := fun e => by
  have := f.1
  rcases r with r | ⟨o, r⟩ <;> (rw [e, this] at r; cases r)
theorem Kd.draws {X : Cx} {pins : List (Addr × Obj)} {σ : St} {H : Hp} {s : Shared} {j : Addr} {xs : List V} (p : Kd) (I : Inv X pins σ H s) (hc : X.calm = true) (hp : p.has X.K H xs) (fj : FpOk X pins H j) {i0 : Nat} (st : p.it j i0 s.heap) :
    ∃ fp P S, Draws X.prog X.w X.A.in1 j fp xs.length P S ∧ S i0 s.heap ∧ (∀ i h', S i h' → p.it j i h') ∧ (∀ i v, P i v → ∃ x, xs[i]? = some x ∧ RelV x v) ∧ j ∈ fp ∧ ∀ b, FpOk X pins H b → b ≠ j → b ∉ fp := by
  have nh : X.A.in1.handled = none := I.ok.hd hc
  cases p with
  | l a =>
    obtain ⟨its, rv, pl, hz⟩ := I.list hp
    have far : ∀ b, FpOk X pins H b → a ≠ b := fun b f => by
      rcases hp with r | ⟨o, _, _, hk, _⟩
      · exact rdfar r f
      · exact kfar I hk f
    have e : its.toArray.size = xs.length := by rw [List.size_toArray]; exact rv.length.symm
    refine ⟨[j, a], _, _, e ▸ Draws.list nh j a (far j fj) its.toArray, ⟨st, pl.isList⟩, fun i h' h => h.1, fun i v h => ?_, by simp, fun b f nb hb => ?_⟩
    · have h : its[i]? = some v := by simpa using h
      have hi : i < xs.length := by have := (List.getElem?_eq_some_iff.mp h).1; rw [rv.length]; exact this
      obtain ⟨u, hu, ru⟩ := rv.get (List.getElem?_eq_getElem hi)
      rw [h] at hu; cases hu
      exact ⟨_, List.getElem?_eq_getElem hi, ru⟩
    · simp only [List.mem_cons, List.not_mem_nil, or_false] at hb
      rcases hb with hb | hb
      · exact nb hb
      · exact far b f hb.symm
  | t a =>
    obtain ⟨its, rv, pl, hz⟩ := I.tuple hp
    have far : ∀ b, FpOk X pins H b → a ≠ b := fun b f => by
      rcases hp with r | ⟨o, _, _, hk, _⟩
      · exact rdfar r f
      · exact kfar I hk f
    have e : its.toArray.size = xs.length := by rw [List.size_toArray]; exact rv.length.symm
    refine ⟨[j, a], _, _, e ▸ drawsT nh j a (far j fj) its.toArray, ⟨st, pl⟩, fun i h' h => h.1, fun i v h => ?_, by simp, fun b f nb hb => ?_⟩
    · have h : its[i]? = some v := by simpa using h
      have hi : i < xs.length := by have := (List.getElem?_eq_some_iff.mp h).1; rw [rv.length]; exact this
      obtain ⟨u, hu, ru⟩ := rv.get (List.getElem?_eq_getElem hi)
      rw [h] at hu; cases hu
      exact ⟨_, List.getElem?_eq_getElem hi, ru⟩
    · simp only [List.mem_cons, List.not_mem_nil, or_false] at hb
      rcases hb with hb | hb
      · exact nb hb
      · exact far b f hb.symm
  | s z =>
    have hp : xs = signsV z := hp
    have e : z.cps.size = xs.length := by rw [hp]; simp [signsV]
    have pt : ∀ (i : Nat) (v : Value), (∃ (c : Nat) (u : Tok), z.cps[i]? = some c ∧ v = Value.str ⟨#[c]⟩ u) → ∃ x, xs[i]? = some x ∧ RelV x v := fun i v h => by
      obtain ⟨c, u, h1, h2⟩ := h
      refine ⟨.str ⟨#[c]⟩, ?_, ⟨u, h2⟩⟩
      rw [hp]
      simp only [signsV, List.getElem?_map, Array.getElem?_toList, h1, Option.map_some]
    obtain ⟨t, st⟩ := st
    cases ha : z.cps.all (· < 128) with
    | true =>
      have et : strIterType z = "str_ascii_iterator" := by simp [strIterType, ha]
      rw [et] at st
      refine ⟨[j], _, _, e ▸ Draws.strAscii nh j z t, st, fun i h' h => ⟨t, by rw [et]; exact h⟩, pt, by simp, fun b f nb hb => nb (by simpa using hb)⟩
    | false =>
      have et : strIterType z = "str_iterator" := by simp [strIterType, ha]
      rw [et] at st
      refine ⟨[j], _, _, e ▸ Draws.strWide nh j z t, st, fun i h' h => ⟨t, by rw [et]; exact h⟩, pt, by simp, fun b f nb hb => nb (by simpa using hb)⟩
theorem Kd.has_inj {X : Cx} {pins : List (Addr × Obj)} {σ : St} {H : Hp} {s : Shared} {xs ys : List V} (p : Kd) (I : Inv X pins σ H s) (h1 : p.has X.K H xs) (h2 : p.has X.K H ys) : xs = ys := by
  cases p with
  | l a => exact I.list_inj h1 h2
  | t a => exact I.tuple_inj h1 h2
  | s z => exact Eq.trans h1 (Eq.symm h2)
noncomputable def Itk (K : PySem.W.Frag) (p q : Kd) : It := ⟨fun i H => ∃ xs ys, p.has K H xs ∧ q.has K H ys ∧ i < xs.length ∧ i < ys.length,
  fun i H x H' => ∃ T y z, x = .ref T ∧ H T = none ∧ H' = upd H T (.tup [y, z]) ∧ (∀ ys, p.has K H ys → ys[i]? = some y) ∧ ∀ ys, q.has K H ys → ys[i]? = some z,
  fun i H => ∃ xs ys, p.has K H xs ∧ q.has K H ys ∧ (xs.length = i ∨ i < xs.length ∧ ys.length = i)⟩
theorem turn_zipK {P : Program} {w : World} {K : PySem.W.Frag} {elts : List Expr} {n : Nat} {ps : Pos} (p q : Kd) (z TI TO i1 i2 : Addr) (ap : Apart5 z TI TO i1 i2) : Turn P w K (.Tuple elts n ps) (Itk K p q) [z, TI, TO, i1, i2] z
    (fun i h => IsZip h z TI TO .none ∧ IsPair h TI (.ref i1) (.ref i2) ∧ (∃ u v, IsPair h TO u v) ∧ p.it i1 i h ∧ q.it i2 i h) where
  mem := by simp
  obj := fun i h st c hc => by
    obtain ⟨s1, s2, ⟨u, v, s3⟩, s4, s5⟩ := st
    simp only [List.mem_cons, List.not_mem_nil, or_false] at hc
    rcases hc with rfl | rfl | rfl | rfl | rfl
    · exact ⟨_, s1, fun v z => by
        have z' : Data.fields _ = Data.cell v := z
        cases z'⟩
    · exact ⟨_, s2, fun v z => by
        have z' : Data.seq _ = Data.cell v := z
        cases z'⟩
    · exact ⟨_, s3, fun v z => by
        have z' : Data.seq _ = Data.cell v := z
        cases z'⟩
    · exact p.it_obj s4
    · exact q.it_obj s5
  keep := fun i h h' st k => by
    obtain ⟨s1, s2, ⟨u, v, s3⟩, s4, s5⟩ := st
    exact ⟨k _ (by simp) _ s1, k _ (by simp) _ s2, ⟨u, v, k _ (by simp) _ s3⟩, p.it_at s4 fun o e => k _ (by simp) o e, q.it_at s5 fun o e => k _ (by simp) o e⟩
  item := by
    intro X hP hw hK hc i pins s σ H E I hf st hg
    subst hP hw hK
    obtain ⟨s1, s2, ⟨u0, v0, s3⟩, s4, s5⟩ := st
    obtain ⟨xs, ys, hx, hy, lx, ly⟩ := hg
    obtain ⟨f1, P1, S1, D1, d1, b1, v1, m1, n1⟩ := p.draws I hc hx (hf i1 (by simp)) s4
    obtain ⟨f2, P2, S2, D2, d2, b2, v2, m2, n2⟩ := q.draws I hc hy (hf i2 (by simp)) s5
    have za : ZApart z TI TO i1 i2 f1 f2 := ⟨ap, m1, m2, n1 z (hf z (by simp)) ap.c.symm, n2 z (hf z (by simp)) ap.d.symm, n1 TO (hf TO (by simp)) ap.h, n2 TO (hf TO (by simp)) ap.i, n1 i2 (hf i2 (by simp)) ap.j.symm, n2 i1 (hf i1 (by simp)) ap.j⟩
    have hob : ∀ c ∈ [z, TI, TO, i1, i2], ∃ o, s.heap.get? c = some o := fun c hc => by
      simp only [List.mem_cons, List.not_mem_nil, or_false] at hc
      rcases hc with rfl | rfl | rfl | rfl | rfl
      · exact ⟨_, s1⟩
      · exact ⟨_, s2⟩
      · exact ⟨_, s3⟩
      · obtain ⟨o, e, _⟩ := p.it_obj s4; exact ⟨o, e⟩
      · obtain ⟨o, e, _⟩ := q.it_obj s5; exact ⟨o, e⟩
    refine pyNext_zipD za D1 D2 s1 s2 s3 d1 d2 lx ly fun h1 tk u v p1 p2 g1 g2 g3 g4 g5 g7 => ?_
    obtain ⟨x, ex, ru⟩ := v1 i u p1
    obtain ⟨y, ey, rv⟩ := v2 i v p2
    refine ⟨_, rfl, wpAny_letOwnedTupleGo_zip (s := { s with heap := h1, toks := tk }) g1 fun h2 t1 t2 => ?_⟩
    have hT : s.heap.objs.size ≠ z := Nat.ne_of_gt (Heap.lt_size s1)
    obtain ⟨I2, f2⟩ := pairLaid (t' := tk) (h' := h2) (x := x) (y := y) (u := u) (v := v) I ru rv hf hob (by rw [t2.2 _ hT]; exact g5) (fun c o hb e => by
      simp only [List.mem_cons, List.not_mem_nil, or_false, not_or] at hb
      rw [t2.2 _ hb.1]; exact g7 c o hb.1 hb.2.2.1 hb.2.2.2.1 hb.2.2.2.2 e)
    refine ⟨.ref s.heap.objs.size, _, I2, rfl, ⟨_, x, y, rfl, I.hok.fresh (Nat.le_refl _), rfl, fun ys' h' => by rw [p.has_inj I h' hx]; exact ex, fun ys' h' => by rw [q.has_inj I h' hy]; exact ey⟩, ⟨t1, ?_, ⟨u, v, ?_⟩, ?_, ?_⟩, fun b hb => (f2 b hb).1⟩
    · show h2.get? TI = _
      rw [t2.2 _ ap.a]; exact g7 TI _ ap.a ap.e ap.f ap.g s2
    · show h2.get? TO = _
      rw [t2.2 _ ap.b]; exact g2
    · exact p.it_at (b1 _ _ g3) fun o e => by rw [t2.2 _ ap.c]; exact e
    · exact q.it_at (b2 _ _ g4) fun o e => by rw [t2.2 _ ap.d]; exact e
  done := by
    intro X hP hw hK hc i pins s σ H E I hf st hg
    subst hP hw hK
    obtain ⟨s1, s2, ⟨u0, v0, s3⟩, s4, s5⟩ := st
    obtain ⟨xs, ys, hx, hy, fin⟩ := hg
    obtain ⟨f1, P1, S1, D1, d1, b1, v1, m1, n1⟩ := p.draws I hc hx (hf i1 (by simp)) s4
    obtain ⟨f2, P2, S2, D2, d2, b2, v2, m2, n2⟩ := q.draws I hc hy (hf i2 (by simp)) s5
    have za : ZApart z TI TO i1 i2 f1 f2 := ⟨ap, m1, m2, n1 z (hf z (by simp)) ap.c.symm, n2 z (hf z (by simp)) ap.d.symm, n1 TO (hf TO (by simp)) ap.h, n2 TO (hf TO (by simp)) ap.i, n1 i2 (hf i2 (by simp)) ap.j.symm, n2 i1 (hf i1 (by simp)) ap.j⟩
    refine pyNext_zipD_end za D1 D2 s1 s2 s3 d1 d2 fin fun h' tk eb => ⟨rfl, turnedL (fp := [z, TI, TO, i1, i2]) (t' := tk) I (fun c o hb e => ?_) hf⟩
    simp only [List.mem_cons, List.not_mem_nil, or_false, not_or] at hb
    exact eb c o hb.1 hb.2.2.1 hb.2.2.2.1 hb.2.2.2.2 e
  self := fun _ _ _ _ _ st h => wpAny_pyIter_zip st.1 h
noncomputable def Kd.val (t : Tok) : Kd → Value
  | .l a => .ref a
  | .t a => .ref a
  | .s x => .str x t
noncomputable def Kd.obj (t : Tok) : Kd → Obj
  | .l a => { cls := .type "list_iterator", data := .fields #[.ref a, .int 0 0] }
  | .t a => { cls := .type "tuple_iterator", data := .fields #[.ref a, .int 0 0] }
  | .s x => { cls := .type (strIterType x), data := .fields #[.str x t, .int 0 0] }
noncomputable def Kd.inH (h : Heap) : Kd → Prop
  | .l a => ∃ its, h.IsList a its
  | .t a => ∃ its, h.IsTuple a its
  | .s _ => True
theorem Kd.inH_push {h : Heap} (p : Kd) (o : Obj) (e : p.inH h) : p.inH (h.push o) := by
  cases p with
  | l a => obtain ⟨i, e⟩ := e; exact ⟨i, e.push o⟩
  | t a => obtain ⟨i, e⟩ := e; exact ⟨i, e.push o⟩
  | s x => trivial
theorem Kd.iter {prog : Program} {w : World} {A : Around} {E : Value → Shared → Prop} {s : Shared} {Q : Value → Shared → Prop} {t : Tok} (p : Kd) (e : p.inH s.heap)
    (q : Q (.ref s.heap.objs.size) { s with heap := s.heap.push (p.obj t) }) : wpAny (model prog w) A (pyIter (p.val t)) Q E s := by
  cases p with
  | l a => obtain ⟨i, e⟩ := e; exact wpAny_pyIter_list e q
  | t a => obtain ⟨i, e⟩ := e; exact wpAny_pyIter_tuple e q
  | s x => exact wpAny_pyIter_strU q
theorem zip_newK (p1 p2 : Kd) (t1 t2 : Tok) : Meets (Builtin.«zip.__new__» ⟨[.type "zip", p1.val t1, p2.val t2], []⟩) (fun _ R s => p1.inH s.heap ∧ p2.inH s.heap ∧
      ∀ g1 g2 g3 g4 g5 : Heap, g1 = s.heap.push (p1.obj t1) → g2 = g1.push (p2.obj t2) → g3 = g2.push { cls := .type "tuple", data := .seq #[.ref s.heap.objs.size, .ref g1.objs.size] } → g4 = g3.push { cls := .type "tuple", data := .seq #[.none, .none] } →
        g5 = g4.push { cls := .type "zip", data := .fields #[.none, .bool false, .bool false, .ref g2.objs.size, .ref g3.objs.size] } → R (.ok (.ret (.ref g4.objs.size))) { s with heap := g5 }) :=
  .of_wp fun prog w A R s h => by
    obtain ⟨hp, g, d, tk, os⟩ := s; obtain ⟨l1, l2, h⟩ := h
    have sb := sub_zip
    have h := h _ _ _ _ _ rfl rfl rfl rfl rfl
    wp_walk using (Kd.iter p1 (t := t1) (s := ⟨hp, g, d, tk, os⟩) l1), (Kd.iter p2 (t := t2) (s := ⟨hp.push (p1.obj t1), g, d, tk, os⟩) (p2.inH_push _ l2))
    exact ⟨_, rfl, h⟩
theorem call_zipK {prog : Program} {w : World} {A : Around} {E : Value → Shared → Prop} {s : Shared} {Q : Value → Shared → Prop} {t1 t2 : Tok} (p1 p2 : Kd) (l1 : p1.inH s.heap) (l2 : p2.inH s.heap)
    (h : ∀ h', IsZip h' (s.heap.objs.size + 4) (s.heap.objs.size + 2) (s.heap.objs.size + 3) .none → IsPair h' (s.heap.objs.size + 2) (.ref s.heap.objs.size) (.ref (s.heap.objs.size + 1)) → IsPair h' (s.heap.objs.size + 3) .none .none →
      h'.get? s.heap.objs.size = some (p1.obj t1) → h'.get? (s.heap.objs.size + 1) = some (p2.obj t2) → (∀ c o, s.heap.get? c = some o → h'.get? c = some o) → Q (.ref (s.heap.objs.size + 4)) { s with heap := h' }) :
    wpAny (model prog w) A (call (.type "zip") [p1.val t1, p2.val t2]) Q E s := by
  refine callType_new F.called_zip (by decide) (F.typeCall_zip_2 _ _) (F.newCall_zip_2 _ _) (fun obj => F.args_object_init_3 obj _ _) F.entry_zip_new (zip_newK p1 p2 t1 t2) ⟨l1, l2, ?_⟩
  intro g1 g2 g3 g4 g5 e1 e2 e3 e4 e5
  have z1 : g1.objs.size = s.heap.objs.size + 1 := by rw [e1]; exact Heap.size_push ..
  have z2 : g2.objs.size = s.heap.objs.size + 2 := by rw [e2, Heap.size_push, z1]
  have z3 : g3.objs.size = s.heap.objs.size + 3 := by rw [e3, Heap.size_push, z2]
  have z4 : g4.objs.size = s.heap.objs.size + 4 := by rw [e4, Heap.size_push, z3]
  have u5 : ∀ {c o}, g4.get? c = some o → g5.get? c = some o := fun q => by rw [e5]; exact Heap.get?_push_of_some _ q
  have u4 : ∀ {c o}, g3.get? c = some o → g4.get? c = some o := fun q => by rw [e4]; exact Heap.get?_push_of_some _ q
  have u3 : ∀ {c o}, g2.get? c = some o → g3.get? c = some o := fun q => by rw [e3]; exact Heap.get?_push_of_some _ q
  have u2 : ∀ {c o}, g1.get? c = some o → g2.get? c = some o := fun q => by rw [e2]; exact Heap.get?_push_of_some _ q
  have w5 : g5.get? (s.heap.objs.size + 4) = some { cls := .type "zip", data := .fields #[.none, .bool false, .bool false, .ref (s.heap.objs.size + 2), .ref (s.heap.objs.size + 3)] } := by
    rw [← z4, ← z3, ← z2, e5]; exact Heap.get?_push_size _ rfl
  have w4 : g4.get? (s.heap.objs.size + 3) = some { cls := .type "tuple", data := .seq #[.none, .none] } := by rw [← z3, e4]; exact Heap.get?_push_size _ rfl
  have w3 : g3.get? (s.heap.objs.size + 2) = some { cls := .type "tuple", data := .seq #[.ref s.heap.objs.size, .ref (s.heap.objs.size + 1)] } := by rw [← z2, ← z1, e3]; exact Heap.get?_push_size _ rfl
  have w2 : g2.get? (s.heap.objs.size + 1) = some (p2.obj t2) := by rw [← z1, e2]; exact Heap.get?_push_size _ (by cases p2 <;> rfl)
  have w1 : g1.get? s.heap.objs.size = some (p1.obj t1) := by rw [e1]; exact Heap.get?_push_size _ (by cases p1 <;> rfl)
  show _ ∧ _
  rw [z4]
  exact ⟨⟨_, w5, rfl⟩, h g5 w5 (u5 (u4 w3)) (u5 w4) (u5 (u4 (u3 (u2 w1)))) (u5 (u4 (u3 w2))) fun c o q => u5 (u4 (u3 (u2 (by rw [e1]; exact Heap.get?_push_of_some _ q))))⟩
theorem Kd.it0 {j : Addr} {h : Heap} {t : Tok} (p : Kd) (e : h.get? j = some (p.obj t)) : p.it j 0 h := by
  cases p with
  | l a => exact ⟨_, e, rfl, rfl⟩
  | t a => exact ⟨_, e, rfl, rfl⟩
  | s x => exact ⟨t, _, e, rfl, rfl⟩
theorem Kd.inH_of {X : Cx} {pins : List (Addr × Obj)} {σ : St} {H : Hp} {s : Shared} {xs : List V} (p : Kd) (I : Inv X pins σ H s) (h : p.has X.K H xs) : p.inH s.heap := by
  cases p with
  | l a => obtain ⟨its, _, pl, _⟩ := I.list h; exact ⟨_, pl.isList⟩
  | t a => obtain ⟨its, _, pl, _⟩ := I.tuple h; exact ⟨_, pl⟩
  | s x => trivial
theorem Kd.val_of {u : Value} (p : Kd) (r : RelV p.v u) : ∃ t, u = p.val t := by
  cases p with
  | l a => cases r; exact ⟨0, rfl⟩
  | t a => cases r; exact ⟨0, rfl⟩
  | s x => obtain ⟨t, r⟩ := r; exact ⟨t, r⟩
noncomputable def WalkK (K : PySem.W.Frag) (x y : V) (H : Hp) (R : It → Hp → Prop) : Prop := ∃ p q : Kd, x = p.v ∧ y = q.v ∧ (∃ xs, p.has K H xs) ∧ (∃ xs, q.has K H xs) ∧ R (Itk K p q) H
noncomputable def iZipK (K : PySem.W.Frag) (ta : TA) : TI := fun σ H R => ta σ H fun vs H1 => ∃ x y, vs = [x, y] ∧ WalkK K x y H1 R
theorem a_iZipK {K : PySem.W.Frag} {ta : TA} {σ : St} {H : Hp} {R : It → Hp → Prop} : iZipK K ta σ H R = (ta σ H fun vs H1 => ∃ x y, vs = [x, y] ∧ WalkK K x y H1 R) := (rfl)
theorem pi_zipK {X : Cx} {K : PySem.W.Frag} {elts : List Expr} {n : Nat} {ps : Pos} {a b : Expr} {ta : TA} {p pos : Pos} (hK : X.K = K) (hg : Gl X "zip") (hm : X.mg "zip" = none) (ha : PA X [a, b] ta) (hs : starEach [a, b] X.env = [(false, eval a X.env), (false, eval b X.env)] := by rfl) (hs2 : starEach [b] X.env = [(false, eval b X.env)] := by rfl) : PI X (.Tuple elts n ps) (.Call (.Name "zip" p) [a, b] [] pos) (iZipK K ta) := by
  intro pins s σ H R I h
  subst hK
  refine Call_ (ld_blt I hg hm boot_zip (PyProof.Rows.callWith_type1 (thn (ha pos pins s σ H _ I h) fun us s1 ⟨vs, H1, I1, r1, q1⟩ => ?_) (by rw [hs, hs2]) (by rw [hs2]; rfl)))
  obtain ⟨x, y, rfl, p, q, rfl, rfl, ⟨xs, hx⟩, ⟨ys, hy⟩, qq⟩ := q1
  cases r1 with
  | cons r rr =>
  cases rr with
  | cons r' rr =>
  cases rr
  obtain ⟨t1, rfl⟩ := p.val_of r
  obtain ⟨t2, rfl⟩ := q.val_of r'
  refine call_zipK p q (p.inH_of I1 hx) (q.inH_of I1 hy) fun h' g1 g2 g3 g4 g5 g7 => wpAny_pyIter_zip g1 ?_
  have I2 : Inv X pins σ H1 { s1 with heap := h' } := I1.kept (t' := s1.toks) g7
  refine ⟨_, [s1.heap.objs.size + 4, s1.heap.objs.size + 2, s1.heap.objs.size + 3, s1.heap.objs.size, s1.heap.objs.size + 1], _, Itk X.K p q, H1, rfl, I2, turn_zipK p q (s1.heap.objs.size + 4) (s1.heap.objs.size + 2) (s1.heap.objs.size + 3) s1.heap.objs.size (s1.heap.objs.size + 1) (ne5 _), ⟨g1, g2, ⟨_, _, g3⟩, p.it0 g4, q.it0 g5⟩, fun e he => ?_, qq⟩
  have he : s1.heap.objs.size ≤ e := by
    simp only [List.mem_cons, List.not_mem_nil, or_false] at he
    rcases he with rfl | rfl | rfl | rfl | rfl <;> omega
  exact I1.fpOk he (I1.hok.fresh he)
theorem WalkK.for {K : PySem.W.Frag} {p q : Kd} {xs ys : List V} {g : TG} {tb : TS} {D : Ends} {σ : St} {H : Hp} (e : p.has K H xs) (e2 : q.has K H ys) (hxy : xs.length = ys.length) (Pv : Nat → St → Hp → Prop) (h0 : Pv 0 σ H) (hl : ∀ i σ H, i ≤ xs.length → Pv i σ H → p.has K H xs ∧ q.has K H ys)
    (hs : ∀ i x y σ H T H', xs[i]? = some x → ys[i]? = some y → Pv i σ H → Same H H' → H T = none → H' T = some (.tup [x, y]) → g (.ref T) σ H' fun σ2 H2 => tb { D with nx := Pv (i + 1), ct := Pv (i + 1), bk := D.nx } σ2 H2) (hd : ∀ σ H, Pv xs.length σ H → D.nx σ H) : WalkK K p.v q.v H fun J H1 => ForW J g tb D σ H1 := by
  refine ⟨p, q, rfl, rfl, ⟨xs, e⟩, ⟨ys, e2⟩, fun i m σ H => i + m = xs.length ∧ Pv i σ H, ⟨xs.length, by simp, h0⟩, fun i m σ H h => ?_⟩
  obtain ⟨h1, h2⟩ := h
  obtain ⟨ea, eb⟩ := hl i σ H (by omega) h2
  by_cases c : m = 0
  · subst c
    have : i = xs.length := by omega
    subst this
    exact .inl ⟨⟨xs, ys, ea, eb, .inl rfl⟩, hd σ H h2⟩
  · have hi : i < xs.length := by omega
    refine .inr ⟨⟨xs, ys, ea, eb, hi, by omega⟩, Pv (i + 1), fun σ' H' q => ⟨m - 1, by omega, by omega, q⟩, fun x H' y => ?_⟩
    obtain ⟨T, z1, z2, rfl, nT, rfl, hz1, hz2⟩ := y
    exact hs i z1 z2 σ H T _ (hz1 xs ea) (hz2 ys eb) h2 (same_new nT _) nT upd_same
end L2

/-! ### a comprehension whose turn has two names -/
namespace L2
open PySem PySem.Spec PyProof.Rows
section
variable {prog : Program} {w : World} {A : Around} {s : Shared} {env : Env} {R : Result → Shared → Prop}
noncomputable abbrev NE (prog : Program) (w : World) (A : Around) (env : Env) (R : Result → Shared → Prop) : Value → Shared → Prop := notedBy (model prog w) A env fun e s' => R (.error e) s'
theorem compLoop2 {elt iter : Expr} {ts ifs : List Expr} {kt : Nat} {tp pos : Pos} {scope : Scope} {it acc : Value} (J : Nat → Shared → Prop)
    (step : ∀ n s, J n s → wpAny (model prog w) A (pyNext it) (fun r a => match r with
      | none => R (.ok .next) a
      | some v => wpAny (model prog w) A (letOwnedTupleGo (.Tuple ts kt tp) it v) (fun _ a1 => wpAny (model prog w) A (assign (.Tuple ts kt tp) env v) (fun _ b =>
          wpAny (model prog w) A (forIn ifs true fun c r => if r = true then do let ok ← isTrue c env (eval c env); pure (ForInStep.yield ok) else pure (ForInStep.yield r)) (fun ok c =>
            if ok = true then wpAny (model prog w) A (eval elt env) (fun x d => wpAny (model prog w) A (call (.builtin "list.append") [acc, x]) (fun _ e => ∃ m, m < n ∧ J m e) (NE prog w A env R) d) (NE prog w A env R) c
            else ∃ m, m < n ∧ J m c) (NE prog w A env R) b) (NE prog w A env R) a1) (NE prog w A env R) a) (NE prog w A env R) s)
    (n : Nat) (h : J n s) : codeAny (model prog w) A (.compLoop (.ListComp elt [⟨.Tuple ts kt tp, iter, ifs, 0⟩] scope pos) 0 it acc env) R s := by
  refine codeAny_loop rfl J (fun n s hJ => (show wpAny _ A ((compTurn (.ListComp elt [⟨.Tuple ts kt tp, iter, ifs, 0⟩] scope pos) 0 it acc env).onRaise (fun x => do noteFrame x env; theTreesLotGoes x)) _ _ s from wpAny_noted ?_)) n h
  rw [compTurn_list]
  have id2 : ∀ {Y : Value → Shared → Prop} (x : Value) (a : Shared), Y x a → Y x a := fun _ _ z => z
  refine wpAny_bind (wpAny_standAt (wpAny_bind (wpAny_mono (step n s hJ) (fun r a p => ?_) id2)))
  cases r with
  | none => exact wpAny_pure p
  | some v =>
    refine wpAny_bind (wpAny_mono p (fun _ a1 p1 => wpAny_bind (wpAny_mono p1 (fun _ b p2 => wpAny_bind (wpAny_mono p2 (fun ok c p3 => ?_) id2)) id2)) id2)
    cases ok with
    | false => exact wpAny_pure ⟨rfl, p3⟩
    | true => exact wpAny_bind (wpAny_bind (wpAny_mono p3 (fun x d p4 => wpAny_bind (wpAny_mono p4 (fun _ e p5 => wpAny_pure (wpAny_pure ⟨rfl, p5⟩)) id2)) id2))
end
structure CS2 (X : Cx) (scope : Scope) (x y : Str) (N : List Str) (caps : List Nat) : Prop where
  kind : scope.kind = .function
  nocellB : (scope.names.all fun y => y.2 != NameKind.cell) = true
  namesB : (scope.names.all fun y => y.2 != NameKind.local || scope.names.lookup y.1 == some NameKind.local) = true
  lx : scope.names.lookup x = some .local
  ly : scope.names.lookup y = some .local
  nd : N.Nodup
  n0 : N[0]? = some x
  n1 : N[1]? = some y
  capN : caps.map (fun j => X.N[j]?) = (N.drop 2).map some
  capFB : ((N.drop 2).all fun y => scope.names.lookup y == some NameKind.free) = true
  freesB : (scope.names.all fun y => y.2 != NameKind.free || X.env.scope.names.lookup y.1 == some NameKind.cell || X.env.scope.names.lookup y.1 == some NameKind.free) = true
theorem CS2.shape {X : Cx} {scope : Scope} {x y : Str} {N : List Str} {caps : List Nat} (S : CS2 X scope x y N caps) : ∃ r, N = x :: y :: r := by
  have h0 := S.n0
  have h1 := S.n1
  cases N with
  | nil => cases h0
  | cons a r =>
    cases r with
    | nil => cases h1
    | cons b r => cases h0; cases h1; exact ⟨r, rfl⟩
theorem CS2.c {X : Cx} {scope : Scope} {x y : Str} {N : List Str} {caps : List Nat} (S : CS2 X scope x y N caps) : CSc X scope x (x :: N.drop 2) caps := by
  obtain ⟨r, e⟩ := S.shape
  refine ⟨S.kind, S.nocellB, S.namesB, S.lx, ?_, rfl, S.capN, S.capFB, S.freesB⟩
  have h := S.nd
  rw [e] at h ⊢
  simp only [List.nodup_cons, List.mem_cons, not_or] at h
  exact List.nodup_cons.mpr ⟨h.1.2, h.2.2⟩
noncomputable def blkS2 (caps : List Nat) (σ : St) (o p : Option V) : St := o :: p :: caps.map fun j => (σ[j]?).join
section
variable {X : Cx} {pins : List (Addr × Obj)} {σ : St} {H : Hp} {s : Shared} {scope : Scope} {x y : Str} {N : List Str} {caps : List Nat} {fp : List Addr}
theorem CS2.len (S : CS2 X scope x y N caps) : N.length = caps.length + 2 := by
  obtain ⟨r, e⟩ := S.shape
  have h := S.c.len
  rw [e] at h ⊢
  simpa using h
theorem CS2.at (S : CS2 X scope x y N caps) {i : Nat} {z : Str} (h : N[i + 2]? = some z) : ∃ j, caps[i]? = some j ∧ X.N[j]? = some z ∧ scope.names.lookup z = some .free := by
  obtain ⟨r, e⟩ := S.shape
  refine S.c.at (i := i) ?_
  rw [e] at h ⊢
  simpa using h
theorem blk_ok2 (S : CS2 X scope x y N caps) (I : Inv X pins σ H s) (hf : ∀ b ∈ fp, FpOk X pins H b) (hlt : ∀ b ∈ fp, b < s.heap.objs.size) :
    (blk X N scope (s.heap.objs.size + 1) s H (s.heap.objs.size :: fp)).Ok := by
  have o := blk_ok S.c I hf hlt
  exact ⟨o.mod, o.kind, o.glob, o.blt, o.above, o.inj, o.has, o.cab, o.hd, o.frames, o.stk, o.exf, o.bs, o.bsz, o.noex, o.exfs, o.funs, o.frf⟩
theorem blk_inv2 (S : CS2 X scope x y N caps) (I : Inv X pins σ H s) (hf : ∀ b ∈ fp, FpOk X pins H b) (hlt : ∀ b ∈ fp, b < s.heap.objs.size) {h₁ : Heap} {m : Str → Option Value} {tk : Nat}
    (hns : h₁.Ns (s.heap.objs.size + 1) m) (old : ∀ b o, s.heap.get? b = some o → h₁.get? b = some o) :
    Inv (blk X N scope (s.heap.objs.size + 1) s H (s.heap.objs.size :: fp)) [] (blkS2 caps σ none none) H { s with heap := h₁, toks := tk } where
  ok := blk_ok2 S I hf hlt
  os := rfl
  bare := I.bare
  base := Un.kept old
  loc := ⟨m, hns, fun i y v e1 e2 _ => by
    cases i with
    | zero => simp [blkS2] at e2
    | succ i =>
    cases i with
    | zero => simp [blkS2] at e2
    | succ i =>
      obtain ⟨j, hj, hX, hfree⟩ := S.at e1
      have e2' : (σ[j]?).join = some v := by
        simp only [blkS2, List.getElem?_cons_succ, List.getElem?_map, hj, Option.map_some] at e2
        exact Option.some.inj e2
      have e3 : σ[j]? = some (some v) := by
        cases hh : σ[j]? with
        | none => rw [hh] at e2'; simp at e2'
        | some o => rw [hh] at e2'; simp at e2'; rw [e2']
      obtain ⟨m₂, _, hl⟩ := I.loc
      have hk := S.c.frees _ (lookup_mem hfree) rfl
      obtain ⟨u, r, l⟩ := hl j y v hX e3 (by
        rcases hk with k | k
        · exact .inr (.inl k)
        · exact .inr (.inr k))
      refine ⟨u, r, .inr ?_⟩
      rcases l with ⟨k, _⟩ | ⟨_, c, hc, hcell⟩
      · rcases hk with k' | k' <;> (rw [k] at k'; cases k')
      · obtain ⟨o, ho, hd⟩ := hcell
        exact ⟨relabel_free hfree, c, closOf_has (lookup_mem hfree) hc, o, old _ _ ho, hd⟩⟩
  cell := fun y c e => by
    obtain ⟨v, o, ho, hd⟩ := I.cell y c (closOf_sound e)
    exact ⟨v, o, old _ _ ho, hd⟩
  free := I.hok.fresh (Nat.le_succ _)
  freeC := fun y c e => I.freeC y c (closOf_sound e)
  pin := fun p hp => by
    have : p ∈ ([] : List (Addr × Obj)) := hp
    simp at this
  hok := I.hok.kept old
  len := by
    show (blkS2 caps σ none none).length = N.length
    rw [S.len]; simp [blkS2]
/-- [elt for x, y in iter if c] -/
noncomputable def wComp2 (K : PySem.W.Frag) (J : It) (caps : List Nat) (tc : TT) (te : TE) (σ : St) (H1 : Hp) (Q : VK) : Prop :=
  ∃ W : Nat → Nat → List V → Hp → Prop, (∃ m, W 0 m [] H1) ∧ ∀ i m ys H, W i m ys H →
    (J.stop i H ∧ ∀ p, H p = none → Q (.ref p) (upd H p (.lst ys))) ∨
    (J.go i H ∧ ys.length < sizeLine ∧ ∃ N : List V → Hp → Prop, (∀ ys' H', N ys' H' → ∃ m', m' < m ∧ W (i + 1) m' ys' H') ∧ ∀ v H', J.yld i H v H' →
      ∃ T a b, v = .ref T ∧ SqT K H' T [a, b] ∧ tc (blkS2 caps σ (some a) (some b)) H' fun c H2 => if c = true then te (blkS2 caps σ (some a) (some b)) H2 fun y H3 => N (ys ++ [y]) H3 else N ys H2)
noncomputable def tComp2 (K : PySem.W.Frag) (wi : TI) (caps : List Nat) (tc : TT) (te : TE) : TE := fun σ H Q => wi σ H fun J H1 => wComp2 K J caps tc te σ H1 Q

end
theorem a_tComp2 {K : PySem.W.Frag} {wi : TI} {caps : List Nat} {tc : TT} {te : TE} {σ : St} {H : Hp} {Q : VK} : tComp2 K wi caps tc te σ H Q = (wi σ H fun J H1 => wComp2 K J caps tc te σ H1 Q) := (rfl)
theorem Rd.same {H H' : Hp} {a : Addr} {u : HO} (S : Same H H') (r : Rd H a u) : Rd H' a u := by
  rcases r with r | ⟨o, r⟩
  · exact .inl (S _ _ r)
  · exact .inr ⟨o, S _ _ r⟩
theorem Kd.same {K : PySem.W.Frag} {H H' : Hp} {xs : List V} (p : Kd) (S : Same H H') (h : p.has K H xs) : p.has K H' xs := by
  cases p with
  | l a =>
    rcases h with h | h
    · exact .inl (h.same S)
    · exact .inr h
  | t a =>
    rcases h with h | h
    · exact .inl (h.same S)
    · exact .inr h
  | s x => exact h
theorem WalkK.comp {K : PySem.W.Frag} {p q : Kd} {xs zs : List V} {caps : List Nat} {tc : TT} {te : TE} {σ : St} {H : Hp} {Q : VK} (e : p.has K H xs) (e2 : q.has K H zs) (hxy : xs.length = zs.length) (Pv : Nat → List V → Hp → Prop) (h0 : Pv 0 [] H) (hx : xs.length ≤ 100000)
    (hy : ∀ i ys H', Pv i ys H' → ys.length ≤ i)
    (hs : ∀ i x z ys H', xs[i]? = some x → zs[i]? = some z → Same H H' → (∃ H1, Same H H1 ∧ Same H1 H' ∧ Pv i ys H1) → tc (blkS2 caps σ (some x) (some z)) H' fun b H2 => if b = true then te (blkS2 caps σ (some x) (some z)) H2 fun y H3 => Same H H3 ∧ Pv (i + 1) (ys ++ [y]) H3 else Same H H2 ∧ Pv (i + 1) ys H2)
    (hd : ∀ p ys H1 H2, Same H H1 → Same H1 H2 → Pv xs.length ys H1 → H1 p = none → H2 p = some (.lst ys) → Q (.ref p) H2) : WalkK K p.v q.v H fun J H1 => wComp2 K J caps tc te σ H1 Q := by
  refine ⟨p, q, rfl, rfl, ⟨xs, e⟩, ⟨zs, e2⟩, fun i m ys H' => i + m = xs.length ∧ Same H H' ∧ Pv i ys H', ⟨xs.length, by simp, Same.refl _, h0⟩, fun i m ys H' h => ?_⟩
  obtain ⟨h1, S, h2⟩ := h
  by_cases c : m = 0
  · subst c
    have : i = xs.length := by omega
    subst this
    exact .inl ⟨⟨xs, zs, p.same S e, q.same S e2, .inl rfl⟩, fun r n => hd r ys H' _ S (same_new n _) h2 n upd_same⟩
  · have hi : i < xs.length := by omega
    refine .inr ⟨⟨xs, zs, p.same S e, q.same S e2, hi, by omega⟩, Nat.lt_of_le_of_lt (hy _ _ _ h2) (Nat.lt_of_lt_of_le hi (Nat.le_of_lt (small_size hx))), fun ys' H' => Same H H' ∧ Pv (i + 1) ys' H', fun ys' H' z => ⟨m - 1, by omega, by omega, z⟩, fun v H2 y => ?_⟩
    obtain ⟨T, z1, z2, rfl, nT, rfl, hz1, hz2⟩ := y
    refine ⟨T, z1, z2, rfl, SqT.of upd_same, ?_⟩
    exact hs i z1 z2 ys _ (hz1 xs (p.same S e)) (hz2 zs (q.same S e2)) (S.trans (same_new nT _)) ⟨H', S, same_new nT _, h2⟩
end L2

namespace L2
open PySem PySem.Spec PyProof.Rows
/-! ### whole numbers as texts -/
noncomputable def numL (n : Nat) : List Nat := (Nat.toDigits 10 n).map Char.toNat
/-- the text of a whole number -/
noncomputable def numT (n : Nat) : Str := ⟨(numL n).toArray⟩
theorem digit_nat : ∀ a : Fin 10, (Nat.digitChar a.val).toNat = 48 + a.val := by decide
theorem digit_nat' {d : Nat} (h : d < 10) : (Nat.digitChar d).toNat = 48 + d := digit_nat ⟨d, h⟩
theorem numL_lt {n : Nat} (h : n < 10) : numL n = [48 + n] := by unfold numL; rw [Nat.toDigits_of_lt_base h]; simp [digit_nat' h]
theorem numL_ge {n : Nat} (h : 10 ≤ n) : numL n = numL (n / 10) ++ [48 + n % 10] := by unfold numL; rw [Nat.toDigits_of_base_le (by decide) h]; simp [digit_nat' (Nat.mod_lt n (by decide))]
theorem num_facts {n : Nat} (h : n < 10000) : 1 ≤ (numL n).length ∧ (numL n).length ≤ 4 ∧ (∀ c ∈ numL n, 48 ≤ c ∧ c ≤ 57) ∧ (numL n = [48] ∨ (numL n).head? ≠ some 48) ∧ True := by
  by_cases c1 : n < 10
  · rw [numL_lt c1]
    refine ⟨by simp, by simp, fun c hc => by simp at hc; omega, ?_, trivial⟩
    by_cases z : n = 0
    · left; rw [z]
    · right; simp; omega
  by_cases c2 : n < 100
  · rw [numL_ge (by omega), numL_lt (show n / 10 < 10 by omega)]
    exact ⟨by simp, by simp, fun c hc => by simp at hc; omega, .inr (by simp; omega), trivial⟩
  by_cases c3 : n < 1000
  · rw [numL_ge (by omega), numL_ge (show 10 ≤ n / 10 by omega), numL_lt (show n / 10 / 10 < 10 by omega)]
    exact ⟨by simp, by simp, fun c hc => by simp at hc; omega, .inr (by simp; omega), trivial⟩
  rw [numL_ge (by omega), numL_ge (show 10 ≤ n / 10 by omega), numL_ge (show 10 ≤ n / 10 / 10 by omega), numL_lt (show n / 10 / 10 / 10 < 10 by omega)]
  exact ⟨by simp, by simp, fun c hc => by simp at hc; omega, .inr (by simp; omega), trivial⟩
noncomputable def intT (i : Int) : Str := Str.ofString (toString i)
theorem intT_nat (n : Nat) : intT n = numT n := by
  unfold intT numT numL
  show Str.ofString (Nat.repr n) = _
  unfold Nat.repr
  exact PySem.W.Fast.ofString_ofList _
noncomputable def rIntT : List V → Hp → VK → Prop := fun xs H Q => ∃ n : Nat, xs = [.str (numT n)] ∧ n < 10000 ∧ Q (.int n) H
theorem call_intT {X : Cx} : CallR X (.type "int") rIntT := by
  intro pins s σ H xs us Q I r h
  obtain ⟨n, rfl, hn, q⟩ := h
  obtain ⟨u, rfl, t, rfl⟩ := vals1 r
  rw [← intT_nat]
  exact PySem.W.KIN.call_num (n := (n : Int)) (by omega) (by omega) ⟨.int n, H, I.tok _, ⟨_, rfl⟩, q⟩
theorem a_rIntT {xs : List V} {H : Hp} {Q : VK} : rIntT xs H Q = (∃ n : Nat, xs = [.str (numT n)] ∧ n < 10000 ∧ Q (.int n) H) := (rfl)
noncomputable def rStr : List V → Hp → VK → Prop := fun xs H Q => (∃ z, xs = [.str z] ∧ Q (.str z) H) ∨ ∃ i : Int, xs = [.int i] ∧ i.natAbs.log2 < 1900 ∧ Q (.str (intT i)) H
theorem call_strV {X : Cx} : CallR X (.type "str") rStr := by
  intro pins s σ H xs us Q I r h
  rcases h with ⟨z, rfl, q⟩ | ⟨i, rfl, hi, q⟩
  · obtain ⟨u, rfl, t, rfl⟩ := vals1 r
    exact P.str_of_str ⟨.str z, H, I, ⟨_, rfl⟩, q⟩
  · obtain ⟨u, rfl, t, rfl⟩ := vals1 r
    exact P.str_of_int (by omega) ⟨.str _, H, I.tok _, ⟨_, rfl⟩, q⟩
theorem a_rStr {xs : List V} {H : Hp} {Q : VK} : rStr xs H Q = ((∃ z, xs = [.str z] ∧ Q (.str z) H) ∨ ∃ i : Int, xs = [.int i] ∧ i.natAbs.log2 < 1900 ∧ Q (.str (intT i)) H) := (rfl)
end L2

namespace L2
open PySem PySem.Spec PyProof.Rows
open PySem.Builtin.Str PySem.StrLaws
/-! ### a text cut at a mark -/
theorem callSplit {prog : Program} {w : World} {A : Around} {E : Value → Shared → Prop} {s : Shared} {x y : Str} {t u : Tok} {Q : Value → Shared → Prop} (hy : (y.length == 0) = false) (hx : x.length + 2 ≤ sizeLine)
    (q : ∀ (l : List (Str × Tok)) (k : Nat), l.map (·.1) = Txt.split x y → Q (.ref s.heap.objs.size) { s with toks := k, heap := s.heap.push { cls := .type "list", data := .seq (strValues l).toArray } }) :
    wpAny (model prog w) A (call (.builtin "str.split") [.str x t, .str y u]) Q E s := by
  have ln := split_le x y
  have one : Txt.split x y = [x] → Q (.ref s.heap.objs.size) { s with toks := s.toks, heap := s.heap.push { cls := .type "list", data := .seq (strValues [(x, t)]).toArray } } := fun e => q [(x, t)] s.toks e.symm
  unfold Txt.split at ln one q
  cases c1 : (decide (x.length < y.length) || decide (strKind x < strKind y)) with
  | true =>
    rw [c1, if_pos rfl] at one
    exact call_meets F.slot_str_split (typeIs_str _ _ _) F.entry_str_split (F.args_str_split_2 _ _) (meets_str_split_cannot_occur x y t u c1) (one rfl)
  | false =>
    simp only [c1, Bool.false_eq_true, if_false] at ln one q
    cases c2 : (occurrences x y 0 x.length (x.length + 1)).isEmpty with
    | true =>
      rw [c2, if_pos rfl] at one
      exact call_meets F.slot_str_split (typeIs_str _ _ _) F.entry_str_split (F.args_str_split_2 _ _) (meets_str_split_not_found x y t u c1 hy c2) (one rfl)
    | false =>
      simp only [c2, Bool.false_eq_true, if_false] at ln q
      refine call_meets F.slot_str_split (typeIs_str _ _ _) F.entry_str_split (F.args_str_split_2 _ _) (meets_str_split_sep x y t u c1 hy c2 (by omega) (by omega)) ?_
      have := q (numbered s.toks (partsBetween x (occurrences x y 0 x.length (x.length + 1)) y.length)) (s.toks + (partsBetween x (occurrences x y 0 x.length (x.length + 1)) y.length).length) (numbered_texts _ _)
      rw [← strsFrom_eq] at this
      exact this
theorem valsOf (l : List (Str × Tok)) : Vals ((l.map (·.1)).map V.str) (strValues l) := by
  induction l with
  | nil => exact .nil
  | cons a l ih => exact .cons ⟨a.2, rfl⟩ ih
noncomputable def rSplit : V → List V → Hp → VK → Prop := fun x xs H Q => ∃ z y, x = .str z ∧ xs = [.str y] ∧ y.length ≠ 0 ∧ z.length ≤ 100000 ∧ NewO H (.lst ((Txt.split z y).map V.str)) Q
theorem mt_split {X : Cx} : MtR X "str.split" rSplit := by
  intro pins s σ H x xs v us Q I rx rs h
  obtain ⟨z, y, rfl, rfl, hy, hz, q⟩ := h
  obtain ⟨t, rfl⟩ := rx
  obtain ⟨u, rfl, t2, rfl⟩ := vals1 rs
  have hb : (100002 : Nat) ≤ sizeLine := by decide
  refine callSplit (beq_eq_false_iff_ne.mpr hy) (by omega) fun l k e => ?_
  have hl : ((Txt.split z y).map V.str).length ≤ sizeLine := by rw [List.length_map]; have := split_le z y; omega
  refine ⟨.ref s.heap.objs.size, upd H s.heap.objs.size (.lst ((Txt.split z y).map V.str)), ?_, rfl, q _ (I.hok.fresh (Nat.le_refl _))⟩
  refine I.laid (t' := k) (fun b o g => Heap.get?_push_of_some _ g) (Nat.le_refl _) ⟨hl, strValues l, 0, by rw [← e]; exact valsOf l, Heap.get?_push_size _ rfl⟩
theorem a_rSplit {x : V} {xs : List V} {H : Hp} {Q : VK} : rSplit x xs H Q = (∃ z y, x = .str z ∧ xs = [.str y] ∧ y.length ≠ 0 ∧ z.length ≤ 100000 ∧ NewO H (.lst ((Txt.split z y).map V.str)) Q) := (rfl)
/-! ### parts joined by a mark, and cut again -/
/-- lists joined by a mark -/
noncomputable def jn (m : List Nat) : List (List Nat) → List Nat
  | [] => []
  | [d] => d
  | d :: e :: r => d ++ m ++ jn m (e :: r)
theorem jn_cps (sep : Str) : ∀ ds : List Str, (Str.join sep ds).cps.toList = jn sep.cps.toList (ds.map fun d => d.cps.toList)
  | [] => rfl
  | [d] => rfl
  | d :: e :: r => by
    show (d ++ sep ++ Str.join sep (e :: r)).cps.toList = _
    simp only [Str.cps_append, Array.toList_append, jn_cps sep (e :: r), List.map_cons, jn]
/-- wherever the mark's first sign stands, the mark stands -/
noncomputable def marks (c : Nat) (r L : List Nat) : Prop := ∀ k, L[k]? = some c → (L.drop k).take (r.length + 1) = c :: r
theorem split_ne (x y : Str) : Txt.split x y ≠ [] := fun e => by
  have := split_pos x y
  rw [e] at this
  simp at this
theorem len_jn (m : List Nat) : ∀ ds : List (List Nat), (jn m ds).length ≤ (ds.map List.length).sum + ds.length * m.length
  | [] => by simp [jn]
  | [d] => by simp [jn]
  | d :: e :: r => by
    have := len_jn m (e :: r)
    simp only [jn, List.length_append, List.map_cons, List.sum_cons, List.length_cons, Nat.add_mul] at this ⊢
    omega
end L2

namespace L2
open PySem PySem.Spec PyProof.Rows
/-! ### a dict and tuples that stand in the module -/
noncomputable def KD (P : Program) (w : World) (K : PySem.W.Frag) (a : Addr) (kvs : List (Key × V)) : Prop :=
  (a == sysModules) = false ∧ ∃ o es ep vs, K.lookup a = some o ∧ o.ExactDict ∧ o.data = .dict es ep ∧ KeysOf (mixKind P w) es ∧ Pairs (mixKind P w) es.toList vs ∧ (vs.map (·.1)).Nodup ∧ KV kvs vs
noncomputable def KTup (K : PySem.W.Frag) (a : Addr) (xs : List V) : Prop := ∃ (o : Obj) (its : Array Value) (n : Nat), K.lookup a = some o ∧ o.cls = .type "tuple" ∧ o.data = .seq its n ∧ its.size ≤ sizeLine ∧ Vals xs its.toList
theorem KTup.sq {K : PySem.W.Frag} {a : Addr} {xs : List V} (h : KTup K a xs) (H : Hp) : SqT K H a xs := .inr h
theorem KD.at {P : Program} {w : World} {K : PySem.W.Frag} {a : Addr} {kvs : List (Key × V)} {h : Heap} (d : KD P w K a kvs) (k : K.In h) : ∃ vs, KV kvs vs ∧ h.DictOf (mixKind P w) a vs := by
  obtain ⟨_, o, es, ep, vs, l, h1, h2, h3, h4, h5, h6⟩ := d
  exact ⟨vs, h6, o, es, ep, k _ _ l, h1, h2, h3, h4, h5⟩
noncomputable def tKGet (kvs : List (Key × V)) (ty : TE) : TE := fun σ H Q => ty σ H fun y H1 => ∃ k v, y = kV k ∧ valV kvs k = some v ∧ Q v H1
noncomputable def tKNotIn (kvs : List (Key × V)) (ty : TE) : TE := fun σ H Q => ty σ H fun y H1 => ∃ k, y = kV k ∧ Q (.bl (!(valV kvs k).isSome)) H1
theorem a_tKGet {kvs : List (Key × V)} {ty : TE} {σ : St} {H : Hp} {Q : VK} : tKGet kvs ty σ H Q = (ty σ H fun y H1 => ∃ k v, y = kV k ∧ valV kvs k = some v ∧ Q v H1) := (rfl)
theorem a_tKNotIn {kvs : List (Key × V)} {ty : TE} {σ : St} {H : Hp} {Q : VK} : tKNotIn kvs ty σ H Q = (ty σ H fun y H1 => ∃ k, y = kV k ∧ Q (.bl (!(valV kvs k).isSome)) H1) := (rfl)
section
variable {X : Cx} {i : Expr} {n : Str} {p pos : Pos} {ty : TE} {a : Addr} {kvs : List (Key × V)}
theorem pe_kget (d : KD X.prog X.w X.K a kvs) (hg : Gl X n) (hm : X.mg n = some (.ref a)) (hi : PE X i ty) (hs : NoSl i) (hd : (n == ("__debug__" : Str)) = false := by decide) : PE X (.Subscript (.Name n p) i pos) (tKGet kvs ty) := by
  intro pins s σ H Q I h
  refine subD_of PySem.F.slot_dict_getitem.lookup hs (ld_glob I hg hm (thn (hi pins s σ H _ I h) fun iv s2 ⟨y, H2, I2, ry, k, v, ey, l, q2⟩ => ?_) hd)
  subst ey
  obtain ⟨vs, rel, dd⟩ := d.at I2.kIn
  obtain ⟨w', hw, rw'⟩ := RelO.some_of (v := v) (o := valueAt vs k) (by rw [← l]; exact rel.val k)
  exact ⟨dd.typeIs, wpAny_getItem_of (kV_is ry) dd.mapOf hw ⟨v, H2, I2.tok _, rw', q2⟩⟩
theorem pc_knotin (d : KD X.prog X.w X.K a kvs) (hg : Gl X n) (hm : X.mg n = some (.ref a)) (hi : PE X i ty) (hd : (n == ("__debug__" : Str)) = false := by decide) : PC X .NotIn i (.Name n p) (tKNotIn kvs ty) := by
  intro pins s σ H Q I h
  refine thn (hi pins s σ H _ I h) fun iv s2 ⟨y, H2, I2, ry, k, ey, q2⟩ => ld_glob I2 hg hm ?_ hd
  subst ey
  obtain ⟨vs, rel, dd⟩ := d.at I2.kIn
  refine wpAny_notIn_of (kV_is ry) d.1 dd.mapOf ?_
  rw [← (rel.val k).isSome_eq]
  exact ⟨.bl _, H2, I2.tok _, rfl, q2⟩
end
theorem kd4 {P : Program} {w : World} {K : PySem.W.Frag} {a : Addr} {x1 x2 x3 x4 : Str} {t1 t2 t3 t4 : Addr} {h1 h2 h3 h4 : Int} {k1 k2 k3 k4 : Tok} {ep : Nat} (ns : (a == sysModules) = false)
    (l : K.lookup a = some { cls := .type "dict", dict := none, data := .dict #[⟨h1, .str x1 k1, .ref t1⟩, ⟨h2, .str x2 k2, .ref t2⟩, ⟨h3, .str x3 k3, .ref t3⟩, ⟨h4, .str x4 k4, .ref t4⟩] ep, slots := #[] })
    (e1 : h1 = hashStr w x1) (e2 : h2 = hashStr w x2) (e3 : h3 = hashStr w x3) (e4 : h4 = hashStr w x4) (nd : [x1, x2, x3, x4].Nodup) :
    KD P w K a [(.inr x1, .ref t1), (.inr x2, .ref t2), (.inr x3, .ref t3), (.inr x4, .ref t4)] := by
  have is : ∀ (x : Str) (k : Tok), (mixKind P w).is (.inr x) (.str x k) = true := fun x k => by
    show Value.isStrOf x (.str x k) = true
    simp [Value.isStrOf]
  refine ⟨ns, _, _, ep, [(.inr x1, .ref t1), (.inr x2, .ref t2), (.inr x3, .ref t3), (.inr x4, .ref t4)], l, ⟨rfl, rfl, rfl⟩, rfl, fun e he => ?_, ?_, ?_, ?_⟩
  · simp only [List.mem_toArray, List.mem_cons, List.not_mem_nil, or_false] at he
    rcases he with rfl | rfl | rfl | rfl
    · exact ⟨.inr x1, is _ _, e1⟩
    · exact ⟨.inr x2, is _ _, e2⟩
    · exact ⟨.inr x3, is _ _, e3⟩
    · exact ⟨.inr x4, is _ _, e4⟩
  · exact .cons (is _ _) rfl (.cons (is _ _) rfl (.cons (is _ _) rfl (.cons (is _ _) rfl .nil)))
  · have : [Sum.inr x1, Sum.inr x2, Sum.inr x3, Sum.inr x4] = ([x1, x2, x3, x4].map Sum.inr : List Key) := rfl
    show [Sum.inr x1, Sum.inr x2, Sum.inr x3, (Sum.inr x4 : Key)].Nodup
    rw [this]
    exact List.Pairwise.map _ (fun a b h => by simpa using h) nd
  · exact .cons ⟨rfl, rfl⟩ (.cons ⟨rfl, rfl⟩ (.cons ⟨rfl, rfl⟩ (.cons ⟨rfl, rfl⟩ .nil)))
theorem kt2 {K : PySem.W.Frag} {a : Addr} {x1 x2 : Str} {k1 k2 : Tok} {n : Nat} {od : Option Addr} {sl : Array (Option Value)} (l : K.lookup a = some ⟨.type "tuple", od, .seq #[.str x1 k1, .str x2 k2] n, sl⟩) : KTup K a [.str x1, .str x2] :=
  ⟨_, _, n, l, rfl, rfl, (show 2 ≤ sizeLine by decide), .cons ⟨_, rfl⟩ (.cons ⟨_, rfl⟩ .nil)⟩
theorem kt4 {K : PySem.W.Frag} {a : Addr} {x1 x2 x3 x4 : Str} {k1 k2 k3 k4 : Tok} {n : Nat} {od : Option Addr} {sl : Array (Option Value)} (l : K.lookup a = some ⟨.type "tuple", od, .seq #[.str x1 k1, .str x2 k2, .str x3 k3, .str x4 k4] n, sl⟩) : KTup K a [.str x1, .str x2, .str x3, .str x4] :=
  ⟨_, _, n, l, rfl, rfl, (show 4 ≤ sizeLine by decide), .cons ⟨_, rfl⟩ (.cons ⟨_, rfl⟩ (.cons ⟨_, rfl⟩ (.cons ⟨_, rfl⟩ .nil)))⟩
end L2

namespace L2
open PySem PySem.Spec PyProof.Rows
/-! ### l.count(x), a list of texts; any of whole numbers -/
section
variable {X : Cx}
end
/-! ### y = a comprehension of two names -/
section
variable {X : Cx} {pins : List (Addr × Obj)} {σ : St} {H : Hp} {s : Shared} {scope : Scope} {x y : Str} {N : List Str} {caps : List Nat} {fp : List Addr}
end
/-! ### a method's call, within a comprehension's element -/
theorem pe_bmK {X : Cx} {K : PySem.W.Frag} {o e : Expr} {es : List Expr} {to : TE} {t : TA} {name : Str} {apos cpos : Pos} {T id : String} {r : V → List V → Hp → VK → Prop} (hK : X.K = K) (pa : PlainAttrs T) (slot : Slot T name id) (hty : typeOf (.builtin id) = pure (.type "method_descriptor")) (hm : MtR X id r) (ho : PE X o to) (ha : PA X (e :: es) t)
    (h1 : attributeBase o name X.env (eval o X.env) = eval o X.env := by rfl)
    (h2 : ((backTo cpos (starEach (e :: es) X.env)).all (fun x => !x.1) && (backToKw cpos (keywordEach [] X.env)).all (fun x => x.1.isSome) && decide ((e :: es).length + ([] : List Keyword).length + (if ([] : List Keyword).isEmpty then 0 else 1) < 30)) = true := by rfl)
    (h3 : (apos.endLine == cpos.line) = true := by rfl) (h4 : starEach (e :: es) X.env = (false, eval e X.env) :: starEach es X.env := by rfl) (h5 : (backTo cpos (starEach es X.env)).any (·.1) = false := by rfl) :
    PE X (.Call (.Attribute o name apos) (e :: es) [] cpos) (tBM K T r to t) := hK ▸ pe_bm pa slot hty hm ho ha h1 h2 h3 h4 h5
end L2

/-! ### an exception that leaves a comprehension -/
namespace L2
open PySem PySem.Spec PyProof.Rows
open PySem.W (hideAll hideAll_get hideAll_none of_hideAll funFrames_hide fresh_of_stays flyingW_base)
section
variable {M : Model} {A : Around} {E : Value → Shared → Prop} {s : Shared}
theorem setF_held {B : Heap} {l : List Env} {e L : Addr} {cls a0 : Value} {Q : Unit → Shared → Prop} (R : Heap.HeldW B l e cls a0 L s.heap)
    (h : ∀ h', Heap.HeldW B l e cls a0 L h' → (∀ b o, s.heap.get? b = some o → (∀ vs, o.data ≠ .fields vs) → h'.get? b = some o) → Q () { s with heap := h' }) : wpAny M A (setFlight (.ref e) (some L)) Q E s := by
  obtain ⟨k1, k2, k3, oe, vs, T, oT, ts, g1, g2, g3, g4, g5, g6, g7, g8, g9⟩ := R
  have hs : 3 < ts.size := (Array.getElem?_eq_some_iff.mp g9).1
  have oth : ∀ b, b ≠ T → (s.heap.update T (Obj.mapFields (·.setIfInBounds 3 ((some L).elim Value.none fun f => rawInt f)))).get? b = s.heap.get? b := fun b hb => Heap.get?_update_other _ _ (Ne.symm hb)
  have nr : ∀ b o, s.heap.get? b = some o → (∀ vs, o.data ≠ .fields vs) → b ≠ T := fun b o hb hn q => by
    rw [q, g7] at hb; cases hb; exact hn ts g8
  unfold setFlight
  refine wpAny_bind (wpAny_field g1 g3 g4 ?_)
  rw [if_pos (by simp)]
  refine wpAny_setField g7 g8 hs (h _ ⟨fun b o hbo => (oth b fun q => by rw [q, g5] at hbo; cases hbo).trans (k1 b o hbo), k2, k3.of_keeps fun b o hb hn => ⟨o, (oth b (nr b o hb hn)).trans hb, rfl⟩, ?_⟩ fun b o hb hn => (oth b (nr b o hb hn)).trans hb)
  exact ⟨oe, vs, T, _, _, (oth e (Ne.symm g6)).trans g1, g2, g3, g4, g5, g6, Heap.get?_update_self _ g7 (Obj.isFreed_of_fields (Obj.data_mapFields g8 _)), Obj.data_mapFields g8 _, by simp [hs]⟩
theorem frames_but {B B' h h' : Heap} {C : Addr} (sb : Heap.SameBut C h h') (st : B'.StaysIn B) : ∀ {l : List Env}, C ∉ frs l → h.FunFrames B l → h'.FunFrames B' l
  | [], _, _ => trivial
  | env :: l, hC, ⟨k, ⟨L, o, e1, e2, e3, e4⟩, r⟩ => by
    have hL : frs (env :: l) = L :: frs l := by show List.filterMap _ _ = _; rw [List.filterMap_cons_some e1]; rfl
    rw [hL] at hC
    have hC : ¬ (C = L ∨ C ∈ frs l) := fun z => hC (List.mem_cons.mpr z)
    refine ⟨k, ⟨L, o, e1, ?_, (sb.2 L fun z => hC (.inl z.symm)).trans e3, e4⟩, frames_but sb st (fun z => hC (.inr z)) r⟩
    cases hh : B'.get? L with
    | none => rfl
    | some o' => have := st L o' hh; rw [e2] at this; cases this
theorem held_but {B B' h h' : Heap} {l : List Env} {e C L : Addr} {cls a0 : Value} {oC : Obj} (R : Heap.HeldW B l e cls a0 L h) (sb : Heap.SameBut C h h') (hf : C ∉ frs l) (he : e ≠ C) (hB : B.get? C = some oC) (st : B'.StaysIn B) (hB' : B'.get? C = none) : Heap.HeldW B' l e cls a0 L h' := by
  obtain ⟨k1, k2, k3, oe, vs, T, oT, ts, g1, g2, g3, g4, g5, g6, g7, g8, g9⟩ := R
  have no : ∀ b, B.get? b = none → B'.get? b = none := fun b hb => by
    cases hh : B'.get? b with
    | none => rfl
    | some o => have := st b o hh; rw [hb] at this; cases this
  have hT : T ≠ C := fun z => by rw [z, hB] at g5; cases g5
  exact ⟨fun b o q => (sb.2 b fun z => by rw [z, hB'] at q; cases q).trans (k1 b o (st b o q)), no e k2, frames_but sb st hf k3, oe, vs, T, oT, ts, (sb.2 e he).trans g1, g2, g3, g4, no T g5, g6, (sb.2 T hT).trans g7, g8, g9⟩
end
section
variable {X : Cx} {pins : List (Addr × Obj)} {σ : St} {H : Hp} {s : Shared} {E : XK}
/-- as left_ok, one object Cb of the frame's own having changed -/
theorem left_okC (L : Lv X E) {H' : Hp} {h1 h' : Heap} {s1 : Shared} {e C T0 Cb : Addr} {a0 : Value} {oC : Obj} (I : Inv X pins σ H s) (un : Un (frs X.stack) [] H H' s.heap h1) (hok : HOk X.prog X.w H' h1)
    (ne : H' e = none) (nT : H' T0 = none) (fC : FpOk X pins H Cb) (gC : s.heap.get? Cb = some oC) (ge : s.heap.get? e = none) (gT : s.heap.get? T0 = none)
    (fl : Heap.FlyingW (hideAll h1 (e :: T0 :: Cb :: frs X.stack)) X.outer e (.ref C) a0 h')
    (sm : ∀ b o, b ≠ Cb → h1.get? b = some o → (∀ vs, o.data ≠ .fields vs) → ∃ sl, h'.get? b = some { o with slots := sl }) (os : s1.os = s.os) (bare : AllBare s1.gens) (q : E (.ref C) none H') :
    CXE X.prog X.w X.outer X.H₀ X.s₀ E (.ref e) { s1 with heap := h' } := by
  have ex := L.ex
  have hstk := L.stk
  have fs : frs X.stack = X.env.locals :: X.fs := by rw [hstk]; show List.filterMap _ _ = _; rw [List.filterMap_cons_some L.fr]; rfl
  have nCb : H' Cb = none := un.free Cb oC gC fC.1 (by simp)
  have s0C : ∀ b o, X.s₀.heap.get? b = some o → b ≠ Cb := fun b o q z => by
    have h1 := Heap.lt_size q
    rcases fC.2.2.2.1 with h2 | h2
    · rw [ex] at h2; simp at h2
    · exact absurd (Nat.lt_of_lt_of_le h1 h2) (by rw [z]; exact Nat.lt_irrefl _)
  have Cfr : Cb ∉ frs X.stack := by rw [fs]; simp only [List.mem_cons, not_or]; exact ⟨fC.2.1, fC.2.2.1⟩
  have stay : ∀ b o, h1.get? b = some o → b ≠ e → b ≠ T0 → b ≠ Cb → b ∉ frs X.stack → h'.get? b = some o := fun b o q n1 n2 n4 n3 => fl.1 b o (hideAll_get _ q (by simp [n1, n2, n3, n4]))
  have frd : ∀ b ∈ frs X.stack, ∃ o, h1.get? b = some o ∧ ∀ vs, o.data ≠ .fields vs := fun b hb => by
    obtain ⟨o, ho, hn⟩ := I.fr_there hb
    obtain ⟨sl, e1⟩ := un.any ho (I.stkFree b hb) (by simp)
    exact ⟨_, e1, hn⟩
  have frn : ∀ b ∈ frs X.stack, H' b = none := fun b hb => by
    obtain ⟨o, ho, hn⟩ := I.fr_there hb
    exact un.free b o ho (I.stkFree b hb) (by simp)
  have frC : ∀ b ∈ frs X.stack, b ≠ Cb := fun b hb z => Cfr (z ▸ hb)
  obtain ⟨T, hB, F, oT, ts, hT, dT⟩ := Flies.mk fl
  have old : ∀ b o, X.s₀.heap.get? b = some o → ∃ o', s.heap.get? b = some o' := fun b o q => I.base.there b o q (by rw [ex]; simp)
  have T_hid : ∀ o, h1.get? T = some o → T = e ∨ T = T0 ∨ T = Cb ∨ T ∈ frs X.stack := fun o ho => by
    by_cases h1e : T = e
    · exact .inl h1e
    by_cases h2e : T = T0
    · exact .inr (.inl h2e)
    by_cases h4e : T = Cb
    · exact .inr (.inr (.inl h4e))
    by_cases h3e : T ∈ frs X.stack
    · exact .inr (.inr (.inr h3e))
    · rw [hideAll_get _ ho (by simp [h1e, h2e, h3e, h4e])] at hB; cases hB
  have T_fr : ¬ T ∈ frs X.stack := fun hb => by
    obtain ⟨o, ho, hn⟩ := frd T hb
    obtain ⟨sl, e1⟩ := sm T o (frC T hb) ho hn
    rw [hT] at e1
    cases e1
    exact hn _ dT
  refine ⟨e, C, T, H', rfl, F, ⟨ne, ?_, ?_, ?_⟩, ?_, bare, ?_, ?_, q⟩
  · cases hh : H' T with
    | none => rfl
    | some o =>
      obtain ⟨ob, hob⟩ := objOk_get (hok T o hh)
      rcases T_hid ob hob with z | z | z | z
      · rw [z, ne] at hh; cases hh
      · rw [z, nT] at hh; cases hh
      · rw [z, nCb] at hh; cases hh
      · exact absurd z T_fr
  · cases hh : X.s₀.heap.get? e with
    | none => rfl
    | some o => obtain ⟨o', h2⟩ := old e o hh; rw [ge] at h2; cases h2
  · cases hh : X.s₀.heap.get? T with
    | none => rfl
    | some o =>
      obtain ⟨o', h2⟩ := old T o hh
      obtain ⟨o2, h3⟩ := un.there T o' h2 (by simp)
      rcases T_hid o2 h3 with z | z | z | z
      · rw [z, ge] at h2; cases h2
      · rw [z, gT] at h2; cases h2
      · exact absurd z (s0C T o hh)
      · exact absurd z T_fr
  · exact os.trans I.os
  · have nl : ∀ b o, X.s₀.heap.get? b = some o → b ≠ X.env.locals := fun b o q z => by
      have h1 := Heap.lt_size q
      have h2 := I.ok.above
      exact absurd (Nat.lt_of_lt_of_le h1 h2) (by rw [z]; exact Nat.lt_irrefl _)
    refine ⟨fun b o q n hb _ => ?_, fun b o q n hb _ => ?_, fun b o q n _ => ?_, fun b o q _ => ?_, fun b xs q => un.tups b xs (I.base.tups b xs q), fun b o u q => un.frzs b o u (I.base.frzs b o u q), fun b ps q => ?_⟩
    · have k1 := I.base.keep b o q n hb (by rw [ex]; simp)
      have n1 := I.base.free b o q n (by rw [ex]; simp)
      have hb' : b ∉ frs X.stack := by rw [fs]; simp [nl b o q]; exact hb
      have k2 := un.keep b o k1 n1 hb' (by simp)
      exact stay b o k2 (fun z => by rw [z, ge] at k1; cases k1) (fun z => by rw [z, gT] at k1; cases k1) (s0C b o q) hb'
    · obtain ⟨sl, k1⟩ := I.base.slot b o q n hb (by rw [ex]; simp)
      have n1 := I.base.free b o q n (by rw [ex]; simp)
      have hb' : b ∈ frs X.stack := by rw [fs]; exact List.mem_cons_of_mem _ hb
      obtain ⟨sl2, k2⟩ := un.slot b _ k1 n1 hb' (by simp)
      obtain ⟨o', ho', hn'⟩ := frd b hb'
      rw [k2] at ho'
      cases ho'
      obtain ⟨sl3, k3⟩ := sm b _ (s0C b o q) k2 hn'
      exact ⟨sl3, k3⟩
    · obtain ⟨o', h2⟩ := old b o q
      exact un.free b o' h2 (I.base.free b o q n (by rw [ex]; simp)) (by simp)
    · obtain ⟨o', h2⟩ := old b o q
      obtain ⟨o2, h3⟩ := un.there b o' h2 (by simp)
      by_cases hb : b ∈ frs X.stack
      · obtain ⟨o3, ho3, hn3⟩ := frd b hb
        obtain ⟨sl, k⟩ := sm b o3 (s0C b o q) ho3 hn3
        exact ⟨_, k⟩
      · exact ⟨o2, stay b o2 h3 (fun z => by rw [z, ge] at h2; cases h2) (fun z => by rw [z, gT] at h2; cases h2) (s0C b o q) hb⟩
    · obtain ⟨m1, e1⟩ := I.base.tbls b ps q
      obtain ⟨m2, e2⟩ := un.tbls b _ e1
      exact ⟨m1 ++ m2, by rw [e2, Array.append_assoc]⟩
  · intro a o ho
    refine (hok a o ho).stay (fun b u hb q => ?_) (fun _ z => z) fun _ _ z => z
    have hb' : H' b ≠ none := by
      rcases hb with z | z
      · rw [z, ho]; simp
      · rw [z]; simp
    exact stay b u q (fun z => hb' (by rw [z]; exact ne)) (fun z => hb' (by rw [z]; exact nT)) (fun z => hb' (by rw [z]; exact nCb)) fun z => hb' (frn b z)
/-- what the comprehension does with it -/
noncomputable def compErr (X : Cx) (C : Addr) (cenv : Env) (x : Value) (s'' : Shared) : Prop :=
  ∃ m, s''.heap.Ns C m ∧ ∀ h', Heap.SameBut C s''.heap h' → wpAny (model X.prog X.w) X.A (PySem.passOn "comprehension.variables-let-go" x cenv : Sem Value) (fun _ _ => False) X.xe { s'' with heap := h' }
theorem errC (L : Lv X E) {C : Addr} {m : Str → Option Value} {x : Value} {s' : Shared} {cenv cenv2 : Env} (I : Inv X pins σ H s) (fC : FpOk X pins H C) (hC : s.heap.Ns C m) (hx : CXE X.prog X.w X.stack H s E x s') (f1 : cenv.frame = X.env.frame) (f2 : cenv2.frame = X.env.frame) :
    notedBy (model X.prog X.w) X.A cenv (compErr X C cenv2) x s' := by
  obtain ⟨e, Cc, T, H', rfl, ⟨a0, fl⟩, ⟨n1, n2, g1, g2⟩, os, bare, un, hok, q⟩ := hx
  have fl' := fl
  rw [L.stk] at fl'
  obtain ⟨oC, es, ep, hoC, hdC, rC⟩ := id hC
  have fs : frs X.stack = X.env.locals :: X.fs := by rw [L.stk]; show List.filterMap _ _ = _; rw [List.filterMap_cons_some L.fr]; rfl
  have Cfr : C ∉ frs X.stack := by rw [fs]; simp only [List.mem_cons, not_or]; exact ⟨fC.2.1, fC.2.2.1⟩
  have hC1 := un.keep C oC hoC fC.1 Cfr (by simp)
  have eC : e ≠ C := fun z => by rw [z, hoC] at g1; cases g1
  have TC : T ≠ C := fun z => by rw [z, hoC] at g2; cases g2
  show wpAny _ X.A (noteFrame (.ref e) cenv) _ _ _
  have en : noteFrame (.ref e) cenv = noteFrame (.ref e) X.env := by
    unfold noteFrame PySem.frameOf
    rw [f1]
  rw [en]
  refine wpAny_looks_onW (by rw [I.ok.frames, L.stk]) L.fr fl' fun h4 held sm => ?_
  refine ⟨m, sm.ns ⟨oC, es, ep, hC1, hdC, rC⟩, fun h5 sb => ?_⟩
  dsimp only at sb ⊢
  have hB : (hideAll s'.heap (e :: T :: frs (X.env :: X.outer))).get? C = some oC := hideAll_get _ hC1 (by
    rw [← L.stk]
    simp only [List.mem_cons, not_or]
    exact ⟨fun z => eC z.symm, fun z => TC z.symm, Cfr⟩)
  have hst : (hideAll s'.heap (e :: T :: C :: frs X.stack)).StaysIn (hideAll s'.heap (e :: T :: frs (X.env :: X.outer))) := by
    rw [← L.stk]
    exact hide_less fun a ha => by
      simp only [List.mem_cons] at ha ⊢
      rcases ha with z | z | z
      · exact .inl z
      · exact .inr (.inl z)
      · exact .inr (.inr (.inr z))
  have held5 := held_but (B' := hideAll s'.heap (e :: T :: C :: frs X.stack)) held sb (by rw [← L.stk]; exact Cfr) eC hB hst (hideAll_none _ (by simp))
  obtain ⟨k1, k2, k3, oe, vs, Tb, oT, ts, j1, j2, j3, j4, j5, j6, j7, j8, j9⟩ := id held5
  unfold PySem.passOn
  refine wpAny_bind (wpAny_field j1 j3 j4 ?_)
  rw [if_neg (by simp)]
  rw [f2, L.fr]
  refine wpAny_bind (setF_held held5 fun h6 held6 sm6 => ?_)
  refine wpAny_throw ?_
  refine L.xe _ _ ?_
  unfold leaving
  refine wpAny_bind (wpAny_noteFrame_againW L.fr held6.2.2.2 (wpAny_landsW held6 fun h7 fl7 sm7 => ?_))
  obtain ⟨i1, i2, ⟨_, _, i3⟩, i4⟩ := fl7
  refine left_okC (s1 := s') L I un hok n1 n2 fC hoC g1 g2 ⟨i1, i2, i3, i4⟩ (fun b o hb ho hn => ?_) os bare q
  obtain ⟨sl, e4⟩ := sm b o ho hn
  have e5 := (sb.2 b hb).trans e4
  have e6 := sm6 b _ e5 hn
  obtain ⟨sl7, e7⟩ := sm7 b { o with slots := sl } e6 hn
  exact ⟨sl7, e7⟩
end
/-! ### the blocks -/
/-- the block's context, its exceptions being those of a call -/
noncomputable def blkE (X : Cx) (E : XK) (N : List Str) (scope : Scope) (C : Addr) (s : Shared) (H : Hp) (ex : List Addr) : Cx :=
  (blk X N scope C s H ex).wish fun x s' => ∃ pins σ H1 s1, Inv (blk X N scope C s H ex) pins σ H1 s1 ∧ CXE X.prog X.w X.stack H1 s1 E x s'
theorem passB {X : Cx} {E : XK} {N : List Str} {scope : Scope} {C : Addr} {s : Shared} {H : Hp} {ex : List Addr} : Passes (CXE X.prog X.w) (blkE X E N scope C s H ex) E := fun pins σ H1 s1 x s' I h => ⟨pins, σ, H1, s1, I.unwish, h⟩
noncomputable def compPostE (X : Cx) (Q : Value → Shared → Prop) (acc : Value) (C : Addr) (r : Result) (s' : Shared) : Prop :=
  match r with
  | .ok _ => ∃ m, s'.heap.Ns C m ∧ ∀ h', Heap.SameBut C s'.heap h' → Q acc { s' with heap := h' }
  | .error x => compErr X C X.env x s'
theorem comp_freeE {X : Cx} {s : Shared} {e : Expr} {scope : Scope} {pos : Pos} {newAcc first : Sem Value} {g : Comprehension} {gs : List Comprehension} {cl : List (Str × Addr)} {Q : Value → Shared → Prop}
    (hcl : clausesOf e = g :: gs) (hs : ∀ x, foldedSetIterable g.iter X.env x = pure x) (hclos : closureFor scope X.env = pure cl) (hkind : scope.kind = .function) (hnames : ∀ x ∈ scope.names, x.2 = .local → scope.names.lookup x.1 = some .local)
    (h : wpAny (model X.prog X.w) X.A first (fun x s₁ => wpAny (model X.prog X.w) X.A (pyIter x) (fun it s₂ => wpAny (model X.prog X.w) X.A newAcc (fun acc s₃ => wpAny (model X.prog X.w) X.A (newFunctionEnv scope X.env.globals cl [] X.env.qual none .none (some X.env)) (fun cenv s₄ =>
      cenv.frame = X.env.frame ∧ codeAny (model X.prog X.w) X.A (.compStart e 0 it acc { cenv with scope := relabel scope X.env }) (compPostE X Q acc cenv.locals) s₄) X.xe s₃) X.xe s₂) X.xe s₁) X.xe s) :
    wpAny (model X.prog X.w) X.A (comprehension e scope X.env pos newAcc false first none) Q X.xe s := by
  unfold comprehension
  rw [hclos, hcl]
  have id2 : ∀ {Y : Value → Shared → Prop} (x : Value) (a : Shared), Y x a → Y x a := fun _ _ z => z
  refine wpAny_bind (wpAny_mono h (fun x s₁ h₁ => wpAny_bind (wpAny_standAt (wpAny_bind (wpAny_of_eq (hs x) (wpAny_bind (wpAny_holding (wpAny_mono h₁ (fun it s₂ h₂ => wpAny_standIf (wpAny_bind (wpAny_mono h₂ (fun acc s₃ h₃ => wpAny_bind (wpAny_pure (wpAny_bind (wpAny_mono h₃ (fun cenv s₄ h₄ => ?_) id2)))) id2))) id2))))))) id2)
  dsimp only
  obtain ⟨hfr, h₄⟩ := h₄
  generalize hvs : (scope.names.filter fun x => (x.2 == .local || x.2 == .cell) && x.1 != (".0" : Str)).reverse = vs
  have hv : ∀ x ∈ vs, x.2 = .local → Env.kindOf { cenv with scope := relabel scope X.env } x.1 = some .local := fun x hx hl => by
    rw [← hvs] at hx
    exact lookup_relabel_local (hnames x (List.mem_filter.mp (List.mem_reverse.mp hx)).1 hl)
  refine wpAny_holding (wpAny_bind (wpAny_attempt (wpAny_holding (wpAny_run (codeAny_mono h₄ fun r s' hr => ?_)))))
  cases r with
  | ok f =>
    obtain ⟨m, hn, hr⟩ := hr
    exact wpAny_bind (wpAny_holding (wpAny_comp_letGo (cenv := { cenv with scope := relabel scope X.env }) hkind _ s' m hv hn fun h' m' _ hs' => wpAny_pure (hr h' hs')))
  | error x =>
    obtain ⟨m, hn, hr⟩ := hr
    refine wpAny_bind (wpAny_holding (wpAny_comp_letGo (cenv := { cenv with scope := relabel scope X.env }) hkind _ s' m hv hn fun h' m' _ hs' => ?_))
    have z := hr h' hs'
    have ep : (PySem.passOn "comprehension.variables-let-go" x X.env : Sem Value) = PySem.passOn "comprehension.variables-let-go" x { cenv with scope := relabel scope X.env } := by
      unfold PySem.passOn
      dsimp only
      rw [hfr]
    rw [ep] at z
    exact wpAny_mono z (fun _ _ f => f.elim) id2
section
variable {X : Cx} {pins : List (Addr × Obj)} {σ : St} {H : Hp} {s : Shared} {scope : Scope} {x : Str} {N : List Str} {caps : List Nat} {fp : List Addr}
theorem comp_blockE {elt iter : Expr} {px pos : Pos} {ifs : List Expr} {tc : TT} {te : TE} {J : It} {it : Addr} {tn : Nat → Heap → Prop} {Q : VK} {RR : Value → Addr → Result → Shared → Prop} {E : Value → Shared → Prop} {E0 : XK}
    (hcalm : X.calm = true) (S : CSc X scope x N caps) (hc : ∀ C s H ex, PIfs (blk X N scope C s H ex) ifs tc) (he : ∀ C s H ex, PE (blkE X E0 N scope C s H ex) elt te)
    (I : Inv X pins σ H s) (T : Turn X.prog X.w X.K (.Name x px) J fp it tn) (t0 : tn 0 s.heap) (hf : ∀ b ∈ fp, FpOk X pins H b) (wc : wComp J caps tc te σ H Q)
    (fin : ∀ D C s' m' H' ys, Inv X pins σ (upd H' D (.lst ys)) s' → Q (.ref D) (upd H' D (.lst ys)) → s'.heap.Ns C m' → FpOk X pins (upd H' D (.lst ys)) C → C ≠ X.env.locals → RR (.ref D) C (.ok .next) s')
    (err : ∀ D C s1 m1 H1 x s', Inv X pins σ H1 s1 → FpOk X pins H1 C → s1.heap.Ns C m1 → CXE X.prog X.w X.stack H1 s1 E0 x s' → ∀ cenv : Env, cenv.frame = X.env.frame → notedBy (model X.prog X.w) X.A cenv (fun e s'' => RR (.ref D) C (.error e) s'') x s') :
    wpAny (model X.prog X.w) X.A (newList []) (fun acc s₃ => wpAny (model X.prog X.w) X.A (newFunctionEnv scope X.env.globals (closOf X.env.cells scope.names) [] X.env.qual none .none (some X.env)) (fun cenv s₄ => cenv.frame = X.env.frame ∧
      codeAny (model X.prog X.w) X.A (.compStart (.ListComp elt [⟨.Name x px, iter, ifs, 0⟩] scope pos) 0 (.ref it) acc { cenv with scope := relabel scope X.env }) (RR acc cenv.locals) s₄) E s₃) E s := by
  refine wpAny_newObj_type (wpAny_newFunctionEnv S.nocell (by intro y hy; simp at hy) (fun h₁ hns₁ hsb₁ => ?_) S.kind)
  dsimp only at hns₁ hsb₁ ⊢
  refine ⟨rfl, ?_⟩
  generalize hH2 : s.heap.push { cls := .type "list", dict := none, data := .seq ([] : List Value).toArray } = H2 at hns₁ hsb₁ ⊢
  have hC : H2.objs.size = s.heap.objs.size + 1 := by rw [← hH2, Heap.size_push]
  have hDC : s.heap.objs.size ≠ H2.objs.size := by rw [hC]; exact Nat.ne_of_lt (Nat.lt_succ_self _)
  have below : ∀ b, b < s.heap.objs.size → b ≠ H2.objs.size := fun b hb => by rw [hC]; exact Nat.ne_of_lt (Nat.lt_succ_of_lt hb)
  have old : ∀ b o, s.heap.get? b = some o → h₁.get? b = some o := fun b o e => hsb₁.extBut b o (below b (Heap.lt_size e)) (Heap.get?_push_of_some _ (hH2 ▸ Heap.get?_push_of_some _ e))
  have hacc : h₁.get? s.heap.objs.size = some (lobj [] 0) := hsb₁.extBut _ _ hDC (Heap.get?_push_of_some _ (hH2 ▸ Heap.get?_push_size _ rfl))
  have hlt : ∀ b ∈ fp, b < s.heap.objs.size := fun b hb => by
    obtain ⟨o, e, _⟩ := T.obj 0 _ t0 b hb
    exact Heap.lt_size e
  have hDfp : s.heap.objs.size ∉ fp := fun z => Nat.lt_irrefl _ (hlt _ z)
  have hDok : FpOk X pins H s.heap.objs.size := I.fpOk (Nat.le_refl _) (I.hok.fresh (Nat.le_refl _))
  have hCok : FpOk X pins H H2.objs.size := I.fpOk (by rw [hC]; exact Nat.le_succ _) (I.hok.fresh (by rw [hC]; exact Nat.le_succ _))
  rw [hC] at hns₁ hDC hCok ⊢
  clear hC
  generalize hD : s.heap.objs.size = D at hacc hDfp hDok hDC
  have IY := blk_inv S I hf hlt (h₁ := h₁) (tk := s.toks + ([] : List (Str × Value)).length) hns₁ old
  rw [hD] at IY hns₁ hCok
  generalize hY : blk X N scope (D + 1) s H (D :: fp) = Y at IY
  have envY : Y.env = compEnvC scope (closOf X.env.cells scope.names) (D + 1) X.env := by rw [← hY]; rfl
  have exY : Y.ex = D :: fp := by rw [← hY]; rfl
  have fsY : Y.fs = frs X.stack := by rw [← hY]; rfl
  have pnY : Y.pn = [] := by rw [← hY]; rfl
  have locY : Y.env.locals = D + 1 := by rw [envY]; rfl
  have hcY : PIfs Y ifs tc := by rw [← hY]; exact hc _ _ _ _
  obtain ⟨xeY, hxeY⟩ : ∃ xeY : Value → Shared → Prop, xeY = fun x s' => ∃ pins σ H1 s1, Inv Y pins σ H1 s1 ∧ CXE X.prog X.w X.stack H1 s1 E0 x s' := ⟨_, rfl⟩
  have heY : PE (Y.wish xeY) elt te := by rw [hxeY, ← hY]; exact he _ _ _ _
  have prY : Y.prog = X.prog ∧ Y.w = X.w ∧ Y.K = X.K ∧ Y.calm = X.calm ∧ Y.A = X.A ∧ Y.N = N ∧ Y.xe = fun _ _ => False := by rw [← hY]; exact ⟨rfl, rfl, rfl, rfl, rfl, rfl, rfl⟩
  obtain ⟨pr1, pr2, pr3, pr4, pr5, pr6, pr7⟩ := prY
  -- what a block's state has of the records
  have fpY : ∀ {H' : Hp} {pl : List (Addr × Obj)}, (∀ b ∈ fp, H' b = none) → (∀ p ∈ pl, p.1 = D) → ∀ b ∈ fp, FpOk Y pl H' b := fun {H' pl} hn hp b hb => by
    refine ⟨hn b hb, ?_, ?_, .inl (by rw [exY]; exact List.mem_cons_of_mem _ hb), fun y c e => (IY.ok.exf b (by rw [exY]; exact List.mem_cons_of_mem _ hb)).2 y c e, fun p hpp z => ?_⟩
    · exact (IY.ok.exf b (by rw [exY]; exact List.mem_cons_of_mem _ hb)).1
    · exact IY.ok.exfs b (by rw [exY]; exact List.mem_cons_of_mem _ hb)
    · rw [pnY, List.nil_append] at hpp
      exact hDfp (by rw [← hp p hpp, z]; exact hb)
  have hDY : D ∈ Y.ex := by rw [exY]; exact List.mem_cons_self
  -- D pinned
  have pinD : ∀ {H' : Hp} {s' : Shared} {σ' : St} {its : List Value} {k : Nat}, Inv Y [] σ' H' s' → H' D = none → s'.heap.get? D = some (lobj its k) → Inv Y [(D, lobj its k)] σ' H' s' := fun {H' s' σ' its k} I' hn e =>
    I'.pins_of fun p hp => by
      have hp' : p = (D, lobj its k) := by simpa using hp
      subst hp'
      refine ⟨e, hn, (IY.ok.exf D hDY).1, IY.ok.exfs D hDY, fun v z => ?_⟩
      have z' : Data.seq its.toArray k = Data.cell v := z
      cases z'
  obtain ⟨W, ⟨m0, w0⟩, turn⟩ := wc
  have loop : ∀ s₃ : Shared, s₃ = { s with heap := h₁, toks := s.toks + ([] : List (Str × Value)).length } →
      codeAny (model X.prog X.w) X.A (.compLoop (.ListComp elt [⟨.Name x px, iter, ifs, 0⟩] scope pos) 0 (.ref it) (.ref D) Y.env) (RR (.ref D) (D + 1)) s₃ := by
    rintro s₃ rfl
    refine codeAny_compLoop_tests
      (fun n s' => ∃ i ys its k H', Inv Y [(D, lobj its k)] (blkSt caps σ none) H' s' ∧ Vals ys its ∧ ys.length ≤ sizeLine ∧ tn i s'.heap ∧ (∀ b ∈ fp, H' b = none) ∧ W i n ys H') ?_ m0
      ⟨0, [], [], 0, H, pinD IY hDok.1 hacc, .nil, Nat.zero_le _, T.keep _ _ _ t0 fun b _ o e => old b o e, fun b hb => (hf b hb).1, w0⟩
    rintro n s1 ⟨i, ys, its, k, H1, I1, rv, hl, st1, fr1, w1⟩
    have pin1 : ∀ p ∈ [(D, lobj its k)], p.1 = D := fun p hp => by
      have hp' : p = (D, lobj its k) := by simpa using hp
      rw [hp']
    rcases turn i n ys H1 w1 with ⟨stop, qn⟩ | ⟨go, hsz, Nx, hNx, step⟩
    · have z := T.done Y pr1 pr2 pr3 (pr4.trans hcalm) i [(D, lobj its k)] s1 (blkSt caps σ none) H1 (notedBy (model X.prog X.w) X.A Y.env fun e s' => RR (.ref D) (D + 1) (.error e) s') I1 (fpY fr1 pin1) st1 stop
      rw [pr5] at z
      refine thn z fun r s2 ⟨hr, I2⟩ => ?_
      subst hr
      obtain ⟨eD, nD, _, _, _⟩ := I2.pin (D, lobj its k) (List.mem_append_right _ List.mem_cons_self)
      have hU : Un (frs X.stack) (D :: fp) H (upd H1 D (.lst ys)) s.heap s2.heap := by
        have b := I2.base
        rw [fsY, exY] at b
        have b' : Un (frs X.stack) (D :: fp) H H1 s.heap s2.heap := by
          have e1 : Y.H₀ = H := by rw [← hY]; rfl
          have e2 : Y.s₀ = s := by rw [← hY]; rfl
          rw [e1, e2] at b; exact b
        have ne : ∀ a u, H1 a = some u → a ≠ D := fun a u e => ne_of_none e nD
        exact ⟨b'.keep, b'.slot, fun a o e n hx => by rw [upd_ne (fun z => hx (by rw [z]; exact List.mem_cons_self))]; exact b'.free a o e n hx, b'.there,
          fun a xs e => by rw [upd_ne (ne _ _ (b'.tups a xs e))]; exact b'.tups a xs e, fun a o u e => by rw [upd_ne (ne _ _ (b'.frzs a o u e))]; exact b'.frzs a o u e,
          fun a ps e => by obtain ⟨mo, q⟩ := b'.tbls a ps e; exact ⟨mo, by rw [upd_ne (ne _ _ q)]; exact q⟩⟩
      have hHok : HOk X.prog X.w (upd H1 D (.lst ys)) s2.heap := by
        have q := I2.hok
        rw [pr1, pr2] at q
        exact q.adopt nD ⟨hl, its, k, rv, eD⟩
      have IX : Inv X pins σ (upd H1 D (.lst ys)) s2 := I.call' (by have := I2.os; rw [show Y.s₀ = s by rw [← hY]; rfl] at this; exact this) hU hHok I2.bare (fun b hb => by
        rcases List.mem_cons.mp hb with rfl | hb
        · exact ⟨hDok.2.2.2.1, hDok.2.1, hDok.2.2.2.2.1, hDok.2.2.2.2.2⟩
        · have q := hf b hb
          exact ⟨q.2.2.2.1, q.2.1, q.2.2.2.2.1, q.2.2.2.2.2⟩)
      obtain ⟨mC, hnC, _⟩ := I2.loc
      rw [locY] at hnC
      have fC := I2.free
      rw [locY] at fC
      exact fin D (D + 1) s2 mC H1 ys IX (qn D nD) hnC ⟨by rw [upd_ne (fun z => hDC z.symm)]; exact fC, hCok.2⟩ hCok.2.1
    · have z := wp_pull (T.item Y pr1 pr2 pr3 (pr4.trans hcalm) i [(D, lobj its k)] s1 (blkSt caps σ none) H1 (notedBy (model X.prog X.w) X.A Y.env fun e s' => RR (.ref D) (D + 1) (.error e) s') I1 (fpY fr1 pin1) st1 go)
      rw [pr5] at z
      refine thn z fun r s2 ⟨u, hr, v, H2, I2, ru, yld, st2, fr2⟩ => ?_
      subst hr
      have I2' := I2.pinned (fpY fr2 pin1) (T.obj _ _ st2)
      have lxY : Y.env.scope.names.lookup x = some .local := by rw [envY]; exact lookup_relabel_local S.lx
      have g := pg_name (X := Y) (i := 0) (x := x) (pos := px) (by rw [pr6]; exact S.nd) (by rw [pr6]; exact S.n0) (.inl lxY) (.inr lxY)
      have a := g _ s2 _ H2 v u (fun σ' H' => σ' = blkSt caps σ (some v) ∧ H' = H2) I2' ru ⟨rfl, rfl⟩
      rw [pr1, pr2, pr5, pr7] at a
      refine wpAny_mono a (fun _ s3 ⟨σ3, H3, I3, e1, e2⟩ => ?_) fun _ _ f => f.elim
      subst e1 e2
      have c := hcY _ s3 _ H3 _ I3 (step v H3 yld)
      rw [pr1, pr2, pr5, pr7] at c
      refine wpAny_mono c (fun b s4 ⟨H4, I4, q4⟩ => ?_) fun _ _ f => f.elim
      -- the turn's end: D's object is told, the rest kept
      have again : ∀ {s5 : Shared} {H5 : Hp} {ys' : List V} {its' : List Value} {k' m' : Nat}, Inv Y (pinsAt fp s2.heap) (blkSt caps σ (some v)) H5 s5 → H5 D = none → s5.heap.get? D = some (lobj its' k') → Vals ys' its' → ys'.length ≤ sizeLine → m' < n → W (i + 1) m' ys' H5 →
          ∃ m, m < n ∧ ∃ i ys its k H', Inv Y [(D, lobj its k)] (blkSt caps σ none) H' s5 ∧ Vals ys its ∧ ys.length ≤ sizeLine ∧ tn i s5.heap ∧ (∀ b ∈ fp, H' b = none) ∧ W i m ys H' := fun {s5 H5 ys' its' k' m'} I5 nD eD rv' hl' hm w' => by
        refine ⟨m', hm, i + 1, ys', its', k', H5, pinD ((I5.pins_of fun p hp => by simp at hp).weak (by simp [blkSt]) fun j w hj => ?_) nD eD, rv', hl', T.keep _ _ _ st2 fun b hb o e => (I5.pin (b, o) (List.mem_append_right _ (mem_pinsAt hb e))).1, fun b hb => ?_, w'⟩
        · cases j with
          | zero => simp [blkSt] at hj
          | succ j => simpa [blkSt] using hj
        · obtain ⟨o, e, d⟩ := T.obj _ _ st2 b hb
          exact (I5.pin (b, o) (List.mem_append_right _ (mem_pinsAt hb e))).2.1
      have drop1 : ∀ {s5 : Shared} {H5 : Hp} {σ5 : St}, Inv Y ([(D, lobj its k)] ++ pinsAt fp s2.heap) σ5 H5 s5 → Inv Y (pinsAt fp s2.heap) σ5 H5 s5 := fun I5 => I5.pins_of fun p hp => I5.pin p (List.mem_append_right _ (List.mem_append_right _ hp))
      cases b with
      | false =>
        obtain ⟨m', hm, w'⟩ := hNx _ _ q4
        obtain ⟨eD, nD, _⟩ := I4.pin (D, lobj its k) (List.mem_append_right _ (List.mem_append_left _ List.mem_cons_self))
        exact again (drop1 I4) nD eD rv hl hm w'
      | true =>
        rw [if_pos rfl]
        rw [if_pos rfl] at q4
        have d := heY _ s4 _ H4 _ (I4.wish _) q4
        have d : wpAny (model Y.prog Y.w) Y.A (eval elt Y.env) (EP (Y.wish xeY) _ _ _) xeY s4 := d
        rw [pr1, pr2, pr5] at d
        refine wpAny_mono d (fun w s5 ⟨y, H5, I5, ry, q5⟩ => ?_) fun x9 s9 hx9 => ?_
        rotate_left
        · rw [hxeY] at hx9
          obtain ⟨pins9, σ9, H9, s8, I9, cx9⟩ := hx9
          have b9 := I9.base
          rw [fsY, exY, show Y.H₀ = H by rw [← hY]; rfl, show Y.s₀ = s by rw [← hY]; rfl] at b9
          have o9 := I9.os
          rw [show Y.s₀ = s by rw [← hY]; rfl] at o9
          have k9 := I9.hok
          rw [pr1, pr2] at k9
          have IX : Inv X pins σ H9 s8 := I.call' o9 b9 k9 I9.bare (fun b hb => by
            rcases List.mem_cons.mp hb with rfl | hb
            · exact ⟨hDok.2.2.2.1, hDok.2.1, hDok.2.2.2.2.1, hDok.2.2.2.2.2⟩
            · have q := hf b hb
              exact ⟨q.2.2.2.1, q.2.1, q.2.2.2.2.1, q.2.2.2.2.2⟩)
          obtain ⟨mC, hnC, _⟩ := I9.loc
          rw [locY] at hnC
          have fC := I9.free
          rw [locY] at fC
          exact err D (D + 1) s8 mC H9 x9 s9 IX ⟨fC, hCok.2⟩ hnC cx9 Y.env (by rw [envY]; rfl)
        have I5 := I5.unwish
        obtain ⟨m', hm, w'⟩ := hNx _ _ q5
        obtain ⟨eD, nD, _⟩ := I5.pin (D, lobj its k) (List.mem_append_right _ (List.mem_append_left _ List.mem_cons_self))
        refine append_at (hsz := by rw [List.size_toArray, ← rv.length]; exact hl) eD fun h6 hs6 hD6 => ?_
        have I6 : Inv Y (pinsAt fp s2.heap) (blkSt caps σ (some v)) H5 { s5 with heap := h6, toks := s5.toks } := (drop1 I5).turned (fun b o hb e => (hs6.2 b hb).trans e) nD (IY.ok.exf D hDY).1 (.inl hDY) (fun y c e => (IY.ok.exf D hDY).2 y c e) (fun p hp => by
          rw [pnY, List.nil_append] at hp
          intro z
          exact hDfp (by rw [← z]; exact (of_pinsAt hp).1))
        refine again (ys' := ys ++ [y]) (its' := its ++ [w]) (k' := k + 1) I6 nD ?_ (rv.append (.cons ry .nil)) (by rw [List.length_append, List.length_singleton]; exact hsz) hm w'
        rw [hD6]
        show some ({ cls := .type "list", data := .seq (its.toArray.push w) (k + 1) } : Obj) = some { cls := .type "list", data := .seq (its ++ [w]).toArray (k + 1) }
        rw [List.push_toArray]
  rw [envY] at loop
  have st1 : tn 0 h₁ := T.keep _ _ _ t0 fun b _ o e => old b o e
  exact codeAny_compStart_list (loop _ rfl) (T.self _ 0 _ _ _ st1 (loop _ rfl))
theorem pe_compE {E0 : XK} {elt iter : Expr} {px pos : Pos} {ifs : List Expr} {wi : TI} {tc : TT} {te : TE} (L : Lv X E0) (hcalm : X.calm = true) (S : CSc X scope x N caps) (hi : PI X (.Name x px) iter wi)
    (hc : ∀ C s H ex, PIfs (blk X N scope C s H ex) ifs tc) (he : ∀ C s H ex, PE (blkE X E0 N scope C s H ex) elt te) (hs : ∀ x, foldedSetIterable iter X.env x = pure x := by intro _; rfl) :
    PE X (.ListComp elt [⟨.Name x px, iter, ifs, 0⟩] scope pos) (tComp wi caps tc te) := by
  intro pins s σ H Q I h
  rw [eval_ListComp]
  refine comp_freeE rfl hs (closureFor_of (S.cells I.ok)) S.kind S.names (thn (hi pins s σ H _ I h) fun xv s1 h1 => thn h1 fun itv s2 h2 => ?_)
  obtain ⟨it, fp, tn, J, H2, e, I2, T, st2, f2, wc⟩ := h2
  subst e
  refine comp_blockE (E0 := E0) (RR := fun acc C => compPostE X (EP X pins σ Q) acc C) hcalm S hc he I2 T st2 f2 wc (fun D C s' m' H' ys I' q hn fC _ => ?_) fun D C s1 m1 H1 x s' IX fC hn cx cenv hf => errC L IX fC hn cx hf rfl
  refine ⟨m', hn, fun h' hs' => ⟨.ref D, upd H' D (.lst ys), ?_, rfl, q⟩⟩
  exact I'.turned (t' := s'.toks) (fun b o hb e => (hs'.2 b hb).trans e) fC.1 fC.2.1 fC.2.2.2.1 fC.2.2.2.2.1 fC.2.2.2.2.2
variable {y : Str}
theorem comp_blockE2 {elt iter : Expr} {px py pt pos : Pos} {kx : Nat} {ifs : List Expr} {tc : TT} {te : TE} {J : It} {it : Addr} {tn : Nat → Heap → Prop} {Q : VK} {RR : Value → Addr → Result → Shared → Prop} {E : Value → Shared → Prop} {E0 : XK}
    (hcalm : X.calm = true) (S : CS2 X scope x y N caps) (hc : ∀ C s H ex, PIfs (blk X N scope C s H ex) ifs tc) (he : ∀ C s H ex, PE (blkE X E0 N scope C s H ex) elt te)
    (I : Inv X pins σ H s) (T : Turn X.prog X.w X.K (.Tuple [.Name x px, .Name y py] kx pt) J fp it tn) (t0 : tn 0 s.heap) (hf : ∀ b ∈ fp, FpOk X pins H b) (wc : wComp2 X.K J caps tc te σ H Q)
    (fin : ∀ D C s' m' H' ys, Inv X pins σ (upd H' D (.lst ys)) s' → Q (.ref D) (upd H' D (.lst ys)) → s'.heap.Ns C m' → FpOk X pins (upd H' D (.lst ys)) C → C ≠ X.env.locals → RR (.ref D) C (.ok .next) s')
    (err : ∀ D C s1 m1 H1 x s', Inv X pins σ H1 s1 → FpOk X pins H1 C → s1.heap.Ns C m1 → CXE X.prog X.w X.stack H1 s1 E0 x s' → ∀ cenv : Env, cenv.frame = X.env.frame → notedBy (model X.prog X.w) X.A cenv (fun e s'' => RR (.ref D) C (.error e) s'') x s') :
    wpAny (model X.prog X.w) X.A (newList []) (fun acc s₃ => wpAny (model X.prog X.w) X.A (newFunctionEnv scope X.env.globals (closOf X.env.cells scope.names) [] X.env.qual none .none (some X.env)) (fun cenv s₄ => cenv.frame = X.env.frame ∧
      codeAny (model X.prog X.w) X.A (.compStart (.ListComp elt [⟨.Tuple [.Name x px, .Name y py] kx pt, iter, ifs, 0⟩] scope pos) 0 (.ref it) acc { cenv with scope := relabel scope X.env }) (RR acc cenv.locals) s₄) E s₃) E s := by
  refine wpAny_newObj_type (wpAny_newFunctionEnv S.c.nocell (by intro y hy; simp at hy) (fun h₁ hns₁ hsb₁ => ?_) S.kind)
  dsimp only at hns₁ hsb₁ ⊢
  refine ⟨rfl, ?_⟩
  generalize hH2 : s.heap.push { cls := .type "list", dict := none, data := .seq ([] : List Value).toArray } = H2 at hns₁ hsb₁ ⊢
  have hC : H2.objs.size = s.heap.objs.size + 1 := by rw [← hH2, Heap.size_push]
  have hDC : s.heap.objs.size ≠ H2.objs.size := by rw [hC]; exact Nat.ne_of_lt (Nat.lt_succ_self _)
  have below : ∀ b, b < s.heap.objs.size → b ≠ H2.objs.size := fun b hb => by rw [hC]; exact Nat.ne_of_lt (Nat.lt_succ_of_lt hb)
  have old : ∀ b o, s.heap.get? b = some o → h₁.get? b = some o := fun b o e => hsb₁.extBut b o (below b (Heap.lt_size e)) (Heap.get?_push_of_some _ (hH2 ▸ Heap.get?_push_of_some _ e))
  have hacc : h₁.get? s.heap.objs.size = some (lobj [] 0) := hsb₁.extBut _ _ hDC (Heap.get?_push_of_some _ (hH2 ▸ Heap.get?_push_size _ rfl))
  have hlt : ∀ b ∈ fp, b < s.heap.objs.size := fun b hb => by
    obtain ⟨o, e, _⟩ := T.obj 0 _ t0 b hb
    exact Heap.lt_size e
  have hDfp : s.heap.objs.size ∉ fp := fun z => Nat.lt_irrefl _ (hlt _ z)
  have hDok : FpOk X pins H s.heap.objs.size := I.fpOk (Nat.le_refl _) (I.hok.fresh (Nat.le_refl _))
  have hCok : FpOk X pins H H2.objs.size := I.fpOk (by rw [hC]; exact Nat.le_succ _) (I.hok.fresh (by rw [hC]; exact Nat.le_succ _))
  rw [hC] at hns₁ hDC hCok ⊢
  clear hC
  generalize hD : s.heap.objs.size = D at hacc hDfp hDok hDC
  have IY := blk_inv2 S I hf hlt (h₁ := h₁) (tk := s.toks + ([] : List (Str × Value)).length) hns₁ old
  rw [hD] at IY hns₁ hCok
  generalize hY : blk X N scope (D + 1) s H (D :: fp) = Y at IY
  have envY : Y.env = compEnvC scope (closOf X.env.cells scope.names) (D + 1) X.env := by rw [← hY]; rfl
  have exY : Y.ex = D :: fp := by rw [← hY]; rfl
  have fsY : Y.fs = frs X.stack := by rw [← hY]; rfl
  have pnY : Y.pn = [] := by rw [← hY]; rfl
  have locY : Y.env.locals = D + 1 := by rw [envY]; rfl
  have hcY : PIfs Y ifs tc := by rw [← hY]; exact hc _ _ _ _
  obtain ⟨xeY, hxeY⟩ : ∃ xeY : Value → Shared → Prop, xeY = fun x s' => ∃ pins σ H1 s1, Inv Y pins σ H1 s1 ∧ CXE X.prog X.w X.stack H1 s1 E0 x s' := ⟨_, rfl⟩
  have heY : PE (Y.wish xeY) elt te := by rw [hxeY, ← hY]; exact he _ _ _ _
  have prY : Y.prog = X.prog ∧ Y.w = X.w ∧ Y.K = X.K ∧ Y.calm = X.calm ∧ Y.A = X.A ∧ Y.N = N ∧ Y.xe = fun _ _ => False := by rw [← hY]; exact ⟨rfl, rfl, rfl, rfl, rfl, rfl, rfl⟩
  obtain ⟨pr1, pr2, pr3, pr4, pr5, pr6, pr7⟩ := prY
  -- what a block's state has of the records
  have fpY : ∀ {H' : Hp} {pl : List (Addr × Obj)}, (∀ b ∈ fp, H' b = none) → (∀ p ∈ pl, p.1 = D) → ∀ b ∈ fp, FpOk Y pl H' b := fun {H' pl} hn hp b hb => by
    refine ⟨hn b hb, ?_, ?_, .inl (by rw [exY]; exact List.mem_cons_of_mem _ hb), fun y c e => (IY.ok.exf b (by rw [exY]; exact List.mem_cons_of_mem _ hb)).2 y c e, fun p hpp z => ?_⟩
    · exact (IY.ok.exf b (by rw [exY]; exact List.mem_cons_of_mem _ hb)).1
    · exact IY.ok.exfs b (by rw [exY]; exact List.mem_cons_of_mem _ hb)
    · rw [pnY, List.nil_append] at hpp
      exact hDfp (by rw [← hp p hpp, z]; exact hb)
  have hDY : D ∈ Y.ex := by rw [exY]; exact List.mem_cons_self
  -- D pinned
  have pinD : ∀ {H' : Hp} {s' : Shared} {σ' : St} {its : List Value} {k : Nat}, Inv Y [] σ' H' s' → H' D = none → s'.heap.get? D = some (lobj its k) → Inv Y [(D, lobj its k)] σ' H' s' := fun {H' s' σ' its k} I' hn e =>
    I'.pins_of fun p hp => by
      have hp' : p = (D, lobj its k) := by simpa using hp
      subst hp'
      refine ⟨e, hn, (IY.ok.exf D hDY).1, IY.ok.exfs D hDY, fun v z => ?_⟩
      have z' : Data.seq its.toArray k = Data.cell v := z
      cases z'
  obtain ⟨W, ⟨m0, w0⟩, turn⟩ := wc
  have loop : ∀ s₃ : Shared, s₃ = { s with heap := h₁, toks := s.toks + ([] : List (Str × Value)).length } →
      codeAny (model X.prog X.w) X.A (.compLoop (.ListComp elt [⟨.Tuple [.Name x px, .Name y py] kx pt, iter, ifs, 0⟩] scope pos) 0 (.ref it) (.ref D) Y.env) (RR (.ref D) (D + 1)) s₃ := by
    rintro s₃ rfl
    refine compLoop2
      (fun n s' => ∃ i ys its k H', Inv Y [(D, lobj its k)] (blkS2 caps σ none none) H' s' ∧ Vals ys its ∧ ys.length ≤ sizeLine ∧ tn i s'.heap ∧ (∀ b ∈ fp, H' b = none) ∧ W i n ys H') ?_ m0
      ⟨0, [], [], 0, H, pinD IY hDok.1 hacc, .nil, Nat.zero_le _, T.keep _ _ _ t0 fun b _ o e => old b o e, fun b hb => (hf b hb).1, w0⟩
    rintro n s1 ⟨i, ys, its, k, H1, I1, rv, hl, st1, fr1, w1⟩
    have pin1 : ∀ p ∈ [(D, lobj its k)], p.1 = D := fun p hp => by
      have hp' : p = (D, lobj its k) := by simpa using hp
      rw [hp']
    rcases turn i n ys H1 w1 with ⟨stop, qn⟩ | ⟨go, hsz, Nx, hNx, step⟩
    · have z := T.done Y pr1 pr2 pr3 (pr4.trans hcalm) i [(D, lobj its k)] s1 (blkS2 caps σ none none) H1 (notedBy (model X.prog X.w) X.A Y.env fun e s' => RR (.ref D) (D + 1) (.error e) s') I1 (fpY fr1 pin1) st1 stop
      rw [pr5] at z
      refine thn z fun r s2 ⟨hr, I2⟩ => ?_
      subst hr
      obtain ⟨eD, nD, _, _, _⟩ := I2.pin (D, lobj its k) (List.mem_append_right _ List.mem_cons_self)
      have hU : Un (frs X.stack) (D :: fp) H (upd H1 D (.lst ys)) s.heap s2.heap := by
        have b := I2.base
        rw [fsY, exY] at b
        have b' : Un (frs X.stack) (D :: fp) H H1 s.heap s2.heap := by
          have e1 : Y.H₀ = H := by rw [← hY]; rfl
          have e2 : Y.s₀ = s := by rw [← hY]; rfl
          rw [e1, e2] at b; exact b
        have ne : ∀ a u, H1 a = some u → a ≠ D := fun a u e => ne_of_none e nD
        exact ⟨b'.keep, b'.slot, fun a o e n hx => by rw [upd_ne (fun z => hx (by rw [z]; exact List.mem_cons_self))]; exact b'.free a o e n hx, b'.there,
          fun a xs e => by rw [upd_ne (ne _ _ (b'.tups a xs e))]; exact b'.tups a xs e, fun a o u e => by rw [upd_ne (ne _ _ (b'.frzs a o u e))]; exact b'.frzs a o u e,
          fun a ps e => by obtain ⟨mo, q⟩ := b'.tbls a ps e; exact ⟨mo, by rw [upd_ne (ne _ _ q)]; exact q⟩⟩
      have hHok : HOk X.prog X.w (upd H1 D (.lst ys)) s2.heap := by
        have q := I2.hok
        rw [pr1, pr2] at q
        exact q.adopt nD ⟨hl, its, k, rv, eD⟩
      have IX : Inv X pins σ (upd H1 D (.lst ys)) s2 := I.call' (by have := I2.os; rw [show Y.s₀ = s by rw [← hY]; rfl] at this; exact this) hU hHok I2.bare (fun b hb => by
        rcases List.mem_cons.mp hb with rfl | hb
        · exact ⟨hDok.2.2.2.1, hDok.2.1, hDok.2.2.2.2.1, hDok.2.2.2.2.2⟩
        · have q := hf b hb
          exact ⟨q.2.2.2.1, q.2.1, q.2.2.2.2.1, q.2.2.2.2.2⟩)
      obtain ⟨mC, hnC, _⟩ := I2.loc
      rw [locY] at hnC
      have fC := I2.free
      rw [locY] at fC
      exact fin D (D + 1) s2 mC H1 ys IX (qn D nD) hnC ⟨by rw [upd_ne (fun z => hDC z.symm)]; exact fC, hCok.2⟩ hCok.2.1
    · have z := T.item Y pr1 pr2 pr3 (pr4.trans hcalm) i [(D, lobj its k)] s1 (blkS2 caps σ none none) H1 (NE X.prog X.w X.A Y.env (RR (.ref D) (D + 1))) I1 (fpY fr1 pin1) st1 go
      rw [pr5] at z
      refine thn z fun r s2' z2 => ?_
      obtain ⟨u, hr, z2⟩ := z2
      subst hr
      refine thn z2 fun _ s2 ⟨v, H2, I2, ru, yld, st2, fr2⟩ => ?_
      have I2' := I2.pinned (fpY fr2 pin1) (T.obj _ _ st2)
      have lxY : Y.env.scope.names.lookup x = some .local := by rw [envY]; exact lookup_relabel_local S.lx
      have lyY : Y.env.scope.names.lookup y = some .local := by rw [envY]; exact lookup_relabel_local S.ly
      have g1 := pg_name (X := Y) (i := 0) (x := x) (pos := px) (by rw [pr6]; exact S.nd) (by rw [pr6]; exact S.n0) (.inl lxY) (.inr lxY)
      have g2 := pg_name (X := Y) (i := 1) (x := y) (pos := py) (by rw [pr6]; exact S.nd) (by rw [pr6]; exact S.n1) (.inl lyY) (.inr lyY)
      have g := pg_tup (X := Y) (pos := pt) (k := kx) (n := 2) (pr4.trans hcalm) (pgs_cons g1 (pgs_cons g2 pgs_nil))
      obtain ⟨T1, a1, b1, ev, hT1, stp⟩ := step v H2 yld
      have a := g _ s2 _ H2 v u (fun σ' H' => σ' = blkS2 caps σ (some a1) (some b1) ∧ H' = H2) I2' ru ⟨T1, [a1, b1], ev, by rw [pr3]; exact hT1, rfl, a1, [b1], rfl, b1, [], rfl, rfl, rfl, rfl⟩
      rw [pr1, pr2, pr5, pr7] at a
      refine wpAny_mono a (fun _ s3 ⟨σ3, H3, I3, e1, e2⟩ => ?_) fun _ _ f => f.elim
      subst e1 e2
      have c := hcY _ s3 _ _ _ I3 stp
      rw [pr1, pr2, pr5, pr7] at c
      refine wpAny_mono c (fun b s4 ⟨H4, I4, q4⟩ => ?_) fun _ _ f => f.elim
      -- the turn's end: D's object is told, the rest kept
      have again : ∀ {s5 : Shared} {H5 : Hp} {ys' : List V} {its' : List Value} {k' m' : Nat}, Inv Y (pinsAt fp s2.heap) (blkS2 caps σ (some a1) (some b1)) H5 s5 → H5 D = none → s5.heap.get? D = some (lobj its' k') → Vals ys' its' → ys'.length ≤ sizeLine → m' < n → W (i + 1) m' ys' H5 →
          ∃ m, m < n ∧ ∃ i ys its k H', Inv Y [(D, lobj its k)] (blkS2 caps σ none none) H' s5 ∧ Vals ys its ∧ ys.length ≤ sizeLine ∧ tn i s5.heap ∧ (∀ b ∈ fp, H' b = none) ∧ W i m ys H' := fun {s5 H5 ys' its' k' m'} I5 nD eD rv' hl' hm w' => by
        refine ⟨m', hm, i + 1, ys', its', k', H5, pinD ((I5.pins_of fun p hp => by simp at hp).weak (by simp [blkS2]) fun j w hj => ?_) nD eD, rv', hl', T.keep _ _ _ st2 fun b hb o e => (I5.pin (b, o) (List.mem_append_right _ (mem_pinsAt hb e))).1, fun b hb => ?_, w'⟩
        · cases j with
          | zero => simp [blkS2] at hj
          | succ j =>
          cases j with
          | zero => simp [blkS2] at hj
          | succ j => simpa [blkS2] using hj
        · obtain ⟨o, e, d⟩ := T.obj _ _ st2 b hb
          exact (I5.pin (b, o) (List.mem_append_right _ (mem_pinsAt hb e))).2.1
      have drop1 : ∀ {s5 : Shared} {H5 : Hp} {σ5 : St}, Inv Y ([(D, lobj its k)] ++ pinsAt fp s2.heap) σ5 H5 s5 → Inv Y (pinsAt fp s2.heap) σ5 H5 s5 := fun I5 => I5.pins_of fun p hp => I5.pin p (List.mem_append_right _ (List.mem_append_right _ hp))
      cases b with
      | false =>
        obtain ⟨m', hm, w'⟩ := hNx _ _ q4
        obtain ⟨eD, nD, _⟩ := I4.pin (D, lobj its k) (List.mem_append_right _ (List.mem_append_left _ List.mem_cons_self))
        exact again (drop1 I4) nD eD rv hl hm w'
      | true =>
        rw [if_pos rfl]
        rw [if_pos rfl] at q4
        have d := heY _ s4 _ H4 _ (I4.wish _) q4
        have d : wpAny (model Y.prog Y.w) Y.A (eval elt Y.env) (EP (Y.wish xeY) _ _ _) xeY s4 := d
        rw [pr1, pr2, pr5] at d
        refine wpAny_mono d (fun w s5 ⟨y, H5, I5, ry, q5⟩ => ?_) fun x9 s9 hx9 => ?_
        rotate_left
        · rw [hxeY] at hx9
          obtain ⟨pins9, σ9, H9, s8, I9, cx9⟩ := hx9
          have b9 := I9.base
          rw [fsY, exY, show Y.H₀ = H by rw [← hY]; rfl, show Y.s₀ = s by rw [← hY]; rfl] at b9
          have o9 := I9.os
          rw [show Y.s₀ = s by rw [← hY]; rfl] at o9
          have k9 := I9.hok
          rw [pr1, pr2] at k9
          have IX : Inv X pins σ H9 s8 := I.call' o9 b9 k9 I9.bare (fun b hb => by
            rcases List.mem_cons.mp hb with rfl | hb
            · exact ⟨hDok.2.2.2.1, hDok.2.1, hDok.2.2.2.2.1, hDok.2.2.2.2.2⟩
            · have q := hf b hb
              exact ⟨q.2.2.2.1, q.2.1, q.2.2.2.2.1, q.2.2.2.2.2⟩)
          obtain ⟨mC, hnC, _⟩ := I9.loc
          rw [locY] at hnC
          have fC := I9.free
          rw [locY] at fC
          exact err D (D + 1) s8 mC H9 x9 s9 IX ⟨fC, hCok.2⟩ hnC cx9 Y.env (by rw [envY]; rfl)
        have I5 := I5.unwish
        obtain ⟨m', hm, w'⟩ := hNx _ _ q5
        obtain ⟨eD, nD, _⟩ := I5.pin (D, lobj its k) (List.mem_append_right _ (List.mem_append_left _ List.mem_cons_self))
        refine append_at (hsz := by rw [List.size_toArray, ← rv.length]; exact hl) eD fun h6 hs6 hD6 => ?_
        have I6 : Inv Y (pinsAt fp s2.heap) (blkS2 caps σ (some a1) (some b1)) H5 { s5 with heap := h6, toks := s5.toks } := (drop1 I5).turned (fun b o hb e => (hs6.2 b hb).trans e) nD (IY.ok.exf D hDY).1 (.inl hDY) (fun y c e => (IY.ok.exf D hDY).2 y c e) (fun p hp => by
          rw [pnY, List.nil_append] at hp
          intro z
          exact hDfp (by rw [← z]; exact (of_pinsAt hp).1))
        refine again (ys' := ys ++ [y]) (its' := its ++ [w]) (k' := k + 1) I6 nD ?_ (rv.append (.cons ry .nil)) (by rw [List.length_append, List.length_singleton]; exact hsz) hm w'
        rw [hD6]
        show some ({ cls := .type "list", data := .seq (its.toArray.push w) (k + 1) } : Obj) = some { cls := .type "list", data := .seq (its ++ [w]).toArray (k + 1) }
        rw [List.push_toArray]
  rw [envY] at loop
  have st1 : tn 0 h₁ := T.keep _ _ _ t0 fun b _ o e => old b o e
  exact codeAny_compStart_list (loop _ rfl) (T.self _ 0 _ _ _ st1 (loop _ rfl))
theorem pe_compE2 {E0 : XK} {elt iter : Expr} {px py pt pos : Pos} {kx : Nat} {K : PySem.W.Frag} {ifs : List Expr} {wi : TI} {tc : TT} {te : TE} (L : Lv X E0) (hcalm : X.calm = true) (hK : X.K = K) (S : CS2 X scope x y N caps) (hi : PI X (.Tuple [.Name x px, .Name y py] kx pt) iter wi)
    (hc : ∀ C s H ex, PIfs (blk X N scope C s H ex) ifs tc) (he : ∀ C s H ex, PE (blkE X E0 N scope C s H ex) elt te) (hs : ∀ x, foldedSetIterable iter X.env x = pure x := by intro _; rfl) :
    PE X (.ListComp elt [⟨.Tuple [.Name x px, .Name y py] kx pt, iter, ifs, 0⟩] scope pos) (tComp2 K wi caps tc te) := by
  intro pins s σ H Q I h
  subst hK
  rw [eval_ListComp]
  refine comp_freeE rfl hs (closureFor_of (S.c.cells I.ok)) S.kind S.c.names (thn (hi pins s σ H _ I h) fun xv s1 h1 => thn h1 fun itv s2 h2 => ?_)
  obtain ⟨it, fp, tn, J, H2, e, I2, T, st2, f2, wc⟩ := h2
  subst e
  refine comp_blockE2 (E0 := E0) (RR := fun acc C => compPostE X (EP X pins σ Q) acc C) hcalm S hc he I2 T st2 f2 wc (fun D C s' m' H' ys I' q hn fC _ => ?_) fun D C s1 m1 H1 x s' IX fC hn cx cenv hf => errC L IX fC hn cx hf rfl
  refine ⟨m', hn, fun h' hs' => ⟨.ref D, upd H' D (.lst ys), ?_, rfl, q⟩⟩
  exact I'.turned (t' := s'.toks) (fun b o hb e => (hs'.2 b hb).trans e) fC.1 fC.2.1 fC.2.2.2.1 fC.2.2.2.2.1 fC.2.2.2.2.2
end
theorem mt_joinK {X : Cx} {K : PySem.W.Frag} (hK : X.K = K) : MtR X "str.join" (rJoin K) := hK ▸ mt_join
/-! ### texts: the parts of a cut, numbers -/
section
open PySem.Builtin.Str PySem.StrLaws
theorem sub_len (x : Str) (a b : Nat) : (strSub x a b).length ≤ x.length := by
  have h := congrArg List.length (strSub_toList x a b)
  have e1 : (strSub x a b).cps.toList.length = (strSub x a b).length := by simp [Str.length]
  have e2 : x.cps.toList.length = x.length := by simp [Str.length]
  rw [e1, List.length_take, List.length_drop, e2] at h
  omega
theorem sub_mem {x : Str} {a b c : Nat} (h : c ∈ (strSub x a b).cps.toList) : c ∈ x.cps.toList := by
  rw [strSub_toList] at h
  exact List.mem_of_mem_drop (List.mem_of_mem_take h)
theorem parts_len (x : Str) (n : Nat) : ∀ (cuts : List Nat) (a : Nat), ∀ p ∈ partsFrom x n a cuts, p.length ≤ x.length ∧ ∀ c ∈ p.cps.toList, c ∈ x.cps.toList
  | [], a, p, hm => by rw [List.mem_singleton.mp hm]; exact ⟨sub_len _ _ _, fun c hc => sub_mem hc⟩
  | d :: r, a, p, hm => by
    rcases List.mem_cons.mp hm with rfl | hm
    · exact ⟨sub_len _ _ _, fun c hc => sub_mem hc⟩
    · exact parts_len x n r _ p hm
/-- a part is no longer than the whole, and of its signs -/
theorem split_len (x y : Str) : ∀ p ∈ Txt.split x y, p.length ≤ x.length ∧ ∀ c ∈ p.cps.toList, c ∈ x.cps.toList := by
  unfold Txt.split
  split
  · intro p hm; rw [List.mem_singleton.mp hm]; exact ⟨Nat.le_refl _, fun _ h => h⟩
  · split
    · intro p hm; rw [List.mem_singleton.mp hm]; exact ⟨Nat.le_refl _, fun _ h => h⟩
    · rw [partsBetween_eq]
      exact parts_len x _ _ 0
theorem split_few (x y : Str) : (Txt.split x y).length ≤ x.length + 2 := by have := split_le x y; omega
end
theorem str_of_list {x : Str} {l : List Nat} (h : x.cps.toList = l) : x = ⟨l.toArray⟩ := by
  cases x with
  | mk a => cases a with
    | mk m => simp only at h; rw [h]
theorem numT_of {x : Str} {l : List Nat} (h : x.cps.toList = l) (h1 : 1 ≤ l.length) (h4 : l.length ≤ 4) (hd : ∀ c ∈ l, 48 ≤ c ∧ c ≤ 57) (hz : l = [48] ∨ l.head? ≠ some 48) : ∃ n, n < 10000 ∧ x = numT n := by
  suffices z : ∃ n, n < 10000 ∧ numL n = l by
    obtain ⟨n, hn, e⟩ := z
    exact ⟨n, hn, by rw [str_of_list h, ← e]; rfl⟩
  match l, h1, h4, hd, hz with
  | [a], _, _, hd, _ =>
    have ha := hd a (by simp)
    exact ⟨a - 48, by omega, by rw [numL_lt (by omega)]; congr 1; omega⟩
  | [a, b], _, _, hd, hz =>
    have ha := hd a (by simp)
    have hb := hd b (by simp)
    have h0 : a ≠ 48 := by rcases hz with z | z; simp at z; simpa using z
    refine ⟨10 * (a - 48) + (b - 48), by omega, ?_⟩
    rw [numL_ge (by omega), numL_lt (by omega)]
    simp; omega
  | [a, b, c], _, _, hd, hz =>
    have ha := hd a (by simp)
    have hb := hd b (by simp)
    have hc := hd c (by simp)
    have h0 : a ≠ 48 := by rcases hz with z | z; simp at z; simpa using z
    refine ⟨100 * (a - 48) + 10 * (b - 48) + (c - 48), by omega, ?_⟩
    rw [numL_ge (by omega), numL_ge (by omega), numL_lt (by omega)]
    simp; omega
  | [a, b, c, d], _, _, hd, hz =>
    have ha := hd a (by simp)
    have hb := hd b (by simp)
    have hc := hd c (by simp)
    have hd' := hd d (by simp)
    have h0 : a ≠ 48 := by rcases hz with z | z; simp at z; simpa using z
    refine ⟨1000 * (a - 48) + 100 * (b - 48) + 10 * (c - 48) + (d - 48), by omega, ?_⟩
    rw [numL_ge (by omega), numL_ge (by omega), numL_ge (by omega), numL_lt (by omega)]
    simp; omega
  | _ :: _ :: _ :: _ :: _ :: _, _, h4, _, _ => simp at h4
/-- as many answers as askings, or none -/
noncomputable def optL {α β : Type} (f : α → Option β) : List α → Option (List β)
  | [] => some []
  | a :: l => match f a, optL f l with
    | some b, some bs => some (b :: bs)
    | _, _ => none
theorem optL_snoc {α β : Type} {f : α → Option β} : ∀ {l : List α} {ys : List β} {a : α} {b : β}, optL f l = some ys → f a = some b → optL f (l ++ [a]) = some (ys ++ [b])
  | [], ys, a, b, h, e => by cases h; simp [optL, e]
  | c :: l, ys, a, b, h, e => by
    simp only [optL] at h
    split at h
    · rename_i y bs e1 e2
      cases h
      simp only [List.cons_append, optL, e1, optL_snoc e2 e]
    · cases h
theorem optL_take {α β : Type} {f : α → Option β} {l : List α} {i : Nat} {ys : List β} {a : α} {b : β} (h : optL f (l.take i) = some ys) (hi : l[i]? = some a) (e : f a = some b) : optL f (l.take (i + 1)) = some (ys ++ [b]) := by
  rw [List.take_add_one, hi]
  exact optL_snoc h e
theorem optL_none {α β : Type} {f : α → Option β} : ∀ {l : List α} {i : Nat} {a : α}, l[i]? = some a → f a = none → optL f l = none
  | c :: l, 0, a, h, e => by cases h; simp [optL, e]
  | c :: l, i + 1, a, h, e => by
    have := optL_none (l := l) (i := i) h e
    simp only [optL, this]
    split <;> simp_all
theorem optL_len {α β : Type} {f : α → Option β} : ∀ {l : List α} {ys : List β}, optL f l = some ys → ys.length = l.length
  | [], ys, h => by cases h; rfl
  | a :: l, ys, h => by
    simp only [optL] at h
    split at h
    · rename_i y bs e1 e2
      cases h
      simp [optL_len e2]
    · cases h
end L2

set_option maxHeartbeats 4000000
namespace K62
open PySem L2
local macro_rules | `(tactic| walk_at "rd") => `(tactic| simp only [a_tDisp, a_pNil, a_pCons, a_iZipK, a_tComp2, a_rIntT, a_rStr, a_rSplit, a_tKGet, a_tKNotIn, a_tFor, a_tSet, a_tSetC, a_tVar, a_tC, a_tIsN, a_tB, a_tAnd, a_tOr, a_tNot, a_tAndV, a_tOrV, a_tNext, a_tSeq, a_tDrop, a_tRet, a_tIfS, a_gName, a_gNil, a_gCons, a_gTup, a_gSub, a_tAsg, a_iRng1, a_tOp, a_tUn, a_rI, a_rI0, a_rU, a_rEq, a_rNe, a_tTest, a_tChain, a_tNil, a_tCons, b_tTup, b_tLst, a_tCall, a_tCB, a_tNoPart, a_tPart, a_tSl, b_rSlT, a_rIxL, a_rIxS, b_rSetL, a_tBM, b_rAppend, b_rRep, a_tDGet, a_tDGet2, a_tYes, a_tComp, a_iStr, a_rSlS, a_rJoin, a_rEqD, a_rIsi, a_rCatD, a_rIxF, a_rSlLF, a_rLenF, a_rIntB, ty_str, tJs, a_tFmtR, a_tRaise, a_tTry, a_tCallJ, a_rIsE, a_rTupF, a_rSlU, a_tFmtS, a_iL, a_iT, L2.start, blkSt, cxOf_K, blk_K, List.getElem?_cons_zero, List.getElem?_cons_succ, Option.some.injEq, Option.join_some, exists_eq_left', exists_eq_left, exists_eq_right, V.int.injEq, V.ref.injEq, V.str.injEq, V.bl.injEq, V.ty.injEq, and_true, true_and, List.set_cons_zero, List.set_cons_succ, List.cons.injEq, List.cons_append, List.nil_append, List.append_nil, List.map_cons, List.map_nil, List.length_cons, List.length_nil, List.replicate, exists_and_left, exists_and_right, Nat.reduceAdd, Nat.reduceSub, atI_0, atI_1, atI_2, atI_3, atI_4, if_true, if_false, Bool.false_eq_true, scal_ii, scal_ss, scal_bb])
local macro_rules | `(tactic| walk_at "cm") => `(tactic| first | (refine cm_l ?_ ?_ <;> omega) | (refine cm_r ?_ ?_ <;> omega))
noncomputable def top (i : Nat) : Stmt := PySem.Challenge.pw_fewboxes_k62_no_rows_text.main.body.getD i (.Pass ⟨0, 0, 0, 0⟩)
noncomputable abbrev s_is_name : Stmt := top 5
noncomputable abbrev s_is_number : Stmt := top 9
noncomputable abbrev s_read_part : Stmt := top 10
noncomputable abbrev s_read_deed : Stmt := top 11
noncomputable abbrev s_read_row : Stmt := top 12
noncomputable abbrev s__law_at : Stmt := top 14
noncomputable abbrev s__law_names : Stmt := top 15
noncomputable abbrev s__law_deed : Stmt := top 16
noncomputable abbrev s__law_word : Stmt := top 17
noncomputable abbrev s__law_read : Stmt := top 18
noncomputable abbrev s_law : Stmt := top 19
theorem sc_is_name : FnScope ["text"] ["text"] (defScope s_is_name) := ⟨rfl, rfl, rfl, by decide +kernel, rfl, by decide +kernel, by decide +kernel⟩
theorem sc_is_number : FnScope ["word"] ["word"] (defScope s_is_number) := ⟨rfl, rfl, rfl, by decide +kernel, rfl, by decide +kernel, by decide +kernel⟩
theorem sc_read_part : FnScope ["kind", "word"] ["kind", "word"] (defScope s_read_part) := ⟨rfl, rfl, rfl, by decide +kernel, rfl, by decide +kernel, by decide +kernel⟩
theorem sc_read_deed : FnScope ["text", "words", "kinds"] ["text"] (defScope s_read_deed) := ⟨rfl, rfl, rfl, by decide +kernel, rfl, by decide +kernel, by decide +kernel⟩
theorem sc_read_row : FnScope ["text"] ["text"] (defScope s_read_row) := ⟨rfl, rfl, rfl, by decide +kernel, rfl, by decide +kernel, by decide +kernel⟩
theorem sc__law_at : FnScope ["script", "k", "cell"] ["script", "k"] (defScope s__law_at) := ⟨rfl, rfl, rfl, by decide +kernel, rfl, by decide +kernel, by decide +kernel⟩
theorem sc__law_names : FnScope ["cell", "many", "letters", "size", "out", "k", "signs"] ["cell", "many"] (defScope s__law_names) := ⟨rfl, rfl, rfl, by decide +kernel, rfl, by decide +kernel, by decide +kernel⟩
theorem sc__law_deed : FnScope ["script", "n", "names", "deeds", "k", "many", "cell", "word"] ["script", "n", "names", "deeds", "k", "many"] (defScope s__law_deed) := ⟨rfl, rfl, rfl, by decide +kernel, rfl, by decide +kernel, by decide +kernel⟩
theorem sc__law_word : FnScope ["word", "sort", "signs", "fitting"] ["word", "sort"] (defScope s__law_word) := ⟨rfl, rfl, rfl, by decide +kernel, rfl, by decide +kernel, by decide +kernel⟩
theorem sc__law_read : FnScope ["text", "row", "one", "words", "sorts", "deed", "word", "sort"] ["text"] (defScope s__law_read) := ⟨rfl, rfl, rfl, by decide +kernel, rfl, by decide +kernel, by decide +kernel⟩
theorem sc_law : FnScope ["script", "size", "names", "many", "row", "text", "n", "cell", "at", "more", "bits", "found", "e", "due"] ["script"] (defScope s_law) := ⟨rfl, rfl, rfl, by decide +kernel, rfl, by decide +kernel, by decide +kernel⟩
set_option genInjectivity false in
set_option genSizeOfSpec false in
structure Txt (K : PySem.W.Frag) (mg : Str → Option Value) where
  f_is_name : Addr
  d_is_name : FuncData
  F_is_name : Fun K "is_name" "is_name" s_is_name f_is_name d_is_name
  m_is_name : mg "is_name" = some (.ref f_is_name)
  b_is_name : Binds K d_is_name ["text"] []
  f_is_number : Addr
  d_is_number : FuncData
  F_is_number : Fun K "is_number" "is_number" s_is_number f_is_number d_is_number
  m_is_number : mg "is_number" = some (.ref f_is_number)
  b_is_number : Binds K d_is_number ["word"] []
  f_read_part : Addr
  d_read_part : FuncData
  F_read_part : Fun K "read_part" "read_part" s_read_part f_read_part d_read_part
  m_read_part : mg "read_part" = some (.ref f_read_part)
  b_read_part : Binds K d_read_part ["kind", "word"] []
  f_read_deed : Addr
  d_read_deed : FuncData
  F_read_deed : Fun K "read_deed" "read_deed" s_read_deed f_read_deed d_read_deed
  m_read_deed : mg "read_deed" = some (.ref f_read_deed)
  b_read_deed : Binds K d_read_deed ["text"] []
  f_read_row : Addr
  d_read_row : FuncData
  F_read_row : Fun K "read_row" "read_row" s_read_row f_read_row d_read_row
  m_read_row : mg "read_row" = some (.ref f_read_row)
  b_read_row : Binds K d_read_row ["text"] []
  f__law_at : Addr
  d__law_at : FuncData
  F__law_at : Fun K "_law_at" "_law_at" s__law_at f__law_at d__law_at
  m__law_at : mg "_law_at" = some (.ref f__law_at)
  b__law_at : Binds K d__law_at ["script", "k"] []
  f__law_names : Addr
  d__law_names : FuncData
  F__law_names : Fun K "_law_names" "_law_names" s__law_names f__law_names d__law_names
  m__law_names : mg "_law_names" = some (.ref f__law_names)
  b__law_names : Binds K d__law_names ["cell", "many"] []
  f__law_deed : Addr
  d__law_deed : FuncData
  F__law_deed : Fun K "_law_deed" "_law_deed" s__law_deed f__law_deed d__law_deed
  m__law_deed : mg "_law_deed" = some (.ref f__law_deed)
  b__law_deed : Binds K d__law_deed ["script", "n", "names", "deeds", "k", "many"] []
  f__law_word : Addr
  d__law_word : FuncData
  F__law_word : Fun K "_law_word" "_law_word" s__law_word f__law_word d__law_word
  m__law_word : mg "_law_word" = some (.ref f__law_word)
  b__law_word : Binds K d__law_word ["word", "sort"] []
  f__law_read : Addr
  d__law_read : FuncData
  F__law_read : Fun K "_law_read" "_law_read" s__law_read f__law_read d__law_read
  m__law_read : mg "_law_read" = some (.ref f__law_read)
  b__law_read : Binds K d__law_read ["text"] []
  f_law : Addr
  d_law : FuncData
  F_law : Fun K "law" "law" s_law f_law d_law
  m_law : mg "law" = some (.ref f_law)
  b_law : Binds K d_law ["script"] []
  z_ValueError : mg "ValueError" = none
  z_all : mg "all" = none
  z_int : mg "int" = none
  z_isinstance : mg "isinstance" = none
  z_len : mg "len" = none
  z_list : mg "list" = none
  z_range : mg "range" = none
  z_str : mg "str" = none
  z_tuple : mg "tuple" = none
  z_zip : mg "zip" = none
  t_LONGEST_NAME : Tok
  c_LONGEST_NAME : mg "LONGEST_NAME" = some (.int 8 t_LONGEST_NAME)
  t_MOST_FIGURES : Tok
  c_MOST_FIGURES : mg "MOST_FIGURES" = some (.int 4 t_MOST_FIGURES)
  C_FewError : Addr
  m_FewError : mg "FewError" = some (.ref C_FewError)
  x_FewError : ErrAt K C_FewError
  C_NoText : Addr
  m_NoText : mg "NoText" = some (.ref C_NoText)
  x_NoText : ErrAt K C_NoText
  u_NoText_FewError : subOf K C_NoText C_FewError = true
  y_NoText : ErrIs K C_NoText
  k_NoText_NoText : PySem.W.kitOne K (.ref C_NoText) (.ref C_NoText) = some true
  k_NoText_ValueError : PySem.W.kitOne K (.ref C_NoText) (.type "ValueError") = some true
section
variable {P : Program} {w : World} {K : PySem.W.Frag} {mg : Str → Option Value} {base : Heap}
/-! ### the law's own: cells, names, trees -/
noncomputable def lawAt (ns : List Int) (k : Nat) : Int :=
  if k < ns.length then ns.getD k 0 else
    let c : Int := 40692 * k + 1
    let c : Int := if 0 < ns.length then c + ns.getD (k * k % ns.length) 0 % 2147483647 else c
    let c : Int := c * 48271 % 2147483647
    c * c % 2147483629
noncomputable def spAt (K : PySem.W.Frag) : Sp := fun vs H Q _ => ∃ (a : Addr) (ns : List Int) (k : Int), vs = [.ref a, .int k] ∧ SqL K H a (ns.map V.int) ∧ ns.length ≤ 63 ∧ 0 ≤ k ∧ k < 1000000 ∧ Q (.int (lawAt ns k.toNat)) H
theorem at_int {ns : List Int} {k : Nat} (h : k < ns.length) : atI (ns.map V.int) (k : Int) = some (.int (ns.getD k 0)) :=
  atI_nat (by simp [List.getD, h])
theorem ok_at (T : Txt K mg) : FnOk P w K mg base CX0 1 T.f__law_at T.d__law_at ["script", "k"] (spAt K) := by
  refine T.F__law_at.ok (k := 0) sc__law_at (fun vs H Q E h => ?_) (fun cdv A outer s H vs Q E hr h => ?_)
  · obtain ⟨a, ns, k, rfl, _⟩ := h
    rfl
  obtain ⟨a, ns, k, rfl, hS, h63, h0, hk, q⟩ := h
  obtain ⟨k, rfl⟩ : ∃ n : Nat, k = (n : Int) := ⟨k.toNat, by (first | (clear hk h63; lia) | omega)⟩
  rw [Int.toNat_natCast] at q
  have nd := sc__law_at.nd
  refine ⟨_, (pss_cons (ps_if (pt_cmpR op_lt (pv 1) (pe_callB call_len_seq rfl T.z_len bt_len (pa_cons (pv 0) pa_nil)) (nomark _)) (pss_one (ps_ret (pe_ix ix_list (pv 0) (pv 1) (fun _ _ => rfl)))) pss_nil)
    (pss_cons (ps_let (i := 2) nd rfl (Or.inl rfl) (pe_op op_add (pe_op op_mul pe_int (pv 1)) pe_int))
    (pss_cons (ps_if (pt_cmpR op_gt (pe_callB call_len_seq rfl T.z_len bt_len (pa_cons (pv 0) pa_nil)) pe_int (nomark _)) (pss_one (ps_let (i := 2) nd rfl (Or.inl rfl) (pe_op op_add (pv 2) (pe_op op_mod (pe_ix ix_list (pv 0) (pe_op op_mod (pe_op op_mul (pv 1) (pv 1)) (pe_callB call_len_seq rfl T.z_len bt_len (pa_cons (pv 0) pa_nil))) (fun _ _ => rfl)) pe_int)))) pss_nil)
    (pss_cons (ps_let (i := 2) nd rfl (Or.inl rfl) (pe_op op_mod (pe_op op_mul (pv 2) pe_int) pe_int))
    (pss_one (ps_ret (pe_op op_mod (pe_op op_mul (pv 2) (pv 2)) pe_int))))))), ?_⟩
  refine cutC1 fun C hC => ?_
  walk_at "rd"
  unfold lawAt at q
  refine ex_len hS ?_
  rw [List.length_map]
  refine ite2 (fun c => ?_) (fun c => ?_)
  · have c : k < ns.length := by simpa using c
    rw [if_pos c] at q
    exact ex_at hS (at_int c) q
  · have c : ¬ k < ns.length := by simpa using c
    rw [if_neg c] at q
    dsimp only at q
    rw [hC]
    clear hC C
    refine cutC2 fun C hC => ?_
    have tail : ∀ z : Int, Q (.int (z * 48271 % 2147483647 * (z * 48271 % 2147483647) % 2147483629)) H → C [some (.ref a), some (.int k), some (.int z)] H := by
      intro z hz
      rw [hC]
      clear hC C q
      walk_at "rd"
      exact ⟨by walk_at "cm", by decide, by walk_at "cm", by decide, hz⟩
    walk_at "rd"
    refine ⟨by walk_at "cm", ex_len hS ?_⟩
    rw [List.length_map]
    refine ite2 (fun d => ?_) (fun d => ?_)
    · have d : 0 < ns.length := by simpa using d
      rw [if_pos d] at q
      have m : k * k % ns.length < ns.length := Nat.mod_lt _ d
      have e : ((k : Int) * (k : Int) % ((ns.length : Nat) : Int)) = ((k * k % ns.length : Nat) : Int) := by push_cast; rfl
      refine ⟨by walk_at "cm", ex_len hS ?_⟩
      rw [List.length_map, e]
      exact ⟨by (first | (clear h63 h0 hk c m e hC; omega) | omega), ex_at hS (at_int m) ⟨_, rfl, by decide, tail _ q⟩⟩
    · have d : ¬ 0 < ns.length := by simpa using d
      rw [if_neg d] at q
      exact tail _ q
noncomputable def spNames : Sp := fun vs H Q _ => ∃ (c : Int) (many : Nat), vs = [.int c, .int many] ∧ many ≤ 32 ∧ RetL H ((List.range many).map fun k => D.str (nmS c many k)) Q
theorem ok_names (T : Txt K mg) : FnOk P w K mg base CX0 1 T.f__law_names T.d__law_names ["cell", "many"] spNames := by
  refine T.F__law_names.ok (k := 0) sc__law_names (fun vs H Q E h => ?_) (fun cdv A outer s H vs Q E hr h => ?_)
  · obtain ⟨c, many, rfl, _⟩ := h
    rfl
  obtain ⟨c, many, rfl, hm, q⟩ := h
  have nd := sc__law_names.nd
  refine ⟨_, (pss_cons (ps_let (i := 2) nd rfl (Or.inl rfl) pe_str)
    (pss_cons (ps_let (i := 3) nd rfl (Or.inl rfl) (pe_op op_add pe_int (pe_op op_mod (pe_op op_fdiv (pv 0) pe_int) (pe_ix ixF (pe_lst (pa_cons pe_int (pa_cons pe_int pa_nil))) (pe_callTy call_intB rfl T.z_int bt_int (pa_cons (pe_cmpR op_gt (pv 1) pe_int (nomark _)) pa_nil)) (fun _ _ => rfl)))))
    (pss_cons (ps_let (i := 4) nd rfl (Or.inl rfl) (pe_lst pa_nil))
    (pss_cons (ps_for PassesOwn.never rfl (pi_range1 rfl T.z_range (pa_cons (pv 1) pa_nil)) (pg_name (i := 5) nd rfl (Or.inl rfl)) (pss_cons (ps_let (i := 6) nd rfl (Or.inl rfl) (pe_op op_rep (pe_lst (pa_cons (pe_ix ix_str (pv 2) (pe_op op_mod (pv 0) pe_int) (fun _ _ => rfl)) pa_nil)) (pv 3)))
      (pss_cons (ps_asg (pe_ix ix_str (pv 2) (pe_op op_mod (pe_op op_add (pe_op op_add (pv 0) pe_int) (pe_op op_mod (pv 5) pe_int)) pe_int) (fun _ _ => rfl)) (pg_sub (pv 6) (pe_op op_mod (pe_op op_fdiv (pv 0) pe_int) (pv 3)) set_list))
      (pss_cons (ps_if (pt_cmpR op_gt (pv 5) pe_int (nomark _)) (pss_one (ps_expr (pe_bm PySem.F.plainAttrs_list PySem.F.slot_list_append PySem.F.type_list_append mt_append (pv 6) (pa_cons (pe_ix ix_str (pv 2) (pe_op op_mod (pv 0) pe_int) (fun _ _ => rfl)) pa_nil)))) pss_nil)
      (pss_cons (ps_if (PW.pt (pw_and (pt_cmpR op_eq (pe_op op_mod (pe_op op_fdiv (pv 0) pe_int) pe_int) pe_int (nomark _)) (pw_and1 (pt_cmpR op_le (pv 1) pe_int (nomark _))))) (pss_one (ps_let (i := 6) nd rfl (Or.inl rfl) (pe_op op_rep (pe_lst (pa_cons (pe_ix ix_str (pv 2) (pe_op op_mod (pv 0) pe_int) (fun _ _ => rfl)) pa_nil)) (pe_op op_add pe_int (pe_op op_mod (pe_op op_add (pv 0) (pv 5)) pe_int))))) pss_nil)
      (pss_one (ps_expr (pe_bm PySem.F.plainAttrs_list PySem.F.slot_list_append PySem.F.type_list_append mt_append (pv 4) (pa_cons (pe_bm PySem.F.plainAttrs_str PySem.F.slot_str_join PySem.F.type_str_join mt_join pe_str (pa_cons (pv 6) pa_nil)) pa_nil)))))))))
    (pss_one (ps_ret (pv 4))))))), ?_⟩
  walk_at "rd"
  refine ⟨⟨by decide, by decide⟩, by decide, NewO.mk fun p1 H1 S1 n1 e1 => ?_⟩
  walk_at "rd"
  have hz : atI [V.int 8, V.int 7] (if decide (24 < (many : Int)) = true then 1 else 0) = some (.int (if 24 < many then 7 else 8)) := by
    by_cases h : 24 < many
    · rw [if_pos (decide_eq_true (by (first | (clear hm n1 e1; omega) | omega))), if_pos h]; exact atI_1
    · rw [if_neg (by simp; (first | (clear hm n1 e1; omega) | omega)), if_neg h]; exact atI_0
  refine ⟨_, items_l e1, _, hz, _, rfl, by split <;> decide, Nat.zero_le _, NewO.mk fun p2 H2 S2 n2 e2 => ?_⟩
  have S := S1.trans S2
  have n0 : H p2 = none := S1.free n2
  have hsz : (1 + c / 26 % (if 24 < many then 7 else 8) : Int) = (M.nmSize c many : Nat) := by
    unfold M.nmSize
    have : (0 : Int) < (if 24 < many then 7 else 8) := by split <;> decide
    have := Int.emod_nonneg (c / 26) (show (if 24 < many then 7 else 8 : Int) ≠ 0 by omega)
    push_cast
    (first | (clear hm n1 e1 hz n2 e2 n0; lia) | omega)
  rw [hsz]
  have s1 := M.nmSize_lo c many
  have s2 := (M.nmSize_hi c many).1
  generalize hsize : M.nmSize c many = size at hsz s1 s2
  refine ⟨by (first | (clear hm n1 e1 hz n2 e2 n0 hsize hsz s1 s2; lia) | omega), by omega, ?_⟩
  rw [Int.toNat_natCast]
  refine forR (fun i σ H' => ∃ (o5 o6 : Option V), i ≤ many ∧ Same H H' ∧ H' p2 = some (.lst ((List.range i).map fun k => V.str (nmS c many k))) ∧
    σ = [some (.int c), some (.int many), some (.str LETT), some (.int size), some (.ref p2), o5, o6]) ⟨none, none, Nat.zero_le _, S, e2, rfl⟩ ?_ ?_
  · rintro i σ H3 hi ⟨o5, o6, _, S3, e3, rfl⟩
    simp only [a_gName]
    refine cutC2 fun C hC => ?_
    walk_at "rd"
    have hk : ((c + 1 + (0 + (i : Int)) % 24) % 26) = (c + 1 + ((i % 24 : Nat) : Int)) % 26 := by push_cast; (first | (clear hm n1 e1 hz n2 e2 n0 hsize hsz s1 s2 hi e3 hC; lia) | omega)
    refine ⟨by decide, lett_big, _, lett_c c, by decide, NewO.mk fun p4 H4 S4 n4 e4 => ⟨p4, rfl, _, e4, by (first | (clear hm n1 e1 hz n2 e2 n0 hsize hsz s1 s2 hi e3 hC hk n4 e4; lia) | omega), by (first | (clear hm n1 e1 hz n2 e2 n0 hsize hsz hk n4 e4 e3 hC hi s1; omega) | omega), small_le (by simp; (first | (clear hm n1 e1 hz n2 e2 n0 hsize hsz hk n4 e4 e3 hC hi s1; lia) | omega)), NewO.mk fun p5 H5 S5 n5 e5 => ?_⟩⟩
    rw [Int.toNat_natCast, rep_one] at e5
    rw [hk]
    have hpos := M.pos_lt c size s1
    have hp0 : 0 ≤ c / 208 % (size : Int) := Int.emod_nonneg _ (by (first | (clear s2 hi e3 hC hk n4 e4 n5 e5 hpos hm n1 e1 hz n2 e2 n0 hsize hsz; omega) | omega))
    refine ⟨by decide, by decide, lett_big, _, lett_c _, ⟨by decide, by decide⟩, by (first | (clear hi e3 hC hk n4 e4 n5 e5 hpos hp0 hm n1 e1 hz n2 e2 n0 hsize hsz s2; omega) | omega), p5, rfl, _, e5, _, ixN_int hp0 (by simp; (first | (clear hm n1 e1 hz n2 e2 n0 hsize hsz s1 s2 hi e3 hC hk n4 e4 hp0 n5 e5; lia) | omega)), PutO.mk fun H6 k6 e6 => ?_⟩
    have e25 : p2 ≠ p5 := ne_of_none (S4 _ _ e3) n5
    have S6 : Same H H6 := Same.put_new ((S3.trans S4).trans S5) ((S3.trans S4).free n5) k6
    have f6 : H6 p2 = some (.lst ((List.range i).map fun k => V.str (nmS c many k))) := by
      rw [k6 _ e25]; exact S5 _ _ (S4 _ _ e3)
    have e6' : H6 p5 = some (.lst (((List.replicate size (M.let26 c)).set (c / 208 % (size : Int)).toNat (M.let26 (c + 1 + ((i % 24 : Nat) : Int)))).map fun x => V.str ⟨#[x]⟩)) := by
      rw [e6, List.map_set, List.map_replicate]
    have n5' := (S3.trans S4).free n5
    clear e6 k6 e5 e4 n4 n5 S5 S4 S3 hpos hk
    generalize hW : (List.replicate size (M.let26 c)).set (c / 208 % (size : Int)).toNat (M.let26 (c + 1 + ((i % 24 : Nat) : Int))) = W at e6'
    have lW : W.length = size := by rw [← hW]; simp
    have nm0 : ¬ (c / 1664 % 3 = 0 ∧ many ≤ 8) → ¬ 23 < i → M.nm c many i = W := fun h1 h2 => by
      unfold M.nm; rw [if_neg h1, hsize, if_neg h2, hW]
    have nm1 : ¬ (c / 1664 % 3 = 0 ∧ many ≤ 8) → 23 < i → M.nm c many i = W ++ [M.let26 c] := fun h1 h2 => by
      unfold M.nm; rw [if_neg h1, hsize, if_pos h2, hW]
    have nm2 : (c / 1664 % 3 = 0 ∧ many ≤ 8) → M.nm c many i = List.replicate (1 + ((c + i) % 8).toNat) (M.let26 c) := fun h1 => by
      unfold M.nm; rw [if_pos h1]
    clear hW hp0
    rw [hC]
    clear hC C
    refine cutC1 fun C hC => ?_
    -- what stands behind the first if
    have tail : ∀ (l : List Nat) (H7 : Hp), Same H H7 → H7 p2 = some (.lst ((List.range i).map fun k => V.str (nmS c many k))) → H7 p5 = some (.lst (l.map fun x => V.str ⟨#[x]⟩)) → l.length ≤ size + 1 → (¬ (c / 1664 % 3 = 0 ∧ many ≤ 8) → M.nm c many i = l) →
        C [some (.int c), some (.int many), some (.str LETT), some (.int size), some (.ref p2), some (.int (0 + i)), some (.ref p5)] H7 := by
      intro l H7 S7 f7 e7 ll hnm
      rw [hC]
      clear hC C nm0 nm1 e6' f6 S6
      refine cutC1 fun C hC => ?_
      have fin : ∀ (l' : List Nat) (p' : Addr) (H8 : Hp), Same H H8 → H8 p2 = some (.lst ((List.range i).map fun k => V.str (nmS c many k))) → H8 p' = some (.lst (l'.map fun x => V.str ⟨#[x]⟩)) → l'.length ≤ 1000 → M.nm c many i = l' →
          C [some (.int c), some (.int many), some (.str LETT), some (.int size), some (.ref p2), some (.int (0 + i)), some (.ref p')] H8 := by
        intro l' p' H8 S8 f8 e8 ll' hl
        rw [hC]
        walk_at "rd"
        refine app_join f8 e8 (by simp; (first | (clear e25 n5' lW nm2 f7 e7 ll hnm hC f8 e8 ll' hl hsize hsz s1 s2 hi e3 n2 e2 n0 e1 hz n1; lia) | omega)) ll' fun H9 k9 e9 => ⟨hi, Same.put_new S8 n0 k9, ?_, _, rfl⟩
        rw [e9, List.range_succ, List.map_append, ← hl]; rfl
      walk_at "rd"
      refine ⟨⟨by decide, by decide⟩, by decide, ite2 (fun c2 => ite2 (fun c3 => ?_) (fun c3 => fin l p5 H7 S7 f7 e7 (by (first | (clear hm n1 e1 hz n2 e2 e3 e25 n5' lW nm2 f7 n0 hsize hsz hC c2 c3 hi e7 s1 hnm; lia) | omega)) (hnm fun z => c3 (decide_eq_true (by (first | (clear hm n1 e1 hz n2 e2 n0 hsize hsz s1 s2 hi e3 e25 n5' lW nm2 f7 e7 ll hnm hC c2 c3; lia) | omega)))))) (fun c2 => fin l p5 H7 S7 f7 e7 (by (first | (clear hm n1 e1 hz n2 e2 e3 e25 n5' lW nm2 f7 n0 hsize hsz hC c2 hi e7 s1 hnm; lia) | omega)) (hnm fun z => c2 (decide_eq_true z.1)))⟩
      have c2 := of_decide_eq_true c2
      have c3 : many ≤ 8 := by have := of_decide_eq_true c3; (first | (clear hm n1 e1 hz n2 e2 n0 hsize hsz s1 s2 hi e3 e25 n5' lW nm2 f7 e7 ll hnm hC c3 c2; lia) | omega)
      have hn : (1 + (c + (0 + (i : Int))) % 8).toNat = 1 + ((c + i) % 8).toNat := by (first | (clear hm n1 e1 hz n2 e2 n0 hsize hsz s1 s2 hi e3 e25 n5' lW nm2 f7 e7 ll hnm hC c2 c3; lia) | omega)
      refine ⟨by decide, lett_big, _, lett_c c, by decide, NewO.mk fun p7 H8 S8 n8 e8 => ⟨by decide, p7, rfl, _, e8, by (first | (clear hm n1 e1 hz n2 e2 n0 hsize hsz s1 s2 hi e3 e25 n5' lW nm2 f7 e7 ll hnm hC c2 c3 hn n8 e8; omega) | omega), by (first | (clear hm n1 e1 hz n2 e2 n0 hsize hsz s1 s2 hi e3 e25 n5' lW nm2 f7 e7 ll hnm hC c2 c3 hn n8 e8; omega) | omega), small_le (by simp; (first | (clear hm n1 e1 hz n2 e2 n0 hsize hsz s1 s2 hi e3 e25 n5' lW nm2 f7 e7 ll hnm hC c2 c3 hn n8 e8; omega) | omega)), NewO.mk fun p8 H9 S9 n9 e9 => ?_⟩⟩
      rw [hn, rep_one] at e9
      exact fin (List.replicate (1 + ((c + i) % 8).toNat) (M.let26 c)) p8 H9 ((S7.trans S8).trans S9) (S9 _ _ (S8 _ _ f7)) (by rw [e9, List.map_replicate]) (by simp; (first | (clear hm n1 e1 hz n2 e2 n0 hsize hsz s1 s2 hi e3 e25 n5' lW nm2 f7 e7 ll hnm hC c2 c3 hn n8 e8 n9 e9; omega) | omega)) (nm2 ⟨c2, c3⟩)
    walk_at "rd"
    refine ite2 (fun c1 => ?_) (fun c1 => ?_)
    · have c1 : 23 < i := by have := of_decide_eq_true c1; (first | (clear hm n1 e1 hz n2 e2 n0 hsize hsz s1 s2 hi e3 e25 f6 n5' e6' lW nm0 nm1 nm2 hC c1; omega) | omega)
      exact ⟨ty_lst e6', by decide, lett_big, _, lett_c c, _, e6', small_size (by simp; (first | (clear hm n1 e1 hz n2 e2 nm0 nm1 nm2 hC c1 n0 hsize hsz e3 e25 f6 hi n5' s1 e6'; lia) | omega)), PutO.mk fun H7 k7 e7 => tail (W ++ [M.let26 c]) H7 (Same.put_new S6 n5' k7) (by rw [k7 _ e25]; exact f6) (by rw [e7, List.map_append]; rfl) (by simp; (first | (clear hm n1 e1 hz n2 e2 n0 hsize hsz s1 s2 hi e3 e25 f6 hC c1 e7 n5' e6' nm1 nm2; lia) | omega)) (fun h => nm1 h c1)⟩
    · have c1 : ¬ 23 < i := fun z => c1 (decide_eq_true (by (first | (clear hm n1 e1 hz n2 e2 n0 hsize hsz s1 s2 hi e3 e25 f6 n5' e6' lW nm0 nm1 nm2 hC c1; omega) | omega)))
      exact tail W H6 S6 f6 e6' (by (first | (clear hm n1 e1 hz n2 e2 n0 hsize hsz s1 s2 hi e3 e25 f6 hC c1 n5' e6' nm1 nm2; lia) | omega)) (fun h => nm0 h c1)
  · rintro σ H3 ⟨o5, o6, _, S3, e3, rfl⟩
    walk_at "rd"
    refine q p2 _ _ S3 n0 e3 ?_
    have : ∀ (l : List Nat), Dts H3 (l.map fun k => D.str (nmS c many k)) (l.map fun k => V.str (nmS c many k)) := fun l => by
      induction l with
      | nil => exact .nil
      | cons k r ih => exact .cons (isD_str.mpr rfl) ih
    exact this _
/-! ### deeds -/
open M (inN)
noncomputable def okDeed (names deeds : List Str) (k m : Int) : Deed → Prop
  | .take x i => x ∈ names ∧ inN k i
  | .join f i j h => f ∈ deeds ∧ inN k i ∧ inN k j ∧ inN k h
  | .put i s => inN k i ∧ inN m s
  | .fetch s i => inN m s ∧ inN k i
theorem okd_ok {names deeds : List Str} {k m : Int} {d : L2.Deed} (h : okDeed names deeds k m d) : d.ok k m := by
  cases d with
  | take x i => exact ⟨fun z hz => by simp [M.Deed.bn] at hz; rw [hz]; exact h.2, fun z hz => by simp [M.Deed.sn] at hz⟩
  | join f i j l => exact ⟨fun z hz => by
      simp [M.Deed.bn] at hz
      rcases hz with rfl | rfl | rfl
      · exact h.2.1
      · exact h.2.2.1
      · exact h.2.2.2, fun z hz => by simp [M.Deed.sn] at hz⟩
  | put i j => exact ⟨fun z hz => by simp [M.Deed.bn] at hz; rw [hz]; exact h.1, fun z hz => by simp [M.Deed.sn] at hz; rw [hz]; exact h.2⟩
  | fetch j i => exact ⟨fun z hz => by simp [M.Deed.bn] at hz; rw [hz]; exact h.2, fun z hz => by simp [M.Deed.sn] at hz; rw [hz]; exact h.1⟩
theorem inN_mod (z : Int) {k : Int} (h : 1 ≤ k) : inN k (z % k) := ⟨Int.emod_nonneg _ (by omega), Int.emod_lt_of_pos _ (by omega)⟩
noncomputable def wordOf (z : Nat) : Str := if z < 2 then Str.ofString "take" else if z < 5 then Str.ofString "join" else if z = 5 then Str.ofString "put" else Str.ofString "fetch"
theorem word_at (z : Int) (h0 : 0 ≤ z) (h : z < 7) : atI [V.str (Str.ofString "take"), V.str (Str.ofString "take"), V.str (Str.ofString "join"), V.str (Str.ofString "join"), V.str (Str.ofString "join"), V.str (Str.ofString "put"), V.str (Str.ofString "fetch")] z = some (.str (wordOf z.toNat)) := by
  rcases (show z = 0 ∨ z = 1 ∨ z = 2 ∨ z = 3 ∨ z = 4 ∨ z = 5 ∨ z = 6 by (first | lia | omega)) with rfl | rfl | rfl | rfl | rfl | rfl | rfl <;> rfl
theorem word_cases (z : Nat) : wordOf z = Str.ofString "take" ∨ wordOf z = Str.ofString "join" ∨ wordOf z = Str.ofString "put" ∨ wordOf z = Str.ofString "fetch" := by
  unfold wordOf
  split
  · simp
  · split
    · simp
    · split <;> simp
noncomputable def spDeed (K : PySem.W.Frag) : Sp := fun vs H Q _ => ∃ (a pn pd : Addr) (ns : List Int) (n k m : Int) (names deeds : List Str), vs = [.ref a, .int n, .ref pn, .ref pd, .int k, .int m] ∧ SqL K H a (ns.map V.int) ∧ ns.length ≤ 63 ∧ 0 ≤ n ∧ n < 1000000 ∧
  H pn = some (.lst (names.map V.str)) ∧ names ≠ [] ∧ names.length ≤ 1000 ∧ H pd = some (.lst (deeds.map V.str)) ∧ deeds.length = 3 ∧ 1 ≤ k ∧ k ≤ 10000 ∧ 1 ≤ m ∧ m ≤ 10000 ∧ ∀ d v H', Same H H' → Dt H' (dDeed d) v → okDeed names deeds k m d → Q v H'
seal PSs PS PE PT PA PI PIfs in
theorem ok_deed (T : Txt K mg) : FnOk P w K mg base CX0 2 T.f__law_deed T.d__law_deed ["script", "n", "names", "deeds", "k", "many"] (spDeed K) := by
  refine T.F__law_deed.ok (k := 1) sc__law_deed (fun vs H Q E h => ?_) (fun cdv A outer s H vs Q E hr h => ?_)
  · obtain ⟨a, pn, pd, ns, n, k, m, names, deeds, rfl, _⟩ := h
    rfl
  obtain ⟨a, pn, pd, ns, n, k, m, names, deeds, rfl, hS, h63, hn0, hn1, en, hne, hnl, ed, hdl, k1, k2, m1, m2, q⟩ := h
  have nd := sc__law_deed.nd
  have G__law_at := (ok_at (P := P) (w := w) (base := base) T).mono (k := 1) (by omega)
  refine ⟨_, (pss_cons (ps_let (i := 6) nd rfl (Or.inl rfl) (pe_call G__law_at hr rfl T.m__law_at T.F__law_at.kp T.b__law_at .nil pass0 (pa_cons (pv 0) (pa_cons (pv 1) pa_nil))))
    (pss_cons (ps_let (i := 7) nd rfl (Or.inl rfl) (pe_ix ixF (pe_lst (pa_cons pe_str (pa_cons pe_str (pa_cons pe_str (pa_cons pe_str (pa_cons pe_str (pa_cons pe_str (pa_cons pe_str pa_nil)))))))) (pe_op op_mod (pv 6) pe_int) (fun _ _ => rfl)))
    (pss_cons (ps_let (i := 6) nd rfl (Or.inl rfl) (pe_op op_fdiv (pv 6) pe_int))
    (pss_cons (ps_if (pt_cmpR op_eq (pv 7) pe_str (nomark _)) (pss_one (ps_ret (pe_tup (pa_cons (pv 7) (pa_cons (pe_ix ixF (pv 2) (pe_op op_mod (pv 6) (pe_callB lenG rfl T.z_len bt_len (pa_cons (pv 2) pa_nil))) (fun _ _ => rfl)) (pa_cons (pe_op op_mod (pe_op op_fdiv (pv 6) (pe_callB lenG rfl T.z_len bt_len (pa_cons (pv 2) pa_nil))) (pv 4)) pa_nil)))))) pss_nil)
    (pss_cons (ps_if (pt_cmpR op_eq (pv 7) pe_str (nomark _)) (pss_one (ps_ret (pe_tup (pa_cons (pv 7) (pa_cons (pe_ix ixF (pv 3) (pe_op op_mod (pv 6) pe_int) (fun _ _ => rfl)) (pa_cons (pe_op op_mod (pe_op op_fdiv (pv 6) pe_int) (pv 4)) (pa_cons (pe_op op_mod (pe_op op_fdiv (pv 6) (pe_op op_mul pe_int (pv 4))) (pv 4)) (pa_cons (pe_op op_mod (pe_op op_fdiv (pv 6) (pe_op op_mul (pe_op op_mul pe_int (pv 4)) (pv 4))) (pv 4)) pa_nil)))))))) pss_nil)
    (pss_cons (ps_if (pt_cmpR op_eq (pv 7) pe_str (nomark _)) (pss_one (ps_ret (pe_tup (pa_cons (pv 7) (pa_cons (pe_op op_mod (pv 6) (pv 4)) (pa_cons (pe_op op_mod (pe_op op_fdiv (pv 6) (pv 4)) (pv 5)) pa_nil)))))) pss_nil)
    (pss_one (ps_ret (pe_tup (pa_cons (pv 7) (pa_cons (pe_op op_mod (pv 6) (pv 5)) (pa_cons (pe_op op_mod (pe_op op_fdiv (pv 6) (pv 5)) (pv 4)) pa_nil)))))))))))), ?_⟩
  refine cutC3 fun C hC => ?_
  walk_at "rd"
  refine ⟨a, ns, n, rfl, hS, h63, hn0, hn1, ?_⟩
  generalize lawAt ns n.toNat = cell
  try (walk_at "rd")
  refine ⟨by decide, NewO.mk fun p1 H1 S1 n1 e1 => ⟨by decide, p1, rfl, _, items_l e1, _, word_at _ (by (first | (clear h63 hn0 hn1 en hne hnl ed hdl k1 k2 m1 m2 hC n1 e1; lia) | omega)) (by (first | (clear h63 hn0 hn1 en hne hnl ed hdl k1 k2 m1 m2 hC n1 e1; lia) | omega)), ⟨by decide, by decide⟩, ?_⟩⟩
  have hw := word_cases (cell % 7).toNat
  generalize wordOf (cell % 7).toNat = word at hw
  generalize cell / 7 = c
  have dne : ∀ {x y : String}, (Str.ofString x == Str.ofString y) = false → decide (V.str (Str.ofString x) = V.str (Str.ofString y)) = false := fun {x y} h => decide_eq_false (fun z => by
    have := V.str.inj z
    rw [this] at h
    simp at h)
  have len : 1 ≤ names.length := by cases names with | nil => exact absurd rfl hne | cons => simp
  have sq : 3 * k * k ≤ 300000000 := by
    have h1 : 3 * k * k ≤ 3 * k * 10000 := Int.mul_le_mul_of_nonneg_left k2 (by (first | (clear k2 m1 m2 hC n1 e1 hw len h63 hn0 hn1 en hne hnl ed hdl; lia) | omega))
    (first | (clear h63 hn0 hn1 en hne hnl ed hdl k1 hC n1 e1 m2 hw m1 len; omega) | omega)
  have sq1 : 0 < 3 * k * k := Int.mul_pos (by (first | (clear k2 m1 m2 hC n1 e1 hw len sq h63 hn0 hn1 en hne hnl ed hdl; omega) | omega)) (by (first | (clear k2 m1 m2 hC n1 e1 hw len sq h63 hn0 hn1 en hne hnl ed hdl; omega) | omega))
  rw [hC]
  clear hC C
  refine cutC1 fun C hC => ?_
  walk_at "rd"
  rcases hw with rfl | hw
  · rw [decide_eq_true rfl]
    have z0 : 0 ≤ c % (((names.map V.str).length : Nat) : Int) := Int.emod_nonneg _ (by rw [List.length_map]; (first | (clear h63 hn0 hn1 en hne hnl ed hdl k1 k2 m1 m2 n1 e1 hC sq1 sq; omega) | omega))
    have z1 : c % (((names.map V.str).length : Nat) : Int) < names.length := by
      have := Int.emod_lt_of_pos c (show (0 : Int) < (((names.map V.str).length : Nat) : Int) by rw [List.length_map]; (first | (clear h63 hn0 hn1 en hne hnl ed hdl k1 k2 sq sq1 hC z0 m1 m2 n1 e1; omega) | omega))
      simpa using this
    obtain ⟨y, hy⟩ : ∃ y, names[(c % (((names.map V.str).length : Nat) : Int)).toNat]? = some y := ⟨_, List.getElem?_eq_getElem (by (first | (clear h63 hn0 hn1 en hne hnl ed hdl k1 k2 m1 m2 n1 e1 len sq sq1 hC; lia) | omega))⟩
    refine iteT ⟨_, items_l (S1 _ _ en), by rw [List.length_map]; (first | (clear h63 hn0 hn1 en hne hnl ed hdl k1 k2 m1 hC z0 z1 hy m2 n1 e1 sq1 sq; omega) | omega), _, items_l (S1 _ _ en), .str y, atI_int z0 (by rw [List.getElem?_map, hy]; rfl), _, items_l (S1 _ _ en), ⟨by rw [List.length_map]; (first | (clear h63 hn0 hn1 en hne hnl ed hdl k1 k2 m1 hC z0 z1 hy m2 n1 e1 sq1 sq; omega) | omega), by rw [List.length_map]; (first | (clear m2 n1 e1 len sq sq1 hC z0 z1 hy ed hdl k1 k2 m1 h63 hn0 hn1 en hne; omega) | omega)⟩, by (first | (clear m2 n1 e1 len sq sq1 hC z0 z1 hy h63 hn0 hn1 en hne hnl k2 m1 ed hdl; omega) | omega), by decide, NewO.mk fun p2 H2 S2 n2 e2 => ?_⟩
    exact q (.take y _) _ H2 (S1.trans S2) (Dt.tup e2 (.cons (isD_str.mpr rfl) (.cons (isD_str.mpr rfl) (.cons (isD_int.mpr rfl) .nil)))) ⟨List.mem_of_getElem? hy, inN_mod _ k1⟩
  have nt : decide (word = Str.ofString "take") = false := decide_eq_false (by rcases hw with rfl | rfl | rfl <;> decide +kernel)
  rw [nt]
  refine iteF ?_
  rw [hC]
  clear hC C nt
  refine cutC1 fun C hC => ?_
  walk_at "rd"
  rcases hw with rfl | hw
  · rw [decide_eq_true rfl]
    obtain ⟨y, hy⟩ : ∃ y, deeds[(c % 3).toNat]? = some y := ⟨_, List.getElem?_eq_getElem (by (first | (clear k2 m1 m2 n1 e1 len sq sq1 hC h63 hn0 hn1 en hne k1 hnl ed; lia) | omega))⟩
    refine iteT ⟨by decide, _, items_l (S1 _ _ ed), .str y, atI_int (by (first | (clear h63 hn0 hn1 en hne hnl ed hdl k1 k2 m1 m2 n1 e1 len sq sq1 hC hy; lia) | omega)) (by rw [List.getElem?_map, hy]; rfl), ⟨by decide, by decide⟩, by (first | (clear m1 m2 n1 e1 len sq sq1 hC hy h63 hn0 hn1 en hne hnl ed hdl k2; omega) | omega), .inl ⟨by decide, by decide⟩, ⟨by (first | (clear h63 hn0 hn1 en hne m1 m2 n1 e1 len sq sq1 hC hy hnl ed hdl k2; omega) | omega), by (first | (clear m1 m2 n1 e1 len sq sq1 hC hy h63 hn0 hn1 en hne hnl ed hdl k1; omega) | omega)⟩, by (first | (clear m1 m2 n1 e1 len sq sq1 hC hy h63 hn0 hn1 en hne hnl ed hdl k2; omega) | omega), .inl ⟨by decide, by decide⟩, .inl ⟨by (first | (clear m1 m2 n1 e1 len sq sq1 hC hy h63 hn0 hn1 en hne hnl ed hdl k2; omega) | omega), by (first | (clear m1 m2 n1 e1 len sq sq1 hC hy h63 hn0 hn1 en hne hnl ed hdl k1; omega) | omega)⟩, ⟨sq1, by (first | (clear h63 hn0 hn1 en hne hnl ed hdl k1 k2 m1 m2 n1 e1 len hy hC sq1; omega) | omega)⟩, by (first | (clear m1 m2 n1 e1 len sq sq1 hC hy h63 hn0 hn1 en hne hnl ed hdl k2; omega) | omega), by decide, NewO.mk fun p2 H2 S2 n2 e2 => ?_⟩
    exact q (.join y _ _ _) _ H2 (S1.trans S2) (Dt.tup e2 (.cons (isD_str.mpr rfl) (.cons (isD_str.mpr rfl) (.cons (isD_int.mpr rfl) (.cons (isD_int.mpr rfl) (.cons (isD_int.mpr rfl) .nil)))))) ⟨List.mem_of_getElem? hy, inN_mod _ k1, inN_mod _ k1, inN_mod _ k1⟩
  have nt : decide (word = Str.ofString "join") = false := decide_eq_false (by rcases hw with rfl | rfl <;> decide +kernel)
  rw [nt]
  refine iteF ?_
  rw [hC]
  clear hC C nt
  walk_at "rd"
  rcases hw with rfl | rfl
  · rw [decide_eq_true rfl]
    refine iteT ⟨by (first | (clear k2 m1 m2 n1 e1 len sq sq1 h63 hn0 hn1 en hne hnl ed hdl; omega) | omega), ⟨by (first | (clear k2 m1 m2 n1 e1 len sq sq1 h63 hn0 hn1 en hne hnl ed hdl; omega) | omega), by (first | (clear h63 hn0 hn1 en hne hnl ed hdl k1 len sq sq1 n1 e1 m2 m1; omega) | omega)⟩, by (first | (clear h63 hn0 hn1 en hne hnl ed hdl k1 len sq sq1 n1 e1 m2 k2; omega) | omega), by decide, NewO.mk fun p2 H2 S2 n2 e2 => ?_⟩
    exact q (.put _ _) _ H2 (S1.trans S2) (Dt.tup e2 (.cons (isD_str.mpr rfl) (.cons (isD_int.mpr rfl) (.cons (isD_int.mpr rfl) .nil)))) ⟨inN_mod _ k1, inN_mod _ m1⟩
  · rw [decide_eq_false (by decide +kernel)]
    refine iteF ⟨by (first | (clear h63 hn0 hn1 en hne hnl ed hdl k1 len sq sq1 n1 e1 m2 k2; omega) | omega), ⟨by (first | (clear h63 hn0 hn1 en hne hnl ed hdl k1 len sq sq1 n1 e1 m2 k2; omega) | omega), by (first | (clear h63 hn0 hn1 en hne hnl ed hdl k1 len sq sq1 n1 e1 k2 m1; omega) | omega)⟩, by (first | (clear k2 m1 m2 n1 e1 len sq sq1 h63 hn0 hn1 en hne hnl ed hdl; omega) | omega), by decide, NewO.mk fun p2 H2 S2 n2 e2 => ?_⟩
    exact q (.fetch _ _) _ H2 (S1.trans S2) (Dt.tup e2 (.cons (isD_str.mpr rfl) (.cons (isD_int.mpr rfl) (.cons (isD_int.mpr rfl) .nil)))) ⟨inN_mod _ m1, inN_mod _ k1⟩
/-! ### the program's trees.py, where nothing is refused -/
theorem one_ge (c d : Nat) : (!decide ([c] < [d])) = decide (d ≤ c) := by
  rw [Bool.eq_iff_iff]; simp [List.cons_lt_cons_iff]
noncomputable def spName : Sp := fun vs H Q _ => ∃ (x : Str), vs = [.str x] ∧ x.length ≤ 1000000 ∧ ∀ H', Same H H' → Q (.bl (nameOk x)) H'
theorem ok_name (T : Txt K mg) : FnOk P w K mg base CX0 1 T.f_is_name T.d_is_name ["text"] spName := by
  refine T.F_is_name.ok (k := 0) sc_is_name (fun vs H Q E h => ?_) (fun cdv A outer s H vs Q E hr h => ?_)
  · obtain ⟨x, rfl, _⟩ := h
    rfl
  obtain ⟨x, rfl, hx, q⟩ := h
  have nd := sc_is_name.nd
  refine ⟨_, (pss_one (ps_ret (pe_and (pe_chain op_le op_le pe_int (pe_callB call_len_str rfl T.z_len bt_len (pa_cons (pv 0) pa_nil)) (pe_glob (v := .int 8) rfl T.c_LONGEST_NAME ⟨_, rfl⟩)) (pe_one (pe_callB (call_all rfl) rfl T.z_all bt_all (pa_cons (pe_comp (N := ["sign"]) (caps := []) rfl ⟨rfl, rfl, rfl, rfl, by decide +kernel, rfl, rfl, rfl, rfl⟩ (pi_str (pv 0)) (fun _ _ _ _ => pif_nil) (fun _ _ _ _ => (pe_chain op_le_str op_le_str pe_str (pv 0) pe_str))) pa_nil)))))), ?_⟩
  walk_at "rd"
  have hz : x.length ≤ sizeLine := Nat.le_trans hx (by decide)
  have el : x.cps.toList.length = x.length := by simp [Str.length]
  refine ⟨hz, ite2 (fun c1 => ite2 (fun c2 => ?_) (fun c2 => ?_)) (fun c1 => ?_)⟩
  · have c1 : 1 ≤ x.length := by have := of_decide_eq_true c1; (first | (clear hx hz el c1 c2; omega) | omega)
    have c2 : x.length ≤ 8 := by have := of_decide_eq_true c2; (first | (clear hx hz el c2 c1; lia) | omega)
    refine comp_str (fun i ys H' => H' = H ∧ i ≤ x.cps.size ∧ ys = (x.cps.toList.take i).map (fun c => V.bl (decide (97 ≤ c) && decide (c ≤ 122)))) ⟨rfl, Nat.zero_le _, rfl⟩ (Nat.lt_of_le_of_lt c2 (by decide)) (fun i ys H' h => ?_) (fun i c ys H' ec h => ?_) (fun ys H' h p hp => ?_)
    · rw [h.2.2]; simp; (first | (clear hx hz el c1 c2 h; lia) | omega)
    · obtain ⟨rfl, hi, rfl⟩ := h
      walk_at "rd"
      have hlt : i < x.cps.size := (Array.getElem?_eq_some_iff.mp ec).1
      have ec' : x.cps.toList[i]? = some c := by simpa using ec
      have e : (x.cps.toList.take (i + 1)).map (fun c => V.bl (decide (97 ≤ c) && decide (c ≤ 122))) = (x.cps.toList.take i).map (fun c => V.bl (decide (97 ≤ c) && decide (c ≤ 122))) ++ [V.bl (decide (97 ≤ c) && decide (c ≤ 122))] := by
        rw [List.take_add_one, ec']; simp
      have l1 : (!decide ((Str.mk #[c]).cps.toList < (Str.ofString "a").cps.toList)) = decide (97 ≤ c) := by
        have : (Str.ofString "a").cps.toList = [97] := by decide +kernel
        rw [this]; exact one_ge c 97
      have l2 : (!decide ((Str.ofString "z").cps.toList < (Str.mk #[c]).cps.toList)) = decide (c ≤ 122) := by
        have : (Str.ofString "z").cps.toList = [122] := by decide +kernel
        rw [this]; exact one_ge 122 c
      rw [l1, l2]
      refine ite2 (fun d => ?_) (fun d => ?_)
      · refine ⟨hlt, ?_⟩
        rw [e, d]; simp
      · refine ⟨hlt, ?_⟩
        have d : decide (97 ≤ c) = false := by simpa using d
        rw [e, d]; simp
    · obtain ⟨rfl, _, rfl⟩ := h
      refine ⟨p, rfl, x.cps.toList.map (fun c => decide (97 ≤ c) && decide (c ≤ 122)), SqL.of ?_, ?_⟩
      · rw [upd_same]
        have : x.cps.toList.take x.cps.size = x.cps.toList := List.take_of_length_le (by simp)
        rw [this, List.map_map]; rfl
      · have := q _ (same_new hp (.lst ((x.cps.toList.take x.cps.size).map (fun c => V.bl (decide (97 ≤ c) && decide (c ≤ 122))))))
        unfold nameOk isName at this
        rw [el, decide_eq_true c1, decide_eq_true c2] at this
        rw [List.all_map]
        simpa using this
  · have c1 : 1 ≤ x.length := by have := of_decide_eq_true c1; (first | (clear hx hz el c1 c2; omega) | omega)
    have c2 : ¬ x.length ≤ 8 := fun z => c2 (decide_eq_true (by (first | (clear hx hz el c2 c1; lia) | omega)))
    have := q H (Same.refl H)
    unfold nameOk isName at this
    rw [el, decide_eq_false c2] at this
    simpa using this
  · have c1 : ¬ 1 ≤ x.length := fun z => c1 (decide_eq_true (by (first | (clear hx hz el c1; lia) | omega)))
    have := q H (Same.refl H)
    unfold nameOk isName at this
    rw [el, decide_eq_false c1] at this
    simpa using this
/-! ### the program's rowtexts.py -/
noncomputable def partsK (t1 t2 t3 t4 : Addr) : List (Key × V) := [(.inr (Str.ofString "take"), .ref t1), (.inr (Str.ofString "join"), .ref t2), (.inr (Str.ofString "put"), .ref t3), (.inr (Str.ofString "fetch"), .ref t4)]
structure Prts (P : Program) (w : World) (K : PySem.W.Frag) (mg : Str → Option Value) where
  a : Addr
  t1 : Addr
  t2 : Addr
  t3 : Addr
  t4 : Addr
  m : mg "PARTS" = some (.ref a)
  d : KD P w K a (partsK t1 t2 t3 t4)
  k1 : KTup K t1 [.str (Str.ofString "name"), .str (Str.ofString "number")]
  k2 : KTup K t2 [.str (Str.ofString "name"), .str (Str.ofString "number"), .str (Str.ofString "number"), .str (Str.ofString "number")]
  k3 : KTup K t3 [.str (Str.ofString "number"), .str (Str.ofString "number")]
  k4 : KTup K t4 [.str (Str.ofString "number"), .str (Str.ofString "number")]
/-- the words of a deed -/
noncomputable def deedW : L2.Deed → List Str
  | .take x i => [Str.ofString "take", x, intT i]
  | .join f i j l => [Str.ofString "join", f, intT i, intT j, intT l]
  | .put i s => [Str.ofString "put", intT i, intT s]
  | .fetch s i => [Str.ofString "fetch", intT s, intT i]
noncomputable def deedT (d : L2.Deed) : Str := Txt.join (Str.ofString " ") (deedW d)
noncomputable def rowT (r : List L2.Deed) : Str := Txt.join (Str.ofString "; ") (r.map deedT)
noncomputable def nmOf : L2.Deed → Option Str
  | .take x _ => some x
  | .join f _ _ _ => some f
  | _ => none
/-- it can stand in a row's text -/
noncomputable def okT (d : L2.Deed) : Prop := (∀ i ∈ d.bn ++ d.sn, 0 ≤ i ∧ i < 10000) ∧ ∀ x, nmOf d = some x → nameOk x = true
noncomputable def strOfV : V → Str
  | .str x => x
  | .int i => intT i
  | _ => Str.ofString ""
theorem words_of (d : L2.Deed) : (vDeed d).map strOfV = deedW d := by cases d <;> rfl
theorem intT_len {i : Int} (h : 0 ≤ i ∧ i < 10000) : (intT i).length ≤ 4 ∧ (intT i).cps.toList = numL i.toNat := by
  obtain ⟨n, rfl⟩ : ∃ n : Nat, i = n := ⟨i.toNat, by (first | lia | omega)⟩
  have := num_facts (n := n) (by omega)
  rw [intT_nat]
  refine ⟨?_, by simp [numT]⟩
  have e : (numT n).length = (numL n).length := by simp [numT, Str.length]
  rw [e]; exact this.2.1
theorem nameOk_len {x : Str} (h : nameOk x = true) : 1 ≤ x.length ∧ x.length ≤ 8 ∧ ∀ c ∈ x.cps.toList, 97 ≤ c ∧ c ≤ 122 := by
  unfold nameOk isName at h
  simp only [Bool.and_eq_true, decide_eq_true_eq, List.all_eq_true] at h
  have el : x.cps.toList.length = x.length := by simp [Str.length]
  rw [el] at h
  exact ⟨h.1, h.2.1, fun c hc => h.2.2 c hc⟩
theorem word_lit : ∀ z ∈ [Str.ofString "take", Str.ofString "join", Str.ofString "put", Str.ofString "fetch"], z.length ≤ 8 ∧ ∀ c ∈ z.cps.toList, 97 ≤ c ∧ c ≤ 122 := by decide +kernel
/-- the words of a deed: short, of letters and figures -/
theorem word_ok {d : L2.Deed} (h : okT d) : ∀ z ∈ deedW d, z.length ≤ 8 ∧ ∀ c ∈ z.cps.toList, 48 ≤ c ∧ c ≤ 122 ∧ c ≠ 59 := by
  have w0 : ∀ z ∈ [Str.ofString "take", Str.ofString "join", Str.ofString "put", Str.ofString "fetch"], z.length ≤ 8 ∧ ∀ c ∈ z.cps.toList, 48 ≤ c ∧ c ≤ 122 ∧ c ≠ 59 := fun z hz => by
    obtain ⟨h1, h2⟩ := word_lit z hz
    exact ⟨h1, fun c hc => by have := h2 c hc; (first | (clear h1; lia) | omega)⟩
  have wn : ∀ x, nmOf d = some x → x.length ≤ 8 ∧ ∀ c ∈ x.cps.toList, 48 ≤ c ∧ c ≤ 122 ∧ c ≠ 59 := fun x hx => by
    obtain ⟨_, h1, h2⟩ := nameOk_len (h.2 x hx)
    exact ⟨h1, fun c hc => by have := h2 c hc; (first | lia | omega)⟩
  have wi : ∀ i ∈ d.bn ++ d.sn, (intT i).length ≤ 8 ∧ ∀ c ∈ (intT i).cps.toList, 48 ≤ c ∧ c ≤ 122 ∧ c ≠ 59 := fun i hi => by
    have hb := h.1 i hi
    obtain ⟨h1, h2⟩ := intT_len hb
    refine ⟨by (first | lia | omega), fun c hc => ?_⟩
    rw [h2] at hc
    have := (num_facts (n := i.toNat) (by (first | lia | omega))).2.2.1 c hc
    (first | (clear hb h1 h2; lia) | omega)
  intro z hz
  cases d with
  | take x i =>
    simp only [deedW, List.mem_cons, List.not_mem_nil, or_false] at hz
    rcases hz with rfl | rfl | rfl
    · exact w0 _ (by simp)
    · exact wn _ rfl
    · exact wi _ (by simp [M.Deed.bn])
  | join f i j l =>
    simp only [deedW, List.mem_cons, List.not_mem_nil, or_false] at hz
    rcases hz with rfl | rfl | rfl | rfl | rfl
    · exact w0 _ (by simp)
    · exact wn _ rfl
    · exact wi _ (by simp [M.Deed.bn])
    · exact wi _ (by simp [M.Deed.bn])
    · exact wi _ (by simp [M.Deed.bn])
  | put i s =>
    simp only [deedW, List.mem_cons, List.not_mem_nil, or_false] at hz
    rcases hz with rfl | rfl | rfl
    · exact w0 _ (by simp)
    · exact wi _ (by simp [M.Deed.bn])
    · exact wi _ (by simp [M.Deed.sn])
  | fetch s i =>
    simp only [deedW, List.mem_cons, List.not_mem_nil, or_false] at hz
    rcases hz with rfl | rfl | rfl
    · exact w0 _ (by simp)
    · exact wi _ (by simp [M.Deed.sn])
    · exact wi _ (by simp [M.Deed.bn])
theorem deedW_len (d : L2.Deed) : 3 ≤ (deedW d).length ∧ (deedW d).length ≤ 5 := by cases d <;> simp [deedW]
theorem sep1 : (Str.ofString " ") = ⟨([32] : List Nat).toArray⟩ := by decide +kernel
theorem sep2 : (Str.ofString "; ") = ⟨([59, 32] : List Nat).toArray⟩ := by decide +kernel
theorem sum_le8 : ∀ l : List Str, (∀ z ∈ l, z.length ≤ 8) → (l.map (·.length)).sum ≤ 8 * l.length
  | [], _ => by simp
  | a :: l, h => by
    have h1 := h a (by simp)
    have h2 := sum_le8 l fun z hz => h z (by simp [hz])
    simp only [List.map_cons, List.sum_cons, List.length_cons]
    (first | lia | omega)
theorem deedT_len {d : L2.Deed} (h : okT d) : (deedT d).length ≤ 50 ∧ ∀ c ∈ (deedT d).cps.toList, c ≠ 59 := by
  have e : (deedT d).cps.toList = jn [32] ((deedW d).map fun z => z.cps.toList) := by
    unfold deedT Txt.join
    rw [StrLaws.glued_eq_join, jn_cps, sep1]
  have hw := word_ok h
  have l5 := (deedW_len d).2
  constructor
  · have h1 := len_jn [32] ((deedW d).map fun z => z.cps.toList)
    rw [← e] at h1
    have h2 := sum_le8 (deedW d) fun z hz => (hw z hz).1
    have h3 : (((deedW d).map fun z => z.cps.toList).map List.length) = (deedW d).map (·.length) := by rw [List.map_map]; rfl
    rw [h3] at h1
    simp only [List.length_map, List.length_cons, List.length_nil] at h1
    have h4 : (deedT d).cps.toList.length = (deedT d).length := by simp [Str.length]
    (first | lia | omega)
  · rw [e]
    have go : ∀ l : List (List Nat), (∀ z ∈ l, ∀ c ∈ z, c ≠ 59) → ∀ c ∈ jn [32] l, c ≠ 59 := by
      intro l
      induction l with
      | nil => intro _ c hc; simp [jn] at hc
      | cons a l ih =>
        intro hl c hc
        cases l with
        | nil => exact hl a (by simp) c hc
        | cons b l =>
          simp only [jn, List.mem_append, List.mem_singleton] at hc
          rcases hc with (hc | hc) | hc
          · exact hl a (by simp) c hc
          · (first | lia | omega)
          · exact ih (fun z hz => hl z (by simp [List.mem_cons.mp hz])) c hc
    refine go _ fun z hz c hc => ?_
    obtain ⟨y, hy, rfl⟩ := List.mem_map.mp hz
    exact ((hw y hy).2 c hc).2.2
theorem rowT_len {r : List L2.Deed} (h : ∀ d ∈ r, okT d) : (rowT r).length ≤ 60 * r.length := by
  have e : (rowT r).cps.toList = jn [59, 32] ((r.map deedT).map fun z => z.cps.toList) := by
    unfold rowT Txt.join
    rw [StrLaws.glued_eq_join, jn_cps, sep2]
  have h1 := len_jn [59, 32] ((r.map deedT).map fun z => z.cps.toList)
  rw [← e] at h1
  have h2 : ∀ r : List L2.Deed, (∀ d ∈ r, okT d) → ((((r.map deedT).map fun z : Str => z.cps.toList)).map List.length).sum ≤ 50 * r.length := by
    intro r
    induction r with
    | nil => intro _; simp
    | cons d r ih =>
      intro h
      have a1 := (deedT_len (h d (by simp))).1
      have a2 := ih fun d hd => h d (by simp [hd])
      have a3 : (deedT d).cps.toList.length = (deedT d).length := by simp [Str.length]
      simp only [List.map_cons, List.sum_cons, List.length_cons] at a2 ⊢
      (first | (clear e h1 ih; lia) | omega)
  have h3 := h2 r h
  simp only [List.length_map, List.length_cons, List.length_nil] at h1
  have h4 : (rowT r).cps.toList.length = (rowT r).length := by simp [Str.length]
  (first | lia | omega)
theorem vdeed_mem (d : L2.Deed) : ∀ x ∈ vDeed d, (∃ z, x = V.str z) ∨ ∃ i ∈ d.bn ++ d.sn, x = V.int i := by
  intro x hx
  cases d with
  | take y i =>
    simp only [vDeed, List.mem_cons, List.not_mem_nil, or_false] at hx
    rcases hx with rfl | rfl | rfl
    · exact .inl ⟨_, rfl⟩
    · exact .inl ⟨_, rfl⟩
    · exact .inr ⟨_, by simp [M.Deed.bn], rfl⟩
  | join f i j l =>
    simp only [vDeed, List.mem_cons, List.not_mem_nil, or_false] at hx
    rcases hx with rfl | rfl | rfl | rfl | rfl
    · exact .inl ⟨_, rfl⟩
    · exact .inl ⟨_, rfl⟩
    · exact .inr ⟨_, by simp [M.Deed.bn], rfl⟩
    · exact .inr ⟨_, by simp [M.Deed.bn], rfl⟩
    · exact .inr ⟨_, by simp [M.Deed.bn], rfl⟩
  | put i s =>
    simp only [vDeed, List.mem_cons, List.not_mem_nil, or_false] at hx
    rcases hx with rfl | rfl | rfl
    · exact .inl ⟨_, rfl⟩
    · exact .inr ⟨_, by simp [M.Deed.bn], rfl⟩
    · exact .inr ⟨_, by simp [M.Deed.sn], rfl⟩
  | fetch s i =>
    simp only [vDeed, List.mem_cons, List.not_mem_nil, or_false] at hx
    rcases hx with rfl | rfl | rfl
    · exact .inl ⟨_, rfl⟩
    · exact .inr ⟨_, by simp [M.Deed.sn], rfl⟩
    · exact .inr ⟨_, by simp [M.Deed.bn], rfl⟩
theorem lg4 {n : Nat} (h : n < 10000) : n.log2 < 1900 := by
  by_cases z : n = 0
  · rw [z]; decide
  · exact (Nat.log2_lt z).mpr (Nat.lt_of_lt_of_le (show n < 2 ^ 14 by (first | lia | omega)) (Nat.pow_le_pow_right (by decide) (by decide)))
noncomputable def numOk (x : Str) : Bool := (decide (1 ≤ x.length) && (decide (x.length ≤ 4) && x.cps.toList.all fun c => decide (48 ≤ c) && decide (c ≤ 57))) && (decide (x = Str.ofString "0") || decide (x.cps.toList.head? ≠ some 48))
noncomputable def spNum : Sp := fun vs H Q _ => ∃ (x : Str), vs = [.str x] ∧ x.length ≤ 1000000 ∧ ∀ H', Same H H' → Q (.bl (numOk x)) H'
seal PSs PS PE PT PA PI PIfs in
theorem ok_num (T : Txt K mg) : FnOk P w K mg base CX0 1 T.f_is_number T.d_is_number ["word"] spNum := by
  refine T.F_is_number.ok (k := 0) sc_is_number (fun vs H Q E h => ?_) (fun cdv A outer s H vs Q E hr h => ?_)
  · obtain ⟨x, rfl, _⟩ := h
    rfl
  obtain ⟨x, rfl, hx, q⟩ := h
  have nd := sc_is_number.nd
  refine ⟨_, (pss_cons (ps_if (PW.pt (pw_or (pt_not (pt_chain op_le op_le pe_int (pe_callB call_len_str rfl T.z_len bt_len (pa_cons (pv 0) pa_nil)) (pe_glob (v := .int 4) rfl T.c_MOST_FIGURES ⟨_, rfl⟩))) (pw_or1 (pt_not (pt_val (pe_callB (call_all rfl) rfl T.z_all bt_all (pa_cons (pe_comp (N := ["sign"]) (caps := []) rfl ⟨rfl, rfl, rfl, rfl, by decide +kernel, rfl, rfl, rfl, rfl⟩ (pi_str (pv 0)) (fun _ _ _ _ => pif_nil) (fun _ _ _ _ => (pe_chain op_le_str op_le_str pe_str (pv 0) pe_str))) pa_nil))))))) (pss_one (ps_ret pe_bl)) pss_nil)
    (pss_one (ps_ret (pe_or (pe_cmpR op_eq (pv 0) pe_str (nomark _)) (pe_one (pe_cmpR op_ne (pe_ix ix_str (pv 0) pe_int (fun _ _ => rfl)) pe_str (nomark _))))))), ?_⟩
  refine cutC1 fun C hC => ?_
  walk_at "rd"
  have hz : x.length ≤ sizeLine := Nat.le_trans hx (by decide)
  have el : x.cps.toList.length = x.length := by simp [Str.length]
  have no : ∀ b : Bool, numOk x = (false && b) → ∀ H', Same H H' → Q (.bl false) H' := fun b e H' S' => by
    have := q H' S'
    rw [e] at this
    exact this
  refine ⟨hz, ite2 (fun c1 => ?_) (fun c1 => iteT ?_)⟩
  · have c1 : 1 ≤ x.length := by have := of_decide_eq_true c1; (first | (clear hx hC hz el c1; omega) | omega)
    refine ite2 (fun c2 => ?_) (fun c2 => ?_)
    · have c2 : ¬ x.length ≤ 4 := fun z => by
        have : decide ((x.length : Int) ≤ 4) = true := decide_eq_true (by (first | (clear hx hC hz el c1 c2; lia) | omega))
        rw [this] at c2; cases c2
      exact no true (by unfold numOk; rw [decide_eq_false c2]; simp) H (Same.refl _)
    · have c2 : x.length ≤ 4 := by
        have : decide ((x.length : Int) ≤ 4) = true := by simpa using c2
        have := of_decide_eq_true this
        (first | (clear hx hC hz el c1 c2; omega) | omega)
      refine comp_str (fun i ys H' => H' = H ∧ i ≤ x.cps.size ∧ ys = (x.cps.toList.take i).map (fun c => V.bl (decide (48 ≤ c) && decide (c ≤ 57)))) ⟨rfl, Nat.zero_le _, rfl⟩ (Nat.lt_of_le_of_lt c2 (by decide)) (fun i ys H' h => ?_) (fun i c ys H' ec h => ?_) (fun ys H' h p hp => ?_)
      · rw [h.2.2]; simp; (first | (clear hx hC hz el c1 c2 h; lia) | omega)
      · obtain ⟨rfl, hi, rfl⟩ := h
        walk_at "rd"
        have hlt : i < x.cps.size := (Array.getElem?_eq_some_iff.mp ec).1
        have ec' : x.cps.toList[i]? = some c := by simpa using ec
        have e : (x.cps.toList.take (i + 1)).map (fun c => V.bl (decide (48 ≤ c) && decide (c ≤ 57))) = (x.cps.toList.take i).map (fun c => V.bl (decide (48 ≤ c) && decide (c ≤ 57))) ++ [V.bl (decide (48 ≤ c) && decide (c ≤ 57))] := by
          rw [List.take_add_one, ec']; simp
        have l1 : (!decide ((Str.mk #[c]).cps.toList < (Str.ofString "0").cps.toList)) = decide (48 ≤ c) := by
          have : (Str.ofString "0").cps.toList = [48] := by decide +kernel
          rw [this]; exact one_ge c 48
        have l2 : (!decide ((Str.ofString "9").cps.toList < (Str.mk #[c]).cps.toList)) = decide (c ≤ 57) := by
          have : (Str.ofString "9").cps.toList = [57] := by decide +kernel
          rw [this]; exact one_ge 57 c
        rw [l1, l2]
        refine ite2 (fun d => ?_) (fun d => ?_)
        · refine ⟨hlt, ?_⟩
          rw [e, d]; simp
        · refine ⟨hlt, ?_⟩
          have d : decide (48 ≤ c) = false := by simpa using d
          rw [e, d]; simp
      · obtain ⟨rfl, _, rfl⟩ := h
        have ew : x.cps.toList.take x.cps.size = x.cps.toList := List.take_of_length_le (by simp)
        refine ⟨p, rfl, x.cps.toList.map (fun c => decide (48 ≤ c) && decide (c ≤ 57)), SqL.of ?_, ?_⟩
        · rw [upd_same, ew, List.map_map]; rfl
        have S1 := same_new hp (.lst ((x.cps.toList.take x.cps.size).map (fun c => V.bl (decide (48 ≤ c) && decide (c ≤ 57)))))
        refine ite2 (fun c3 => ?_) (fun c3 => ?_)
        · refine no true ?_ _ S1
          have c3 : (x.cps.toList.all fun c => decide (48 ≤ c) && decide (c ≤ 57)) = false := by
            rw [List.all_map] at c3
            simpa using c3
          unfold numOk
          rw [c3]; simp
        · rw [hC]
          clear hC C
          walk_at "rd"
          have c3 : (x.cps.toList.all fun c => decide (48 ≤ c) && decide (c ≤ 57)) = true := by
            rw [List.all_map] at c3
            simpa using c3
          have := q _ S1
          unfold numOk at this
          rw [c3, decide_eq_true c1, decide_eq_true c2] at this
          refine ite2 (fun c4 => ?_) (fun c4 => ?_)
          · rw [c4] at this; simpa using this
          · have c4 : decide (x = Str.ofString "0") = false := by simpa using c4
            rw [c4] at this
            obtain ⟨c0, rest, e0⟩ : ∃ c0 rest, x.cps.toList = c0 :: rest := by
              cases hh : x.cps.toList with
              | nil => rw [hh] at el; simp at el; omega
              | cons a r => exact ⟨a, r, rfl⟩
            rw [e0] at this ⊢
            refine ⟨hz, c0, atI_0, ?_⟩
            have e48 : decide ((Str.mk #[c0]) = Str.ofString "0") = decide (c0 = 48) := by
              have : Str.ofString "0" = ⟨#[48]⟩ := by decide +kernel
              rw [this, Bool.eq_iff_iff]; simp
            rw [e48]
            simpa using this
  · have c1 : ¬ 1 ≤ x.length := fun z => c1 (decide_eq_true (by (first | (clear hx hC hz el c1; lia) | omega)))
    exact no true (by unfold numOk; rw [decide_eq_false c1]; simp) H (Same.refl _)
noncomputable def PRel (k w : Str) (v : V) : Prop := (k = Str.ofString "name" ∧ nameOk w = true ∧ v = .str w) ∨ ∃ n : Nat, k = Str.ofString "number" ∧ w = numT n ∧ n < 10000 ∧ v = .int n
inductive PRels : List Str → List Str → List V → Prop
  | nil : PRels [] [] []
  | cons {k w : Str} {v : V} {ks ws : List Str} {vs : List V} : PRel k w v → PRels ks ws vs → PRels (k :: ks) (w :: ws) (v :: vs)
theorem PRels.at {ks ws : List Str} {vs : List V} (h : PRels ks ws vs) : ∀ {i : Nat} {k w : Str}, ks[i]? = some k → ws[i]? = some w → ∃ v, vs[i]? = some v ∧ PRel k w v := by
  induction h with
  | nil => intro i k w h; simp at h
  | cons r _ ih =>
    intro i k w h1 h2
    cases i with
    | zero =>
      simp only [List.getElem?_cons_zero, Option.some.injEq] at h1 h2
      subst h1 h2
      exact ⟨_, rfl, r⟩
    | succ i =>
      simp only [List.getElem?_cons_succ] at h1 h2
      obtain ⟨v, e, r⟩ := ih h1 h2
      exact ⟨v, by rw [List.getElem?_cons_succ]; exact e, r⟩
theorem PRels.len {ks ws : List Str} {vs : List V} (h : PRels ks ws vs) : ks.length = ws.length ∧ vs.length = ws.length := by
  induction h with
  | nil => exact ⟨rfl, rfl⟩
  | cons _ _ ih => exact ⟨by simp [ih.1], by simp [ih.2]⟩
/-! ### reading, with what is refused -/
theorem numOk_is {x : Str} (h : numOk x = true) : ∃ n, n < 10000 ∧ x = numT n := by
  unfold numOk at h
  simp only [Bool.and_eq_true, Bool.or_eq_true, decide_eq_true_eq, List.all_eq_true] at h
  have el : x.cps.toList.length = x.length := by simp [Str.length]
  refine numT_of (l := x.cps.toList) rfl (by (first | lia | omega)) (by (first | lia | omega)) (fun c hc => h.1.2.2 c hc) ?_
  rcases h.2 with z | z
  · left; rw [z]; decide +kernel
  · exact .inr z
open Classical in
/-- the number that a text tells -/
noncomputable def numN (x : Str) : Nat := if h : ∃ n, n < 10000 ∧ x = numT n then h.choose else 0
theorem numN_is {x : Str} (h : numOk x = true) : numN x < 10000 ∧ x = numT (numN x) := by
  have h' := numOk_is h
  unfold numN
  rw [dif_pos h']
  exact h'.choose_spec
noncomputable def rdPart (k x : Str) : Option V := if k = Str.ofString "name" ∧ nameOk x = true then some (.str x) else if k = Str.ofString "number" ∧ numOk x = true then some (.int (numN x)) else none
/-- a text that can be told -/
noncomputable def lowT (n : Nat) (x : Str) : Prop := x.length ≤ n ∧ ∀ c ∈ x.cps.toList, c < 16 ^ 8
theorem lowT.part {n : Nat} {x y p : Str} (h : lowT n x) (hp : p ∈ Txt.split x y) : lowT n p := ⟨Nat.le_trans (split_len x y p hp).1 h.1, fun c hc => h.2 c ((split_len x y p hp).2 c hc)⟩
theorem len_app (a b : Str) : (a ++ b).length = a.length + b.length := by simp only [Str.length, Str.cps_append, Array.size_append]
theorem line_le {n : Nat} (h : n ≤ 1000000) : n ≤ sizeLine := Nat.le_trans h (by decide)
noncomputable def spPartE (C : Addr) : Sp := fun vs H Q E => ∃ (k x : Str), vs = [.str k, .str x] ∧ (k.length ≤ 10 ∧ lowT 10000 x) ∧ (∀ v, rdPart k x = some v → ∀ H', Same H H' → Q v H') ∧ (rdPart k x = none → ∀ H', Same H H' → E (.ref C) none H')
seal PSs PS PE PT PA PI PIfs in
theorem ok_partE (T : Txt K mg) : FnOk P w K mg base (CXE P w) 2 T.f_read_part T.d_read_part ["kind", "word"] (spPartE T.C_NoText) := by
  refine T.F_read_part.okE (k := 1) sc_read_part (fun vs H Q E h => ?_) (fun cdv A outer s H vs Q E hr h L => ?_)
  · obtain ⟨k, x, rfl, _⟩ := h; rfl
  have nd := sc_read_part.nd
  have G_is_name := (ok_name (P := P) (w := w) (base := base) T).mono (k := 1) (by omega)
  have G_is_number := (ok_num (P := P) (w := w) (base := base) T).mono (k := 1) (by omega)
  obtain ⟨k, x, rfl, hx, q, qE⟩ := h
  refine ⟨_, (pss_cons (ps_if (PW.pt (pw_and (pt_cmpR op_eq (pv 0) pe_str (nomark _)) (pw_and1 (pt_val (pe_call G_is_name hr rfl T.m_is_name T.F_is_name.kp T.b_is_name .nil pass0 (pa_cons (pv 1) pa_nil)))))) (pss_one (ps_ret (pv 1))) pss_nil)
    (pss_cons (ps_if (PW.pt (pw_and (pt_cmpR op_eq (pv 0) pe_str (nomark _)) (pw_and1 (pt_val (pe_call G_is_number hr rfl T.m_is_number T.F_is_number.kp T.b_is_number .nil pass0 (pa_cons (pv 1) pa_nil)))))) (pss_one (ps_ret (pe_callTy call_intT rfl T.z_int bt_int (pa_cons (pv 1) pa_nil)))) pss_nil)
    (pss_one (ps_raise L rfl T.m_NoText T.x_NoText rfl (pa_cons (pe_js (.cons pe_str (.cons (pe_fmtS (pv 0)) (.cons pe_str (.cons (pe_fmtR (pv 1)) .nil))))) pa_nil))))), ?_⟩
  walk_at "rd"
  have l0 : (Str.empty ++ Str.ofString "no ").length = 3 := by decide +kernel
  have l2 : (Str.ofString ": ").length = 2 := by decide +kernel
  obtain ⟨hk, hx, hlow⟩ := hx
  have b1 : (Str.empty ++ Str.ofString "no ").length ≤ sizeLine := line_le (by (first | lia | omega))
  have b2 : k.length ≤ sizeLine := line_le (by (first | (clear qE l0 l2 b1 hx; lia) | omega))
  have b3 : (Str.empty ++ Str.ofString "no " ++ k).length ≤ sizeLine := line_le (by rw [len_app]; (first | lia | omega))
  have b4 : (Str.empty ++ Str.ofString "no " ++ k ++ Str.ofString ": ").length ≤ sizeLine := line_le (by rw [len_app, len_app]; (first | lia | omega))
  have b5 : ∀ z : Str, z.length ≤ 10 * x.length + 2 → (Str.empty ++ Str.ofString "no " ++ k ++ Str.ofString ": " ++ z).length ≤ sizeLine := fun z hz => line_le (by rw [len_app, len_app, len_app]; (first | (clear b2 b3 b4 qE b1; lia) | omega))
  have nn : ¬ Str.ofString "number" = Str.ofString "name" := by decide +kernel
  refine ite2 (fun c1 => ?_) (fun c1 => ?_)
  · have c1 : k = Str.ofString "name" := of_decide_eq_true c1
    have c1' : ¬ k = Str.ofString "number" := fun z => nn (by rw [← z, c1])
    refine ⟨x, rfl, by (first | (clear b2 b3 b4 nn c1 c1' qE l0 l2 b1 hk; lia) | omega), fun H1 S1 => ⟨_, rfl, ?_⟩⟩
    refine ite2 (fun c2 => ?_) (fun c2 => ?_)
    · exact q _ (by unfold rdPart; rw [if_pos ⟨c1, c2⟩]) H1 S1
    · rw [decide_eq_false c1']
      exact iteF ⟨b1, b2, b3, b4, hlow, by (first | (clear b3 b4 nn c1 c1' c2 qE l0 l2 hk b2 b1; lia) | omega), fun z hz => ⟨b5 z hz, b5 z hz, by decide, qE (by unfold rdPart; rw [if_neg (fun z => c2 z.2), if_neg (fun z => c1' z.1)]) H1 S1⟩⟩
  · have c1 : ¬ k = Str.ofString "name" := fun z => c1 (decide_eq_true z)
    refine ite2 (fun c2 => ?_) (fun c2 => ?_)
    · have c2 : k = Str.ofString "number" := of_decide_eq_true c2
      refine ⟨x, rfl, by (first | (clear b2 b3 b4 nn c1 c2 qE l0 l2 b1 hk; lia) | omega), fun H1 S1 => ⟨_, rfl, ?_⟩⟩
      refine ite2 (fun c3 => ?_) (fun c3 => ?_)
      · obtain ⟨n1, n2⟩ := numN_is c3
        exact ⟨numN x, n2, n1, q _ (by unfold rdPart; rw [if_neg (fun z => c1 z.1), if_pos ⟨c2, c3⟩]) H1 S1⟩
      · exact ⟨b1, b2, b3, b4, hlow, by (first | (clear b3 b4 nn c1 c2 c3 qE l0 l2 hk b2 b1; lia) | omega), fun z hz => ⟨b5 z hz, b5 z hz, by decide, qE (by unfold rdPart; rw [if_neg (fun z => c1 z.1), if_neg (fun z => c3 z.2)]) H1 S1⟩⟩
    · have c2 : ¬ k = Str.ofString "number" := fun z => c2 (decide_eq_true z)
      exact ⟨b1, b2, b3, b4, hlow, by (first | (clear b2 b3 b4 nn c1 c2 qE l0 l2 b1 hk; lia) | omega), fun z hz => ⟨b5 z hz, b5 z hz, by decide, qE (by unfold rdPart; rw [if_neg (fun z => c1 z.1), if_neg (fun z => c2 z.1)]) H (Same.refl _)⟩⟩
noncomputable def kindsK (x : Str) : Option (List Str) :=
  if x = Str.ofString "take" then some [Str.ofString "name", Str.ofString "number"]
  else if x = Str.ofString "join" then some [Str.ofString "name", Str.ofString "number", Str.ofString "number", Str.ofString "number"]
  else if x = Str.ofString "put" then some [Str.ofString "number", Str.ofString "number"]
  else if x = Str.ofString "fetch" then some [Str.ofString "number", Str.ofString "number"]
  else none
theorem kindsK_at (R : Prts P w K mg) (x : Str) : (∀ ks, kindsK x = some ks → (∃ t, valV (partsK R.t1 R.t2 R.t3 R.t4) (.inr x) = some (.ref t) ∧ KTup K t (ks.map V.str)) ∧ 2 ≤ ks.length ∧ ks.length ≤ 4 ∧ ∀ k ∈ ks, k.length ≤ 10) ∧ (kindsK x = none → valV (partsK R.t1 R.t2 R.t3 R.t4) (.inr x) = none) := by
  have ln : (Str.ofString "name").length ≤ 10 := by decide +kernel
  have lm : (Str.ofString "number").length ≤ 10 := by decide +kernel
  have n1 : ¬ Str.ofString "take" = Str.ofString "join" := by decide +kernel
  have n2 : ¬ Str.ofString "take" = Str.ofString "put" := by decide +kernel
  have n3 : ¬ Str.ofString "take" = Str.ofString "fetch" := by decide +kernel
  have n4 : ¬ Str.ofString "join" = Str.ofString "put" := by decide +kernel
  have n5 : ¬ Str.ofString "join" = Str.ofString "fetch" := by decide +kernel
  have n6 : ¬ Str.ofString "put" = Str.ofString "fetch" := by decide +kernel
  unfold kindsK
  by_cases h1 : x = Str.ofString "take"
  · subst h1
    rw [if_pos rfl]
    refine ⟨fun ks e => ?_, fun e => by cases e⟩
    cases e
    exact ⟨⟨R.t1, by simp [partsK, valV], R.k1⟩, by decide, by decide, by simp [ln, lm]⟩
  rw [if_neg h1]
  by_cases h2 : x = Str.ofString "join"
  · subst h2
    rw [if_pos rfl]
    refine ⟨fun ks e => ?_, fun e => by cases e⟩
    cases e
    exact ⟨⟨R.t2, by simp [partsK, valV, n1], R.k2⟩, by decide, by decide, by simp [ln, lm]⟩
  rw [if_neg h2]
  by_cases h3 : x = Str.ofString "put"
  · subst h3
    rw [if_pos rfl]
    refine ⟨fun ks e => ?_, fun e => by cases e⟩
    cases e
    exact ⟨⟨R.t3, by simp [partsK, valV, n2, n4], R.k3⟩, by decide, by decide, by simp [lm]⟩
  rw [if_neg h3]
  by_cases h4 : x = Str.ofString "fetch"
  · subst h4
    rw [if_pos rfl]
    refine ⟨fun ks e => ?_, fun e => by cases e⟩
    cases e
    exact ⟨⟨R.t4, by simp [partsK, valV, n3, n5, n6], R.k4⟩, by decide, by decide, by simp [lm]⟩
  rw [if_neg h4]
  refine ⟨fun ks e => (by cases e), fun _ => ?_⟩
  have m1 : ¬ Str.ofString "take" = x := fun z => h1 z.symm
  have m2 : ¬ Str.ofString "join" = x := fun z => h2 z.symm
  have m3 : ¬ Str.ofString "put" = x := fun z => h3 z.symm
  have m4 : ¬ Str.ofString "fetch" = x := fun z => h4 z.symm
  simp [partsK, valV, m1, m2, m3, m4]
noncomputable def rdDeedW (x : Str) (ws : List Str) : Option (List V) := match kindsK x with
  | none => none
  | some ks => if ws.length = ks.length then (optL (fun p : Str × Str => rdPart p.1 p.2) (ks.zip ws)).map (V.str x :: ·) else none
noncomputable def rdDeed (t : Str) : Option (List V) := match Txt.split t (Str.ofString " ") with
  | [] => none
  | x :: ws => rdDeedW x ws
noncomputable def spReadDE (C : Addr) : Sp := fun vs H Q E => ∃ (t : Str), vs = [.str t] ∧ lowT 10000 t ∧ (∀ us, rdDeed t = some us → ∀ p H', Same H H' → H' p = some (.tup us) → Q (.ref p) H') ∧ (rdDeed t = none → ∀ H', Same H H' → E (.ref C) none H')
seal PSs PS PE PT PA PI PIfs in
theorem ok_readdE (T : Txt K mg) (R : Prts P w K mg) : FnOk P w K mg base (CXE P w) 3 T.f_read_deed T.d_read_deed ["text"] (spReadDE T.C_NoText) := by
  refine T.F_read_deed.okE (k := 2) sc_read_deed (fun vs H Q E h => ?_) (fun cdv A outer s H vs Q E hr h L => ?_)
  · obtain ⟨t, rfl, _⟩ := h; rfl
  have nd := sc_read_deed.nd
  have G_read_part := ok_partE (P := P) (w := w) (base := base) T
  obtain ⟨t, rfl, lt, q, qE⟩ := h
  refine ⟨_, (pss_cons (ps_let (i := 1) nd rfl (Or.inl rfl) (pe_bm PySem.F.plainAttrs_str PySem.F.slot_str_split PySem.F.type_str_split mt_split (pv 0) (pa_cons pe_str pa_nil)))
    (pss_cons (ps_if (pt_cmp (pc_knotin R.d rfl R.m (pe_ix ixF (pv 1) pe_int (fun _ _ => rfl)))) (pss_one (ps_raise L rfl T.m_NoText T.x_NoText rfl (pa_cons (pe_js (.cons pe_str (.cons (pe_fmtR (pv 0)) .nil))) pa_nil))) pss_nil)
    (pss_cons (ps_let (i := 2) nd rfl (Or.inl rfl) (pe_kget R.d rfl R.m (pe_ix ixF (pv 1) pe_int (fun _ _ => rfl)) (fun _ _ => rfl)))
    (pss_cons (ps_if (pt_cmpR op_ne (pe_callB lenG rfl T.z_len bt_len (pa_cons (pv 1) pa_nil)) (pe_op op_add pe_int (pe_callB call_len_seq rfl T.z_len bt_len (pa_cons (pv 2) pa_nil))) (nomark _)) (pss_one (ps_raise L rfl T.m_NoText T.x_NoText rfl (pa_cons (pe_js (.cons pe_str (.cons (pe_fmtR (pv 0)) .nil))) pa_nil))) pss_nil)
    (pss_one (ps_ret (pe_op op_catD (pe_tup (pa_cons (pe_ix ixF (pv 1) pe_int (fun _ _ => rfl)) pa_nil)) (pe_callTy call_tupF rfl T.z_tuple bt_tuple (pa_cons (pe_compE2 L (K := K) (N := ["kind", "word"]) (caps := []) rfl rfl ⟨rfl, rfl, rfl, rfl, rfl, by decide +kernel, rfl, rfl, rfl, rfl, rfl⟩ (pi_zipK (K := K) rfl rfl T.z_zip (pa_cons (pv 2) (pa_cons (pe_slice slLG (pv 1) (po_some pe_int) po_none) pa_nil))) (fun _ _ _ _ => pif_nil) (fun _ _ _ _ => (pe_call G_read_part hr rfl T.m_read_part T.F_read_part.kp T.b_read_part .nil passB (pa_cons (pv 0) (pa_cons (pv 1) pa_nil))))) pa_nil))))))))), ?_⟩
  walk_at "rd"
  obtain ⟨x, ws, es⟩ : ∃ x ws, Txt.split t (Str.ofString " ") = x :: ws := by
    cases e : Txt.split t (Str.ofString " ") with
    | nil => exact absurd e (split_ne _ _)
    | cons x ws => exact ⟨x, ws, rfl⟩
  have er : rdDeed t = rdDeedW x ws := by unfold rdDeed; rw [es]
  rw [er] at qE
  rw [er] at q
  have lw : ∀ z ∈ ws, lowT 10000 z := fun z hz => lt.part (y := Str.ofString " ") (by rw [es]; exact List.mem_cons_of_mem _ hz)
  have few := split_few t (Str.ofString " ")
  rw [es, List.length_cons] at few
  rw [es]
  obtain ⟨hx, hlow⟩ := lt
  obtain ⟨ksS, ksN⟩ := kindsK_at R x
  have el : (Str.ofString " ").length ≠ 0 := by decide +kernel
  have l0 : (Str.empty ++ Str.ofString "no deed: ").length = 9 := by decide +kernel
  have l1 : (Str.empty ++ Str.ofString "too many parts or too few: ").length = 27 := by decide +kernel
  have b0 : ∀ z : Str, z.length ≤ 10 * t.length + 2 → (Str.empty ++ Str.ofString "no deed: " ++ z).length ≤ sizeLine := fun z hz => line_le (by rw [len_app]; (first | (clear qE es er ksN el few l1; lia) | omega))
  have b1 : ∀ z : Str, z.length ≤ 10 * t.length + 2 → (Str.empty ++ Str.ofString "too many parts or too few: " ++ z).length ≤ sizeLine := fun z hz => line_le (by rw [len_app]; (first | (clear qE es er ksN el few l0; lia) | omega))
  refine ⟨el, by (first | lia | omega), NewO.mk fun p1 H1 S1 n1 e1 => ?_⟩
  rw [List.map_cons] at e1
  refine ⟨p1, rfl, _, items_l e1, _, atI_0, .inr x, rfl, ?_⟩
  cases hk : kindsK x with
  | none =>
    rw [ksN hk]
    exact iteT ⟨line_le (by (first | lia | omega)), hlow, by (first | lia | omega), fun z hz => ⟨b0 z hz, b0 z hz, by decide, qE (by unfold rdDeedW; rw [hk]) H1 S1⟩⟩
  | some ks =>
    obtain ⟨⟨tk, ht, kt⟩, k2, k4, k10⟩ := ksS ks hk
    rw [ht]
    refine iteF ⟨p1, rfl, _, items_l e1, _, atI_0, .inr x, rfl, _, ht, p1, rfl, _, items_l e1, tk, rfl, _, .inr (kt.sq H1), ?_⟩
    by_cases hl : ws.length = ks.length
    · have lk : (((V.str x :: List.map V.str ws).length : Nat) : Int) = 1 + (((ks.map V.str).length : Nat) : Int) := by rw [List.length_cons, List.length_map, List.length_map]; (first | (clear qE es er few hx ksN el l0 l1 n1 e1 hk ht k2 k4; lia) | omega)
      rw [decide_eq_true lk]
      have ecut : cutV (V.str x :: List.map V.str ws) (some 1) none = List.map V.str ws := cutV_from (xs := V.str x :: List.map V.str ws) (p := 1) (by simp)
      have erd : rdDeedW x ws = (optL (fun p : Str × Str => rdPart p.1 p.2) (ks.zip ws)).map (V.str x :: ·) := by unfold rdDeedW; rw [hk]; simp only; rw [if_pos hl]
      have lz : (ks.zip ws).length = ks.length := by rw [List.length_zip]; (first | (clear qE es er few hx ksN el l0 l1 n1 e1 hk ht k2 k4 erd ecut lk; lia) | omega)
      refine iteF ⟨p1, rfl, _, items_l e1, _, atI_0, by decide, NewO.mk fun p2 H2 S2 n2 e2 => ⟨p1, rfl, _, S2 _ _ e1, NewO.mk fun p3 H3 S3 n3 e3 => ⟨_, _, ⟨rfl, rfl⟩, ?_⟩⟩⟩
      rw [ecut] at e3
      refine WalkK.comp (p := .t tk) (q := .l p3) (kt.sq H3) (SqL.of e3) (by rw [List.length_map, List.length_map]; (first | (clear qE es er few hx ksN el l0 l1 n1 e1 hk erd lz n2 e2 n3 e3 ht k2 k4 ecut lk; lia) | omega)) (fun i ys H' => optL (fun p : Str × Str => rdPart p.1 p.2) ((ks.zip ws).take i) = some ys) rfl (by rw [List.length_map]; (first | (clear qE es er few hx ksN el l0 l1 n1 e1 hk erd lz n2 e2 n3 e3 hl lk ecut ht k2; lia) | omega)) (fun i ys H' h => by have := optL_len h; rw [List.length_take] at this; (first | (clear qE es er few hx ksN el l0 l1 n1 e1 hk ht k2 k4 hl lk ecut erd lz n2 e2 n3 e3 h; lia) | omega)) (fun i y z ys H' ex ez S' h => ?_) (fun p4 ys H4 H5 S4 S5 h n5 e5 => ?_)
      · obtain ⟨Hx, _, _, h⟩ := h
        rw [List.getElem?_map] at ex ez
        obtain ⟨k, ek, rfl⟩ := Option.map_eq_some_iff.mp ex
        obtain ⟨z, ew, rfl⟩ := Option.map_eq_some_iff.mp ez
        have ei : (ks.zip ws)[i]? = some (k, z) := List.getElem?_zip_eq_some.mpr ⟨ek, ew⟩
        walk_at "rd"
        refine ⟨_, rfl, _, rfl, k, z, rfl, ⟨k10 k (List.mem_of_getElem? ek), lw z (List.mem_of_getElem? ew)⟩, fun v hv H6 S6 => ⟨S'.trans S6, optL_take h ei hv⟩, fun hn H6 S6 => qE (by rw [erd, optL_none ei hn]; rfl) H6 ?_⟩
        exact (((S1.trans S2).trans S3).trans S').trans S6
      · rw [List.length_map, ← lz, List.take_length] at h
        have l5 := optL_len h
        refine ⟨p4, rfl, _, e5, NewO.mk fun p6 H6 S6 n6 e7 => ⟨p2, rfl, p6, rfl, _, S6 _ _ (S5 _ _ (S4 _ _ (S3 _ _ e2))), _, e7, small_le (by rw [List.length_singleton]; (first | (clear hx ksN el l0 l1 n1 e1 hk n2 e2 n3 e3 n6 e7 qE es ht k2 lk ecut h n5 er hl erd e5; lia) | omega)), fun p7 H7 S7 e8 => ?_⟩⟩
        exact q _ (by rw [erd, h]; rfl) p7 H7 ((((((S1.trans S2).trans S3).trans S4).trans S5).trans S6).trans S7) e8
    · have lk : ¬ (((V.str x :: List.map V.str ws).length : Nat) : Int) = 1 + (((ks.map V.str).length : Nat) : Int) := by rw [List.length_cons, List.length_map, List.length_map]; (first | (clear qE es er few hx ksN el l0 l1 n1 e1 hk ht k2 k4; lia) | omega)
      rw [decide_eq_false lk]
      exact iteT ⟨line_le (by (first | lia | omega)), hlow, by (first | lia | omega), fun z hz => ⟨b1 z hz, b1 z hz, by decide, qE (by unfold rdDeedW; rw [hk]; simp only; rw [if_neg hl]) H1 S1⟩⟩
noncomputable def rdRow (t : Str) : Option (List (List V)) := optL rdDeed (Txt.split t (Str.ofString "; "))
noncomputable def dV : V → D
  | .str x => .str x
  | .int i => .int i
  | _ => .non
noncomputable def dTup (us : List V) : D := .tup (us.map dV)
/-- what the program reads -/
noncomputable def rdRow0 (t : Str) : Option (List (List V)) := if t = Str.ofString "" then some [] else rdRow t
noncomputable def spReadRE (C : Addr) : Sp := fun vs H Q E => ∃ (t : Str), vs = [.str t] ∧ lowT 10000 t ∧ (∀ rows, rdRow0 t = some rows → ∀ p rs H', Same H H' → H' p = some (.lst rs) → Dts H' (rows.map dTup) rs → Q (.ref p) H') ∧ (rdRow0 t = none → ∀ H', Same H H' → E (.ref C) none H')
/-- texts and whole numbers alone -/
noncomputable def scalS (us : List V) : Prop := ∀ u ∈ us, (∃ x, u = .str x) ∨ ∃ i, u = .int i
theorem dTup_mk {H : Hp} {us : List V} {p : Addr} (h : scalS us) (e : H p = some (.tup us)) : Dt H (dTup us) (.ref p) := by
  refine Dt.tup e ?_
  clear e
  induction us with
  | nil => exact .nil
  | cons u us ih =>
    refine .cons ?_ (ih fun v hv => h v (by simp [hv]))
    rcases h u (by simp) with ⟨x, rfl⟩ | ⟨i, rfl⟩
    · exact isD_str.mpr rfl
    · exact isD_int.mpr rfl
theorem rdPart_scal {k x : Str} {v : V} (h : rdPart k x = some v) : (∃ x, v = .str x) ∨ ∃ i, v = .int i := by
  unfold rdPart at h
  split at h
  · cases h; exact .inl ⟨_, rfl⟩
  · split at h
    · cases h; exact .inr ⟨_, rfl⟩
    · cases h
theorem optL_all {α β : Type} {f : α → Option β} {Pp : β → Prop} : ∀ {l : List α} {ys : List β}, optL f l = some ys → (∀ a b, f a = some b → Pp b) → ∀ y ∈ ys, Pp y
  | [], ys, h, _, y, hy => by cases h; simp at hy
  | a :: l, ys, h, hf, y, hy => by
    simp only [optL] at h
    split at h
    · rename_i b bs e1 e2
      cases h
      rcases List.mem_cons.mp hy with rfl | hy
      · exact hf _ _ e1
      · exact optL_all e2 hf y hy
    · cases h
theorem rdDeed_scal {t : Str} {us : List V} (h : rdDeed t = some us) : scalS us ∧ us.length ≤ 5 := by
  unfold rdDeed at h
  split at h
  · cases h
  · rename_i x ws _
    unfold rdDeedW at h
    split at h
    · cases h
    · rename_i ks hk
      split at h
      · rename_i hl
        obtain ⟨vs, hv, rfl⟩ := Option.map_eq_some_iff.mp h
        have l4 : ks.length ≤ 4 := by
          unfold kindsK at hk
          split at hk
          · cases hk; decide
          · split at hk
            · cases hk; decide
            · split at hk
              · cases hk; decide
              · split at hk
                · cases hk; decide
                · cases hk
        have ll := optL_len hv
        rw [List.length_zip] at ll
        refine ⟨fun u hu => ?_, by rw [List.length_cons]; (first | lia | omega)⟩
        rcases List.mem_cons.mp hu with rfl | hu
        · exact .inl ⟨_, rfl⟩
        · exact optL_all hv (fun a b e => rdPart_scal e) u hu
      · cases h
seal PSs PS PE PT PA PI PIfs in
theorem ok_readrE (T : Txt K mg) (R : Prts P w K mg) : FnOk P w K mg base (CXE P w) 4 T.f_read_row T.d_read_row ["text"] (spReadRE T.C_NoText) := by
  refine T.F_read_row.okE (k := 3) sc_read_row (fun vs H Q E h => ?_) (fun cdv A outer s H vs Q E hr h L => ?_)
  · obtain ⟨t, rfl, _⟩ := h; rfl
  have nd := sc_read_row.nd
  have G_read_deed := ok_readdE (P := P) (w := w) (base := base) T R
  obtain ⟨t, rfl, lt, q, qE⟩ := h
  refine ⟨_, (pss_cons (ps_if (pt_cmpR op_eq (pv 0) pe_str (nomark _)) (pss_one (ps_ret (pe_lst pa_nil))) pss_nil)
    (pss_one (ps_ret (pe_compE L (N := ["deed"]) (caps := []) rfl ⟨rfl, rfl, rfl, rfl, by decide +kernel, rfl, rfl, rfl, rfl⟩ (piL (pe_bm PySem.F.plainAttrs_str PySem.F.slot_str_split PySem.F.type_str_split mt_split (pv 0) (pa_cons pe_str pa_nil))) (fun _ _ _ _ => pif_nil) (fun _ _ _ _ => (pe_call G_read_deed hr rfl T.m_read_deed T.F_read_deed.kp T.b_read_deed .nil passB (pa_cons (pv 0) pa_nil))))))), ?_⟩
  walk_at "rd"
  refine ite2 (fun c => ?_) (fun c => ?_)
  · have c : t = Str.ofString "" := of_decide_eq_true c
    exact ⟨Nat.zero_le _, NewO.mk fun p1 H1 S1 n1 e1 => q [] (by unfold rdRow0; rw [if_pos c]) p1 [] H1 S1 e1 .nil⟩
  · have c : ¬ t = Str.ofString "" := fun z => c (decide_eq_true z)
    have er : rdRow0 t = rdRow t := by unfold rdRow0; rw [if_neg c]
    rw [er] at q
    rw [er] at qE
    have el : (Str.ofString "; ").length ≠ 0 := by decide +kernel
    have few := split_few t (Str.ofString "; ")
    have hx := lt.1
    refine ⟨el, by (first | lia | omega), NewO.mk fun p1 H1 S1 n1 e1 => ?_⟩
    refine WalkL.comp e1 (fun i ys H' => ∃ rows, optL rdDeed ((Txt.split t (Str.ofString "; ")).take i) = some rows ∧ Dts H' (rows.map dTup) ys) ⟨[], rfl, .nil⟩ (by rw [List.length_map]; (first | lia | omega)) (fun i ys H' h => ?_) (fun i y ys H' ex S' h => ?_) (fun p2 ys H2 H3 S2 S3 h n3 e3 => ?_)
    · obtain ⟨rows, h1, h2⟩ := h
      have a1 := optL_len h1
      have a2 := h2.length
      rw [List.length_map] at a2
      rw [List.length_take] at a1
      (first | (clear qE c er el few hx n1 e1 h1; lia) | omega)
    · rw [List.getElem?_map] at ex
      obtain ⟨z, ez, rfl⟩ := Option.map_eq_some_iff.mp ex
      obtain ⟨rows, h1, h2⟩ := h
      walk_at "rd"
      refine ⟨z, rfl, lt.part (y := Str.ofString "; ") (List.mem_of_getElem? ez), fun us hu p H4 S4 e4 => ⟨S'.trans S4, rows ++ [us], optL_take h1 ez hu, ?_⟩, fun hn H4 S4 => qE (optL_none ez hn) H4 ((S1.trans S').trans S4)⟩
      rw [List.map_append]
      exact (h2.same S4).append (.one (dTup_mk (rdDeed_scal hu).1 e4))
    · obtain ⟨rows, h1, h2⟩ := h
      rw [List.length_map, List.take_length] at h1
      exact q rows h1 p2 ys H3 ((S1.trans S2).trans S3) e3 (h2.same S3)
/-! ### the law's own look at a word -/
noncomputable def wordOk (x s : Str) : Bool := if s = Str.ofString "x" then nameOk x else numOk x
noncomputable def spWord : Sp := fun vs H Q _ => ∃ (x s : Str), vs = [.str x, .str s] ∧ x.length ≤ 10000 ∧ (s = Str.ofString "x" ∨ s = Str.ofString "n") ∧ ∀ H', Same H H' → Q (.bl (wordOk x s)) H'
seal PSs PS PE PT PA PI PIfs in
theorem ok_word (T : Txt K mg) : FnOk P w K mg base CX0 1 T.f__law_word T.d__law_word ["word", "sort"] spWord := by
  refine T.F__law_word.ok (k := 0) sc__law_word (fun vs H Q E h => ?_) (fun cdv A outer s H vs Q E hr h => ?_)
  · obtain ⟨x, s, rfl, _⟩ := h
    rfl
  obtain ⟨x, s, rfl, hx, hs, q⟩ := h
  have nd := sc__law_word.nd
  refine ⟨_, (pss_cons (ps_let (i := 2) nd rfl (Or.inr rfl) (pe_dget (hu_of hr) (pe_disp (pps_cons pe_str pe_str (pps_cons pe_str pe_str pps_nil)) rfl rfl (fun h => by cases h) (by decide)) (pv 1) (fun _ _ => rfl)))
    (pss_cons (ps_letC (i := 3) (N := ["sign", "signs"]) (caps := [2]) rfl ⟨rfl, rfl, rfl, rfl, by decide +kernel, rfl, rfl, rfl, rfl⟩ (pi_str (pv 0)) (fun _ _ _ _ => pif_one (pt_cmpR op_in_str (pv 0) (pv 1) (by with_unfolding_all rfl))) (fun _ _ _ _ => (pv 0)) nd rfl rfl rfl)
    (pss_cons (ps_if (PW.pt (pw_or (pt_cmpR op_ne (pe_callB lenG rfl T.z_len bt_len (pa_cons (pv 3) pa_nil)) (pe_callB call_len_str rfl T.z_len bt_len (pa_cons (pv 0) pa_nil)) (nomark _)) (pw_or (pt_cmpR op_eq (pv 0) pe_str (nomark _)) (pw_or1 (pt_cmpR op_gt (pe_callB call_len_str rfl T.z_len bt_len (pa_cons (pv 0) pa_nil)) (pe_dget (hu_of hr) (pe_disp (pps_cons pe_str pe_int (pps_cons pe_str pe_int pps_nil)) rfl rfl (fun h => by cases h) (by decide)) (pv 1) (fun _ _ => rfl)) (nomark _)))))) (pss_one (ps_ret pe_bl)) pss_nil)
    (pss_one (ps_ret (pe_or (pe_cmpR op_eq (pv 1) pe_str (nomark _)) (pe_or (pe_cmpR op_eq (pv 0) pe_str (nomark _)) (pe_one (pe_cmpR op_ne (pe_ix ix_str (pv 0) pe_int (fun _ _ => rfl)) pe_str (nomark _)))))))))), ?_⟩
  refine cutC2 fun C hC => ?_
  walk_at "rd"
  refine fun p1 n1 => ⟨upd_same, [(.inr (Str.ofString "x"), .str (Str.ofString "abcdefghijklmnopqrstuvwxyz")), (.inr (Str.ofString "n"), .str (Str.ofString "0123456789"))], rfl, by decide, ?_⟩
  have S1 : Same H (upd (upd H p1 (HO.dK [])) p1 (HO.dK (mergeK [] [(.inr (Str.ofString "x"), .str (Str.ofString "abcdefghijklmnopqrstuvwxyz")), (.inr (Str.ofString "n"), .str (Str.ofString "0123456789"))]))) := fun b o e => by
    rw [upd_ne (ne_of_none e n1), upd_ne (ne_of_none e n1)]; exact e
  have g1 := @upd_same (upd H p1 (HO.dK [])) p1 (HO.dK (mergeK [] [(.inr (Str.ofString "x"), .str (Str.ofString "abcdefghijklmnopqrstuvwxyz")), (.inr (Str.ofString "n"), .str (Str.ofString "0123456789"))]))
  generalize upd (upd H p1 (HO.dK [])) p1 (HO.dK (mergeK [] [(.inr (Str.ofString "x"), .str (Str.ofString "abcdefghijklmnopqrstuvwxyz")), (.inr (Str.ofString "n"), .str (Str.ofString "0123456789"))])) = H1 at S1 g1
  have main : ∀ (sg : Str) (f : Nat → Bool) (mx : Nat), valV (mergeK [] [((.inr (Str.ofString "x") : Key), V.str (Str.ofString "abcdefghijklmnopqrstuvwxyz")), (.inr (Str.ofString "n"), .str (Str.ofString "0123456789"))]) (.inr s) = some (.str sg) → (∀ c, decide (c ∈ sg.cps.toList) = f c) →
      valV (mergeK [] [((.inr (Str.ofString "x") : Key), V.int 8), (.inr (Str.ofString "n"), .int 4)]) (.inr s) = some (.int mx) → wordOk x s = (x.cps.toList.all f && (!decide (x = Str.ofString "") && (decide (x.length ≤ mx) && (decide (s = Str.ofString "x") || (decide (x = Str.ofString "0") || !decide (x.cps.toList.head? = some 48)))))) →
      ∃ x_1, DGet H1 p1 (V.str s) (some x_1) ∧ wComp (Its x) [2] (tTest (tOp (fun x y H Q => ∃ i, x = V.str i ∧ ∃ x, y = V.str x ∧ Q (V.bl !(Builtin.Str.occurrences x i 0 x.length 1).isEmpty) H) (tVar 0) (tVar 1))) (tVar 0) [some (V.str x), some (V.str s), some x_1, none] H1 fun v H1 => C [some (V.str x), some (V.str s), some x_1, some v] H1 := by
    intro sg f mx hv hf hm hw
    have g2 : DGet H1 p1 (V.str s) (some (.str sg)) := by rw [← hv]; exact DGet.k (k := .inr s) g1
    have hz : x.length ≤ sizeLine := line_le (by (first | lia | omega))
    have el : x.cps.toList.length = x.length := by simp [Str.length]
    refine ⟨_, g2, comp_str (fun i ys H' => H' = H1 ∧ i ≤ x.cps.size ∧ ys = ((x.cps.toList.take i).filter f).map (fun c => V.str ⟨#[c]⟩)) ⟨rfl, Nat.zero_le _, rfl⟩ (Nat.lt_of_le_of_lt hx (by decide)) (fun i ys H' h => ?_) (fun i c ys H' ec h => ?_) (fun ys H' h p hp => ?_)⟩
    · rw [h.2.2, List.length_map]
      have := List.length_filter_le f (x.cps.toList.take i)
      rw [List.length_take] at this
      (first | (clear hx hs hC n1 g1 hv hm hw hz el h; lia) | omega)
    · obtain ⟨rfl, hi, rfl⟩ := h
      walk_at "rd"
      rw [PySem.StrLaws.found_one, hf c]
      have hlt : i < x.cps.size := (Array.getElem?_eq_some_iff.mp ec).1
      have ec' : x.cps.toList[i]? = some c := by simpa using ec
      refine ite2 (fun d => ?_) (fun d => ?_)
      · refine ⟨hlt, ?_⟩
        rw [List.take_add_one, ec']
        simp [List.filter_append, d]
      · refine ⟨hlt, ?_⟩
        rw [List.take_add_one, ec']
        simp [List.filter_append, d]
    · obtain ⟨rfl, _, rfl⟩ := h
      have ew : x.cps.toList.take x.cps.size = x.cps.toList := List.take_of_length_le (by simp)
      rw [ew, hC]
      clear hC C
      have S2 := S1.trans (same_new hp (.lst ((x.cps.toList.filter f).map (fun c => V.str ⟨#[c]⟩))))
      have e2 := @upd_same H' p (.lst ((x.cps.toList.filter f).map (fun c => V.str ⟨#[c]⟩)))
      generalize upd H' p (.lst ((x.cps.toList.filter f).map (fun c => V.str ⟨#[c]⟩))) = H2 at S2 e2
      walk_at "rd"
      have e3 : (((x.cps.toList.filter f).map (fun c => V.str ⟨#[c]⟩)).length : Int) = ((x.cps.toList.filter f).length : Nat) := by rw [List.length_map]
      rw [hw] at q
      refine ⟨_, items_l e2, hz, ite2 (fun c1 => ?_) (fun c1 => ?_)⟩
      · have c1 : ¬ (x.cps.toList.filter f).length = x.length := fun z => by
          rw [e3, z] at c1; simp at c1
        have : x.cps.toList.all f = false := by
          cases hh : x.cps.toList.all f with
          | false => rfl
          | true => exact absurd (by rw [List.filter_eq_self.mpr (List.all_eq_true.mp hh), el]) c1
        rw [this] at q
        exact q H2 S2
      · have c1 : (x.cps.toList.filter f).length = x.length := by
          rw [e3] at c1
          have c1 : ¬ ¬ (((x.cps.toList.filter f).length : Nat) : Int) = x.length := fun z => c1 (by rw [decide_eq_false z]; rfl)
          (first | (clear hx hs n1 hv hm hw hz el hp g1 ew e2 e3; lia) | omega)
        have : x.cps.toList.all f = true := by
          rw [← el] at c1
          exact List.all_eq_true.mpr (List.filter_eq_self.mp ((List.filter_sublist).eq_of_length c1))
        rw [this, Bool.true_and] at q
        refine ite2 (fun c2 => ?_) (fun c2 => ⟨hz, fun p2 n2 => ⟨upd_same, [(.inr (Str.ofString "x"), .int 8), (.inr (Str.ofString "n"), .int 4)], rfl, by decide, ?_⟩⟩)
        · rw [c2] at q
          exact q H2 S2
        have c2 : decide (x = Str.ofString "") = false := by simpa using c2
        rw [c2] at q
        have S3 : Same H2 (upd (upd H2 p2 (HO.dK [])) p2 (HO.dK (mergeK [] [(.inr (Str.ofString "x"), .int 8), (.inr (Str.ofString "n"), .int 4)]))) := fun b o e => by
          rw [upd_ne (ne_of_none e n2), upd_ne (ne_of_none e n2)]; exact e
        have g3 := @upd_same (upd H2 p2 (HO.dK [])) p2 (HO.dK (mergeK [] [(.inr (Str.ofString "x"), .int 8), (.inr (Str.ofString "n"), .int 4)]))
        generalize upd (upd H2 p2 (HO.dK [])) p2 (HO.dK (mergeK [] [(.inr (Str.ofString "x"), .int 8), (.inr (Str.ofString "n"), .int 4)])) = H3 at S3 g3
        have g4 : DGet H3 p2 (V.str s) (some (.int mx)) := by rw [← hm]; exact DGet.k (k := .inr s) g3
        have q := q H3 (S2.trans S3)
        refine ⟨_, g4, _, rfl, ite2 (fun c3 => ?_) (fun c3 => ?_)⟩
        · have c3 : ¬ x.length ≤ mx := by have := of_decide_eq_true c3; (first | (clear hx hs n1 hv hm hw hz el hp g1 ew e2 e3 c1 n2 c2 g3 c3; omega) | omega)
          rw [decide_eq_false c3] at q
          exact q
        have c3 : x.length ≤ mx := by
          have c3 : ¬ ((mx : Int) < x.length) := fun z => c3 (decide_eq_true z)
          (first | (clear hx hs n1 hv hm hw hz el hp g1 ew e2 e3 c1 this n2 c2 g3; omega) | omega)
        rw [decide_eq_true c3] at q
        refine ite2 (fun c4 => ?_) (fun c4 => ?_)
        · rw [c4] at q
          exact q
        have c4 : decide (s = Str.ofString "x") = false := by simpa using c4
        rw [c4] at q
        refine ite2 (fun c5 => ?_) (fun c5 => ?_)
        · rw [c5] at q
          exact q
        have c5 : decide (x = Str.ofString "0") = false := by simpa using c5
        rw [c5] at q
        obtain ⟨c0, rest, e0⟩ : ∃ c0 rest, x.cps.toList = c0 :: rest := by
          cases hh : x.cps.toList with
          | nil =>
            have : x = Str.ofString "" := by rw [str_of_list hh]; decide +kernel
            rw [decide_eq_true this] at c2; cases c2
          | cons a r => exact ⟨a, r, rfl⟩
        rw [e0] at q ⊢
        refine ⟨hz, c0, atI_0, ?_⟩
        have e48 : decide ((Str.mk #[c0]) = Str.ofString "0") = decide (c0 = 48) := by
          have : Str.ofString "0" = ⟨#[48]⟩ := by decide +kernel
          rw [this, Bool.eq_iff_iff]; simp
        rw [e48]
        simpa using q
  have n1 : ¬ Str.ofString "x" = Str.ofString "n" := by decide +kernel
  have emp : decide (x = Str.ofString "") = decide (x.length = 0) := by
    refine decide_eq_decide.mpr ⟨fun h => by rw [h]; decide +kernel, fun h => ?_⟩
    have el : x.cps.toList.length = x.length := by simp [Str.length]
    rw [str_of_list (List.eq_nil_of_length_eq_zero (by (first | lia | omega)) : x.cps.toList = [])]
    decide +kernel
  rcases hs with rfl | rfl
  · refine main (Str.ofString "abcdefghijklmnopqrstuvwxyz") (fun c => decide (97 ≤ c) && decide (c ≤ 122)) 8 (by simp [mergeK, putK, valV, n1]) (fun c => ?_) (by simp [mergeK, putK, valV, n1]) ?_
    · have e : (Str.ofString "abcdefghijklmnopqrstuvwxyz").cps.toList = List.range' 97 26 := by decide +kernel
      rw [e, Bool.eq_iff_iff]
      simp only [decide_eq_true_eq, List.mem_range'_1, Bool.and_eq_true]
      (first | lia | omega)
    · unfold wordOk
      rw [if_pos rfl, emp, Bool.eq_iff_iff]
      have el : x.cps.toList.length = x.length := by simp [Str.length]
      unfold nameOk isName
      rw [el]
      simp only [Bool.and_eq_true, Bool.or_eq_true, decide_eq_true_eq, List.all_eq_true, Bool.not_eq_true', decide_eq_false_iff_not, true_or, and_true]
      constructor
      · exact fun h => ⟨h.2.2, by (first | (clear hx hC g1 n1 emp el; lia) | omega), h.2.1⟩
      · exact fun h => ⟨by (first | (clear hx hC g1 n1 emp el; lia) | omega), h.2.2, h.1⟩
  · refine main (Str.ofString "0123456789") (fun c => decide (48 ≤ c) && decide (c ≤ 57)) 4 (by simp [mergeK, putK, valV, n1]) (fun c => ?_) (by simp [mergeK, putK, valV, n1]) ?_
    · have e : (Str.ofString "0123456789").cps.toList = List.range' 48 10 := by decide +kernel
      rw [e, Bool.eq_iff_iff]
      simp only [decide_eq_true_eq, List.mem_range'_1, Bool.and_eq_true]
      (first | lia | omega)
    · have n2 : ¬ Str.ofString "n" = Str.ofString "x" := fun z => n1 z.symm
      unfold wordOk
      rw [if_neg n2, emp, decide_eq_false n2, Bool.false_or, Bool.eq_iff_iff]
      unfold numOk
      simp only [Bool.and_eq_true, Bool.or_eq_true, decide_eq_true_eq, List.all_eq_true, Bool.not_eq_true', decide_eq_false_iff_not, ne_eq]
      constructor
      · exact fun h => ⟨h.1.2.2, by (first | (clear hx hC g1 n1 emp n2; omega) | omega), h.1.2.1, h.2⟩
      · exact fun h => ⟨⟨by (first | (clear hx hC g1 n1 emp n2; lia) | omega), h.2.2.1, h.1⟩, h.2.2.2⟩
/-! ### the law's own reading -/
theorem cut_lastU (xs : List V) : (cutV xs none (some (-1)) = xs.dropLast) ∧ (HT.sIx xs.length xs.length (some (-1)) = xs.length ↔ xs = []) := by
  have e : HT.sIx xs.length xs.length (some (-1)) = xs.length - 1 := by
    show (if (-1 : Int) < 0 then ((-1 : Int) + (xs.length : Int)).toNat else min (-1 : Int).toNat xs.length) = _
    rw [if_pos (by decide)]; (first | lia | omega)
  refine ⟨?_, ?_⟩
  · unfold cutV
    rw [e]
    show (xs.drop 0).take (xs.length - 1 - 0) = _
    rw [List.drop_zero, List.dropLast_eq_take]; rfl
  · rw [e]
    cases xs with
    | nil => simp
    | cons a l => simp
noncomputable def sgOf (k : Str) : Nat := if k = Str.ofString "name" then 120 else 110
noncomputable def sK (x : Str) : Str := match kindsK x with
  | none => Str.ofString ""
  | some ks => ⟨(ks.map sgOf).toArray⟩
noncomputable def kvS : List (Key × V) := [(.inr (Str.ofString "take"), .str (Str.ofString "xn")), (.inr (Str.ofString "join"), .str (Str.ofString "xnnn")), (.inr (Str.ofString "put"), .str (Str.ofString "nn")), (.inr (Str.ofString "fetch"), .str (Str.ofString "nn"))]
theorem sK_val (x : Str) : (valV (mergeK [] kvS) (.inr x)).getD (.str (Str.ofString "")) = .str (sK x) := by
  have n1 : ¬ Str.ofString "take" = Str.ofString "join" := by decide +kernel
  have n2 : ¬ Str.ofString "take" = Str.ofString "put" := by decide +kernel
  have n3 : ¬ Str.ofString "take" = Str.ofString "fetch" := by decide +kernel
  have n4 : ¬ Str.ofString "join" = Str.ofString "put" := by decide +kernel
  have n5 : ¬ Str.ofString "join" = Str.ofString "fetch" := by decide +kernel
  have n6 : ¬ Str.ofString "put" = Str.ofString "fetch" := by decide +kernel
  have em : mergeK [] kvS = kvS := by simp [mergeK, putK, kvS, n1, n2, n3, n4, n5, n6]
  rw [em]
  have t1 : (⟨([Str.ofString "name", Str.ofString "number"].map sgOf).toArray⟩ : Str) = Str.ofString "xn" := by decide +kernel
  have t2 : (⟨([Str.ofString "name", Str.ofString "number", Str.ofString "number", Str.ofString "number"].map sgOf).toArray⟩ : Str) = Str.ofString "xnnn" := by decide +kernel
  have t3 : (⟨([Str.ofString "number", Str.ofString "number"].map sgOf).toArray⟩ : Str) = Str.ofString "nn" := by decide +kernel
  unfold sK kindsK
  by_cases h1 : x = Str.ofString "take"
  · subst h1
    rw [if_pos rfl]
    simp only [t1]
    simp [kvS, valV]
  rw [if_neg h1]
  by_cases h2 : x = Str.ofString "join"
  · subst h2
    rw [if_pos rfl]
    simp only [t2]
    simp [kvS, valV, n1]
  rw [if_neg h2]
  by_cases h3 : x = Str.ofString "put"
  · subst h3
    rw [if_pos rfl]
    simp only [t3]
    simp [kvS, valV, n2, n4]
  rw [if_neg h3]
  by_cases h4 : x = Str.ofString "fetch"
  · subst h4
    rw [if_pos rfl]
    simp only [t3]
    simp [kvS, valV, n3, n5, n6]
  rw [if_neg h4]
  have m1 : ¬ Str.ofString "take" = x := fun z => h1 z.symm
  have m2 : ¬ Str.ofString "join" = x := fun z => h2 z.symm
  have m3 : ¬ Str.ofString "put" = x := fun z => h3 z.symm
  have m4 : ¬ Str.ofString "fetch" = x := fun z => h4 z.symm
  simp [kvS, valV, m1, m2, m3, m4]
/-- the sorts that a deed can have -/
theorem kinds_of {x : Str} {ks : List Str} (h : kindsK x = some ks) : 2 ≤ ks.length ∧ ks.length ≤ 4 ∧ ∀ k ∈ ks, k = Str.ofString "name" ∨ k = Str.ofString "number" := by
  unfold kindsK at h
  split at h
  · cases h; simp
  · split at h
    · cases h; simp
    · split at h
      · cases h; simp
      · split at h
        · cases h; simp
        · cases h
noncomputable def spLRead : Sp := fun vs H Q _ => ∃ (t : Str), vs = [.str t] ∧ lowT 10000 t ∧ (∀ rows, rdRow t = some rows → ∀ p rs H', Same H H' → H' p = some (.lst rs) → Dts H' (rows.map dTup) rs → Q (.ref p) H') ∧ (rdRow t = none → ∀ H', Same H H' → Q .non H')
theorem dTup_nl (us : List V) : (dTup us).nl = true := by
  unfold dTup
  simp only [D.nl]
  induction us with
  | nil => rfl
  | cons u us ih => simp only [List.map_cons, D.nls, ih, Bool.and_true]; cases u <;> rfl
theorem dTup_nls (l : List (List V)) : D.nls (l.map dTup) = true := by
  induction l with
  | nil => rfl
  | cons d l ih => simp only [List.map_cons, D.nls, dTup_nl, ih, Bool.and_self]
seal PSs PS PE PT PA PI PIfs in
theorem ok_lread (T : Txt K mg) : FnOk P w K mg base CX0 2 T.f__law_read T.d__law_read ["text"] spLRead := by
  refine T.F__law_read.ok (k := 1) sc__law_read (fun vs H Q E h => ?_) (fun cdv A outer s H vs Q E hr h => ?_)
  · obtain ⟨t, rfl, _⟩ := h
    rfl
  obtain ⟨t, rfl, lt, q, qN⟩ := h
  have nd := sc__law_read.nd
  have G__law_word := ok_word (P := P) (w := w) (base := base) T
  refine ⟨_, (pss_cons (ps_let (i := 1) nd rfl (Or.inl rfl) (pe_lst pa_nil))
    (pss_cons (ps_for PassesOwn.never rfl (piL (pe_bm PySem.F.plainAttrs_str PySem.F.slot_str_split PySem.F.type_str_split mt_split (pv 0) (pa_cons pe_str pa_nil))) (pg_name (i := 2) nd rfl (Or.inl rfl)) (pss_cons (ps_let (i := 3) nd rfl (Or.inl rfl) (pe_bm PySem.F.plainAttrs_str PySem.F.slot_str_split PySem.F.type_str_split mt_split (pv 2) (pa_cons pe_str pa_nil)))
      (pss_cons (ps_let (i := 4) nd rfl (Or.inl rfl) (pe_dget2 (hu_of hr) (pe_disp (pps_cons pe_str pe_str (pps_cons pe_str pe_str (pps_cons pe_str pe_str (pps_cons pe_str pe_str pps_nil)))) rfl rfl (fun h => by cases h) (by decide)) (pe_ix ixF (pv 3) pe_int (fun _ _ => rfl)) pe_str ⟨rfl, rfl, rfl, rfl⟩))
      (pss_cons (ps_if (PW.pt (pw_or (pt_cmpR op_eq (pv 4) pe_str (nomark _)) (pw_or1 (pt_cmpR op_ne (pe_callB lenG rfl T.z_len bt_len (pa_cons (pv 3) pa_nil)) (pe_op op_add pe_int (pe_callB call_len_str rfl T.z_len bt_len (pa_cons (pv 4) pa_nil))) (nomark _))))) (pss_one (ps_ret pe_non)) pss_nil)
      (pss_cons (ps_let (i := 5) nd rfl (Or.inl rfl) (pe_tup (pa_cons (pe_ix ixF (pv 3) pe_int (fun _ _ => rfl)) pa_nil)))
      (pss_cons (ps_for PassesOwn.never rfl (pi_zipK (K := K) rfl rfl T.z_zip (pa_cons (pe_slice slLG (pv 3) (po_some pe_int) po_none) (pa_cons (pv 4) pa_nil))) (pg_tup rfl (pgs_cons (pg_name (i := 6) nd rfl (Or.inl rfl)) (pgs_cons (pg_name (i := 7) nd rfl (Or.inl rfl)) pgs_nil))) (pss_cons (ps_if (pt_not (pt_val (pe_call G__law_word hr rfl T.m__law_word T.F__law_word.kp T.b__law_word .nil pass0 (pa_cons (pv 6) (pa_cons (pv 7) pa_nil))))) (pss_one (ps_ret pe_non)) pss_nil)
        (pss_cons (ps_let (i := 5) nd rfl (Or.inl rfl) (pe_op op_catD (pv 5) (pe_tup (pa_cons (pe_ix ixF (pe_lst (pa_cons (pv 6) (pa_cons pe_int pa_nil))) (pe_callTy call_intB rfl T.z_int bt_int (pa_cons (pe_cmpR op_eq (pv 7) pe_str (nomark _)) pa_nil)) (fun _ _ => rfl)) pa_nil))))
        (pss_one (ps_if (pt_cmpR op_eq (pv 7) pe_str (nomark _)) (pss_one (ps_let (i := 5) nd rfl (Or.inl rfl) (pe_op op_catD (pe_slice sl_tupU (pv 5) po_none (po_some (pe_un un_neg pe_int))) (pe_tup (pa_cons (pe_callTy call_intT rfl T.z_int bt_int (pa_cons (pv 6) pa_nil)) pa_nil))))) pss_nil)))))
      (pss_one (ps_expr (pe_bm PySem.F.plainAttrs_list PySem.F.slot_list_append PySem.F.type_list_append mt_append (pv 1) (pa_cons (pv 5) pa_nil))))))))))
    (pss_one (ps_ret (pv 1))))), ?_⟩
  refine cutC2 fun C hC => ?_
  walk_at "rd"
  have el : (Str.ofString "; ").length ≠ 0 := by decide +kernel
  have el1 : (Str.ofString " ").length ≠ 0 := by decide +kernel
  have few := split_few t (Str.ofString "; ")
  have hx := lt.1
  refine ⟨Nat.zero_le _, NewO.mk fun pr H1 S1 n1 e1 => ⟨el, by (first | lia | omega), NewO.mk fun p2 H2 S2 n2 e2 => ?_⟩⟩
  have hne : p2 ≠ pr := fun z => by rw [z, e1] at n2; cases n2
  obtain ⟨Pv, hPv⟩ : ∃ Pv : Nat → St → Hp → Prop, ∀ i σ H', Pv i σ H' ↔ Same H H' ∧ H' p2 = some (.lst ((Txt.split t (Str.ofString "; ")).map V.str)) ∧ (∃ rows rs, H' pr = some (.lst rs) ∧ Dts H' (rows.map dTup) rs ∧ optL rdDeed ((Txt.split t (Str.ofString "; ")).take i) = some rows) ∧ ∃ o2 o3 o4 o5 o6 o7 : Option V, σ = [some (V.str t), some (V.ref pr), o2, o3, o4, o5, o6, o7] := ⟨_, fun _ _ _ => Iff.rfl⟩
  refine WalkL.for e2 Pv ((hPv _ _ _).mpr ⟨S1.trans S2, e2, ⟨[], [], S2 _ _ e1, .nil, rfl⟩, none, none, none, none, none, none, rfl⟩) (fun j σ H'' _ h => ((hPv _ _ _).mp h).2.1) ?_ ?_
  · intro i y σ H' ey h
    obtain ⟨S', e2', ⟨rows, rs, er, dr, ho⟩, o2, o3, o4, o5, o6, o7, rfl⟩ := (hPv _ _ _).mp h
    rw [List.getElem?_map] at ey
    obtain ⟨z, ez, rfl⟩ := Option.map_eq_some_iff.mp ey
    have lz : lowT 10000 z := lt.part (y := Str.ofString "; ") (List.mem_of_getElem? ez)
    have lr : rows.length ≤ 10002 := by have := optL_len ho; rw [List.length_take] at this; (first | lia | omega)
    refine cutC2 fun C2 hC2 => ?_
    walk_at "rd"
    obtain ⟨x, ws, es⟩ : ∃ x ws, Txt.split z (Str.ofString " ") = x :: ws := by
      cases e : Txt.split z (Str.ofString " ") with
      | nil => exact absurd e (split_ne _ _)
      | cons x ws => exact ⟨x, ws, rfl⟩
    have erz : rdDeed z = rdDeedW x ws := by unfold rdDeed; rw [es]
    have lw : ∀ z ∈ ws, lowT 10000 z := fun u hu => lz.part (y := Str.ofString " ") (by rw [es]; exact List.mem_cons_of_mem _ hu)
    have few2 := split_few z (Str.ofString " ")
    rw [es, List.length_cons] at few2
    rw [es]
    have hz := lz.1
    refine ⟨el1, by (first | (clear qN hC el el1 few hx n1 e1 n2 e2 hne e2' er ho ez ey lr hC2 es erz few2; lia) | omega), NewO.mk fun p3 H3 S3 n3 e3 => ?_⟩
    refine fun p4 n4 => ⟨upd_same, kvS, rfl, by decide, ?_⟩
    have S4 : Same H3 (upd (upd H3 p4 (HO.dK [])) p4 (HO.dK (mergeK [] kvS))) := fun b o e => by
      rw [upd_ne (ne_of_none e n4), upd_ne (ne_of_none e n4)]; exact e
    have g4 := @upd_same (upd H3 p4 (HO.dK [])) p4 (HO.dK (mergeK [] kvS))
    generalize upd (upd H3 p4 (HO.dK [])) p4 (HO.dK (mergeK [] kvS)) = H4 at S4 g4
    have S04 := (S'.trans S3).trans S4
    have S14 := S3.trans S4
    rw [List.map_cons] at e3
    have e34 := S4 _ _ e3
    refine ⟨.inl ⟨_, .inl g4⟩, p3, rfl, _, items_l e34, _, atI_0, _, DGet.k (k := .inr x) g4, ?_⟩
    rw [sK_val, hC2]
    clear hC2 C2
    refine cutC1 fun C2 hC2 => ?_
    rw [a_tSeq]
    simp only [a_tDisp, a_pNil, a_pCons, a_iZipK, a_tComp2, a_rIntT, a_rStr, a_rSplit, a_tKGet, a_tKNotIn, a_tFor, a_tSet, a_tSetC, a_tVar, a_tC, a_tIsN, a_tB, a_tAnd, a_tOr, a_tNot, a_tAndV, a_tOrV, a_tNext, a_tDrop, a_tRet, a_tIfS, a_gName, a_gNil, a_gCons, a_gTup, a_gSub, a_tAsg, a_iRng1, a_tOp, a_tUn, a_rI, a_rI0, a_rU, a_rEq, a_rNe, a_tTest, a_tChain, a_tNil, a_tCons, b_tTup, b_tLst, a_tCall, a_tCB, a_tNoPart, a_tPart, a_tSl, b_rSlT, a_rIxL, a_rIxS, b_rSetL, a_tBM, b_rAppend, b_rRep, a_tDGet, a_tDGet2, a_tYes, a_tComp, a_iStr, a_rSlS, a_rJoin, a_rEqD, a_rIsi, a_rCatD, a_rIxF, a_rSlLF, a_rLenF, a_rIntB, ty_str, tJs, a_tFmtR, a_tRaise, a_tTry, a_tCallJ, a_rIsE, a_rTupF, a_rSlU, a_tFmtS, a_iL, a_iT, L2.start, blkSt, cxOf_K, blk_K, List.getElem?_cons_zero, List.getElem?_cons_succ, Option.some.injEq, Option.join_some, exists_eq_left', exists_eq_left, exists_eq_right, V.int.injEq, V.ref.injEq, V.str.injEq, V.bl.injEq, V.ty.injEq, and_true, true_and, List.set_cons_zero, List.set_cons_succ, List.cons.injEq, List.cons_append, List.nil_append, List.append_nil, List.map_cons, List.map_nil, List.length_cons, List.length_nil, List.replicate, exists_and_left, exists_and_right, Nat.reduceAdd, Nat.reduceSub, atI_0, atI_1, atI_2, atI_3, atI_4, if_true, if_false, Bool.false_eq_true, scal_ii, scal_ss, scal_bb]
    have gone : rdDeed z = none → Q V.non H4 := fun e => qN (optL_none ez e) H4 S04
    cases hk : kindsK x with
    | none =>
      have e : sK x = Str.ofString "" := by unfold sK; rw [hk]
      rw [decide_eq_true e]
      exact iteT (gone (by rw [erz]; unfold rdDeedW; rw [hk]))
    | some ks =>
    obtain ⟨k2, k4, kk⟩ := kinds_of hk
    have eK : sK x = ⟨(ks.map sgOf).toArray⟩ := by unfold sK; rw [hk]
    have lK : (sK x).length = ks.length := by rw [eK]; simp [Str.length]
    have nK : ¬ sK x = Str.ofString "" := fun e => by
      rw [e] at lK
      have : (Str.ofString "").length = 0 := by decide +kernel
      (first | (clear qN hC el el1 few hx n1 e1 n2 e2 hne e2' er ho ez ey lr es erz few2 hz n3 e3 n4 g4 e34 hC2 hk k4 eK; lia) | omega)
    rw [decide_eq_false nK]
    refine iteF ⟨_, items_l e34, line_le (by (first | (clear qN hC el el1 few hx n1 e1 n2 e2 hne e2' er ho ez ey lr es erz few2 hz n3 e3 n4 g4 e34 hC2 gone hk nK k2 eK; lia) | omega)), ?_⟩
    by_cases hl : ws.length = ks.length
    rotate_left
    · have : ¬ (((V.str x :: List.map V.str ws).length : Nat) : Int) = 1 + (((sK x).length : Nat) : Int) := by rw [List.length_cons, List.length_map, lK]; (first | (clear qN hC el el1 few hx n1 e1 n2 e2 hne e2' er ho ez ey lr es erz few2 hz n3 e3 n4 g4 e34 hC2 gone hk k2 k4 eK lK nK; lia) | omega)
      rw [decide_eq_false this]
      exact iteT (gone (by rw [erz]; unfold rdDeedW; rw [hk]; simp only; rw [if_neg hl]))
    have : (((V.str x :: List.map V.str ws).length : Nat) : Int) = 1 + (((sK x).length : Nat) : Int) := by rw [List.length_cons, List.length_map, lK]; (first | (clear qN hC el el1 few hx n1 e1 n2 e2 hne e2' er ho ez ey lr es erz few2 hz n3 e3 n4 g4 e34 hC2 gone hk k2 k4 eK lK nK; lia) | omega)
    rw [decide_eq_true this]
    refine iteF ?_
    have erd : rdDeedW x ws = (optL (fun p : Str × Str => rdPart p.1 p.2) (ks.zip ws)).map (V.str x :: ·) := by unfold rdDeedW; rw [hk]; simp only; rw [if_pos hl]
    rw [erd] at erz
    rw [hC2]
    clear hC2 C2 gone
    refine cutC2 fun C2 hC2 => ?_
    walk_at "rd"
    refine ⟨_, items_l e34, _, atI_0, by decide, NewO.mk fun p5 H5 S5 n5 e5 => ⟨_, S5 _ _ e34, NewO.mk fun p6 H6 S6 n6 e6 => ⟨_, _, ⟨rfl, rfl⟩, ?_⟩⟩⟩
    have ecut : cutV (V.str x :: List.map V.str ws) (some 1) none = List.map V.str ws := cutV_from (xs := V.str x :: List.map V.str ws) (p := 1) (by simp)
    rw [ecut] at e6
    have S06 := (S04.trans S5).trans S6
    have S16 := (S14.trans S5).trans S6
    have lz : (ks.zip ws).length = ks.length := by rw [List.length_zip]; (first | (clear qN hC el el1 few hx n1 e1 n2 e2 hne e2' er ho ez ey lr es few2 hz n3 e3 n4 g4 e34 erz hk k2 k4 eK lK nK n6 e6 ecut hC2 n5 e5 erd this; lia) | omega)
    have esg : signsV (sK x) = ks.map fun k => V.str ⟨#[sgOf k]⟩ := by rw [eK]; simp [signsV, List.map_map]
    obtain ⟨Pw, hPw⟩ : ∃ Pw : Nat → St → Hp → Prop, ∀ j σ H'', Pw j σ H'' ↔ Same H6 H'' ∧ ∃ (ys : List V) (b : Addr), optL (fun p : Str × Str => rdPart p.1 p.2) ((ks.zip ws).take j) = some ys ∧ H'' b = some (.tup (V.str x :: ys)) ∧ ∃ o6 o7 : Option V, σ = [some (V.str t), some (V.ref pr), some (V.str z), some (V.ref p3), some (V.str (sK x)), some (V.ref b), o6, o7] := ⟨_, fun _ _ _ => Iff.rfl⟩
    refine WalkK.for (p := .l p6) (q := .s (sK x)) (xs := ws.map V.str) (ys := ks.map fun k => V.str ⟨#[sgOf k]⟩) (SqL.of e6) esg.symm (by simp [hl]) Pw ((hPw _ _ _).mpr ⟨Same.refl _, [], p5, rfl, S6 _ _ e5, _, _, rfl⟩) (fun j σ H'' _ h => ⟨SqL.of (((hPw _ _ _).mp h).1 _ _ e6), esg.symm⟩) ?_ ?_
    · intro j v1 v2 σ A1 pT A2 ev1 ev2 h SA nT eT
      obtain ⟨V1, ys, b, hys, eb, o6', o7', rfl⟩ := (hPw _ _ _).mp h
      rw [List.getElem?_map] at ev1 ev2
      obtain ⟨y, ey1, rfl⟩ := Option.map_eq_some_iff.mp ev1
      obtain ⟨k, ek1, rfl⟩ := Option.map_eq_some_iff.mp ev2
      have ei : (ks.zip ws)[j]? = some (k, y) := List.getElem?_zip_eq_some.mpr ⟨ek1, ey1⟩
      have ly := lw y (List.mem_of_getElem? ey1)
      have lys : ys.length ≤ 4 := by have := optL_len hys; rw [List.length_take] at this; (first | (clear qN hC el el1 few hx n1 e1 n2 e2 hne e2' er ho ez ey lr es few2 hz n3 e3 n4 g4 e34 erz erd hC2 n5 e5 n6 e6 ecut esg nT hys eb ey1 ev1 ek1 ev2 hk k2 lK nK eT ei eK hl; lia) | omega)
      have SA6 := V1.trans SA
      have gone : rdPart k y = none → ∀ H', Same A2 H' → Q V.non H' := fun e H' S => qN (optL_none ez (by rw [erz, optL_none ei e]; rfl)) H' ((S06.trans SA6).trans S)
      have eb' := SA _ _ eb
      walk_at "rd"
      have nn : ¬ Str.ofString "number" = Str.ofString "name" := by decide +kernel
      have nx : ¬ Str.ofString "n" = Str.ofString "x" := by decide +kernel
      have nx' : ¬ Str.ofString "x" = Str.ofString "n" := by decide +kernel
      rcases kk k (List.mem_of_getElem? ek1) with rfl | rfl
      · have es1 : (⟨#[sgOf (Str.ofString "name")]⟩ : Str) = Str.ofString "x" := by decide +kernel
        rw [es1] at eT
        have ew : wordOk y (Str.ofString "x") = nameOk y := by unfold wordOk; rw [if_pos rfl]
        refine ⟨_, SqT.of eT, rfl, _, _, rfl, _, _, rfl, rfl, y, _, rfl, ly.1, .inl rfl, fun A3 S3' => ⟨_, rfl, ?_⟩⟩
        rw [ew]
        cases hn : nameOk y with
        | false => exact iteT (gone (by unfold rdPart; rw [if_neg (fun z => by rw [hn] at z; cases z.2), if_neg (fun z => nn z.1.symm)]) A3 S3')
        | true =>
          have erp : rdPart (Str.ofString "name") y = some (.str y) := by unfold rdPart; rw [if_pos ⟨rfl, hn⟩]
          rw [decide_eq_false (fun z : V.str (Str.ofString "x") = V.str (Str.ofString "n") => nx' (V.str.inj z))]
          refine iteF ⟨by decide, NewO.mk fun q1 B1 W1 m1 f1 => ⟨by decide +kernel, q1, rfl, _, items_l f1, _, atI_0, by decide, NewO.mk fun q2 B2 W2 m2 f2 => ⟨_, rfl, _, W2 _ _ (W1 _ _ (S3' _ _ eb')), _, f2, small_le (by simp; (first | (clear qN hC el el1 few hx n1 e1 n2 e2 hne e2' er ho ez ey lr es few2 hz n3 e3 n4 g4 e34 erz hk k2 k4 eK lK nK hl nn nx nx' ek1 ev2 eT ei gone es1 ew hn erp m1 f1 m2 f2 this erd hC2 n5 e5 n6 e6 ecut lz esg nT hys eb ey1 eb' ev1; lia) | omega)), fun q3 B3 W3 f3 => ?_⟩⟩⟩
          refine ⟨by decide +kernel, iteF ((hPw _ _ _).mpr ⟨(((SA6.trans S3').trans W1).trans W2).trans W3, ys ++ [.str y], q3, optL_take hys ei erp, by rw [← List.cons_append]; exact f3, _, _, rfl⟩)⟩
      · have es1 : (⟨#[sgOf (Str.ofString "number")]⟩ : Str) = Str.ofString "n" := by decide +kernel
        rw [es1] at eT
        have ew : wordOk y (Str.ofString "n") = numOk y := by unfold wordOk; rw [if_neg nx]
        refine ⟨_, SqT.of eT, rfl, _, _, rfl, _, _, rfl, rfl, y, _, rfl, ly.1, .inr rfl, fun A3 S3' => ⟨_, rfl, ?_⟩⟩
        rw [ew]
        cases hn : numOk y with
        | false => exact iteT (gone (by unfold rdPart; rw [if_neg (fun z => nn z.1), if_neg (fun z => by rw [hn] at z; cases z.2)]) A3 S3')
        | true =>
          have erp : rdPart (Str.ofString "number") y = some (.int (numN y)) := by unfold rdPart; rw [if_neg (fun z => nn z.1), if_pos ⟨rfl, hn⟩]
          obtain ⟨hn1, hn2⟩ := numN_is hn
          rw [decide_eq_true (rfl : V.str (Str.ofString "n") = V.str (Str.ofString "n"))]
          refine iteF ⟨by decide, NewO.mk fun q1 B1 W1 m1 f1 => ⟨by decide +kernel, q1, rfl, _, items_l f1, _, rfl, by decide, NewO.mk fun q2 B2 W2 m2 f2 => ⟨_, rfl, _, W2 _ _ (W1 _ _ (S3' _ _ eb')), _, f2, small_le (by simp; (first | (clear qN hC el el1 few hx n1 e1 n2 e2 hne e2' er ho ez ey lr es few2 hz n3 e3 n4 g4 e34 erz hk k2 k4 eK lK nK hl this nx nx' ek1 ev2 eT ei gone es1 ew hn erp hn1 hn2 m1 f1 m2 f2 erd hC2 n5 e5 n6 e6 ecut lz esg nT hys eb ey1 ev1 nn eb'; lia) | omega)), fun q3 B3 W3 f3 => ⟨by decide +kernel, iteT ⟨_, f3, fun h => ?_, fun _ => ?_⟩⟩⟩⟩⟩
          · have := ((cut_lastU _).2).mp h.2
            simp at this
          · rw [(cut_lastU _).1]
            refine NewO.mk fun q4 B4 W4 m4 f4 => ⟨numN y, by rw [← hn2], hn1, by decide, NewO.mk fun q5 B5 W5 m5 f5 => ⟨_, rfl, _, rfl, _, W5 _ _ f4, _, f5, small_le (by simp; (first | (clear qN hC el el1 few hx n1 e1 n2 e2 hne e2' er ho ez ey lr es few2 hz n3 e3 n4 g4 e34 erz hk k2 k4 eK lK nK hl this erd hC2 n5 ei gone es1 ew hn erp hn1 hn2 m1 f1 m2 f2 f3 m4 f4 m5 f5 e5 n6 e6 ecut lz esg nT hys eb ey1 nx' ek1 ev2 eT nn nx eb' ev1; lia) | omega)), fun q6 B6 W6 f6 => ?_⟩⟩
            rw [List.dropLast_concat] at f6
            exact (hPw _ _ _).mpr ⟨((((((SA6.trans S3').trans W1).trans W2).trans W3).trans W4).trans W5).trans W6, ys ++ [.int (numN y)], q6, optL_take hys ei erp, by rw [← List.cons_append]; exact f6, _, _, rfl⟩
    · intro σ A1 h
      obtain ⟨V1, ys, b, hys, eb, o6', o7', rfl⟩ := (hPw _ _ _).mp h
      rw [List.length_map, hl, ← lz, List.take_length] at hys
      have erd2 : rdDeed z = some (V.str x :: ys) := by rw [erz, hys]; rfl
      dsimp only
      rw [hC2]
      clear hC2 C2
      walk_at "rd"
      have SS := S06.trans V1
      have S1V := S16.trans V1
      have er' := S1V _ _ er
      have ll := dr.length
      rw [List.length_map] at ll
      refine ⟨ty_lst er', _, er', small_size (by (first | (clear qN hC el el1 few hx n1 e1 n2 e2 hne e2' e34 erz hk k2 k4 eK lK nK hl this erd n5 few2 hz n3 e3 n4 g4 e5 n6 e6 ecut lz esg er ho ez hys eb erd2 es er' ey; lia) | omega)), PutO.mk fun B1 k1 g1 => (hPv _ _ _).mpr ⟨Same.put_new SS n1 k1, ?_, ⟨rows ++ [V.str x :: ys], _, g1, ?_, optL_take ho ez erd2⟩, _, _, _, _, _, _, rfl⟩⟩
      · rw [k1 _ hne]; exact S1V _ _ e2'
      · rw [List.map_append]
        exact ((dr.same S1V).of_put er' k1 (dTup_nls _)).append (.one ((dTup_mk (rdDeed_scal erd2).1 eb).of_put er' k1 (dTup_nl _)))
  · intro σ H' h
    obtain ⟨S', e2', ⟨rows, rs, er, dr, ho⟩, o2, o3, o4, o5, o6, o7, rfl⟩ := (hPv _ _ _).mp h
    rw [List.length_map, List.take_length] at ho
    dsimp only
    rw [hC]
    walk_at "rd"
    exact q rows ho pr rs H' S' er dr
/-! ### the law -/
theorem jn_mem {s : List Nat} {c : Nat} : ∀ {l : List (List Nat)}, c ∈ jn s l → c ∈ s ∨ ∃ z ∈ l, c ∈ z
  | [], h => by simp [jn] at h
  | [a], h => .inr ⟨a, by simp, h⟩
  | a :: b :: l, h => by
    simp only [jn, List.mem_append] at h
    rcases h with (h | h) | h
    · exact .inr ⟨a, by simp, h⟩
    · exact .inl h
    · rcases jn_mem h with h | ⟨z, hz, h⟩
      · exact .inl h
      · exact .inr ⟨z, by simp [List.mem_cons.mp hz], h⟩
theorem join_mem {s : Str} {c : Nat} {l : List Str} (h : c ∈ (Txt.join s l).cps.toList) : c ∈ s.cps.toList ∨ ∃ z ∈ l, c ∈ z.cps.toList := by
  unfold Txt.join at h
  rw [StrLaws.glued_eq_join, jn_cps] at h
  rcases jn_mem h with h | ⟨z, hz, h⟩
  · exact .inl h
  · obtain ⟨y, hy, rfl⟩ := List.mem_map.mp hz
    exact .inr ⟨y, hy, h⟩
theorem rowT_low {r : List L2.Deed} (h : ∀ d ∈ r, okT d) : lowT (60 * r.length) (rowT r) := by
  refine ⟨rowT_len h, fun c hc => ?_⟩
  have s1 : ∀ c ∈ (Str.ofString " ").cps.toList, c < 16 ^ 8 := by decide +kernel
  have s2 : ∀ c ∈ (Str.ofString "; ").cps.toList, c < 16 ^ 8 := by decide +kernel
  rcases join_mem hc with hc | ⟨z, hz, hc⟩
  · exact s2 c hc
  obtain ⟨d, hd, rfl⟩ := List.mem_map.mp hz
  rcases join_mem hc with hc | ⟨z, hz, hc⟩
  · exact s1 c hc
  have := ((word_ok (h d hd) z hz).2 c hc).2.1
  exact Nat.lt_of_le_of_lt this (by decide)
theorem slice_low {n : Nat} {x : Str} (h : lowT n x) (l u : Option Int) : lowT n (Txt.slice x l u) := by
  refine ⟨Nat.le_trans (Txt.slice_le x l u) h.1, fun c hc => ?_⟩
  unfold Txt.slice at hc
  split at hc
  · exact h.2 c hc
  · simp only [List.mem_filterMap] at hc
    obtain ⟨i, _, hi⟩ := hc
    refine h.2 c ?_
    rw [← Array.mem_def]
    exact Array.mem_of_getElem? hi
theorem app_low {m n : Nat} {x y : Str} (h : lowT m x) (k : lowT n y) : lowT (m + n) (x ++ y) := by
  refine ⟨by rw [len_app]; have := h.1; have := k.1; (first | lia | omega), fun c hc => ?_⟩
  simp only [Str.cps_append, Array.toList_append, List.mem_append] at hc
  rcases hc with hc | hc
  · exact h.2 c hc
  · exact k.2 c hc
theorem more_low : ∀ x ∈ [Str.ofString " ", Str.ofString ";", Str.ofString "0", Str.ofString "7", Str.ofString "a", Str.ofString "A", Str.ofString "-", Str.ofString "+", Str.ofString "; ", Str.ofString "_"], x.length ≤ 2 ∧ ∀ c ∈ x.cps.toList, c < 16 ^ 8 := by decide +kernel
theorem dTup_dp (us : List V) : (dTup us).dp ≤ 1 := by
  have : D.dps (us.map dV) = 0 := by
    induction us with
    | nil => rfl
    | cons u us ih => simp only [List.map_cons, D.dps, ih]; cases u <;> rfl
  simp only [dTup, D.dp, this]; omega
theorem rows_dp (l : List (List V)) : (D.lst (l.map dTup)).dp ≤ 150 := by
  have : D.dps (l.map dTup) ≤ 1 := dps_le fun d hd => by
    obtain ⟨d0, _, rfl⟩ := List.mem_map.mp hd
    exact dTup_dp d0
  simp only [D.dp]; (first | lia | omega)
noncomputable def spLaw (K : PySem.W.Frag) : Sp := fun vs H Q _ => ∃ (a : Addr) (ns : List Int), vs = [.ref a] ∧ SqL K H a (ns.map V.int) ∧ ns.length ≤ 63 ∧ ∀ H', Q (.bl true) H'
seal PSs PS PE PT PA PI PIfs in
theorem ok_law (T : Txt K mg) (R : Prts P w K mg) : FnOk P w K mg base CX0 60 T.f_law T.d_law ["script"] (spLaw K) := by
  refine T.F_law.ok (k := 59) sc_law (fun vs H Q E h => ?_) (fun cdv A outer s H vs Q E hr h => ?_)
  · obtain ⟨a, ns, rfl, _⟩ := h
    rfl
  obtain ⟨a, ns, rfl, hS, h63, q⟩ := h
  have nd := sc_law.nd
  have G__law_at := (ok_at (P := P) (w := w) (base := base) T).mono (k := 59) (by omega)
  have G__law_names := (ok_names (P := P) (w := w) (base := base) T).mono (k := 59) (by omega)
  have G__law_deed := (ok_deed (P := P) (w := w) (base := base) T).mono (k := 59) (by omega)
  have G__law_read := (ok_lread (P := P) (w := w) (base := base) T).mono (k := 59) (by omega)
  have G_read_row := (ok_readrE (P := P) (w := w) (base := base) T R).mono (k := 59) (by omega)
  refine ⟨_, (pss_cons (ps_let (i := 1) nd rfl (Or.inr rfl) (pe_ix ixF (pe_lst (pa_cons pe_int (pa_cons pe_int pa_nil))) (pe_op op_mod (pe_call G__law_at hr rfl T.m__law_at T.F__law_at.kp T.b__law_at .nil pass0 (pa_cons (pv 0) (pa_cons pe_int pa_nil))) pe_int) (fun _ _ => rfl)))
    (pss_cons (ps_let (i := 2) nd rfl (Or.inr rfl) (pe_call G__law_names hr rfl T.m__law_names T.F__law_names.kp T.b__law_names .nil pass0 (pa_cons (pe_call G__law_at hr rfl T.m__law_at T.F__law_at.kp T.b__law_at .nil pass0 (pa_cons (pv 0) (pa_cons pe_int pa_nil))) (pa_cons pe_int pa_nil))))
    (pss_cons (ps_let (i := 3) nd rfl (Or.inl rfl) (pe_op op_mod (pe_call G__law_at hr rfl T.m__law_at T.F__law_at.kp T.b__law_at .nil pass0 (pa_cons (pv 0) (pa_cons pe_int pa_nil))) pe_int))
    (pss_cons (ps_letC (i := 4) (N := ["n", "script", "size", "names"]) (caps := [0, 1, 2]) rfl ⟨rfl, rfl, rfl, rfl, by decide +kernel, rfl, rfl, rfl, rfl⟩ (pi_range1 rfl T.z_range (pa_cons (pv 3) pa_nil)) (fun _ _ _ _ => pif_nil) (fun _ _ _ _ => (pe_call G__law_deed hr rfl T.m__law_deed T.F__law_deed.kp T.b__law_deed .nil pass0 (pa_cons (pv 1) (pa_cons (pe_op op_add pe_int (pv 0)) (pa_cons (pe_slice slLG (pv 3) po_none (po_some pe_int)) (pa_cons (pe_slice slLG (pv 3) (po_some pe_int) po_none) (pa_cons (pv 2) (pa_cons (pv 2) pa_nil)))))))) nd rfl rfl rfl)
    (pss_cons (ps_let (i := 5) nd rfl (Or.inl rfl) (pe_bm PySem.F.plainAttrs_str PySem.F.slot_str_join PySem.F.type_str_join mt_join pe_str (pa_cons (pe_comp (N := ["deed"]) (caps := []) rfl ⟨rfl, rfl, rfl, rfl, by decide +kernel, rfl, rfl, rfl, rfl⟩ (piL (pv 4)) (fun _ _ _ _ => pif_nil) (fun _ _ _ _ => by exact (pe_bmK (K := K) rfl PySem.F.plainAttrs_str PySem.F.slot_str_join PySem.F.type_str_join (mt_joinK rfl) pe_str (pa_cons (pe_comp (N := ["one"]) (caps := []) rfl ⟨rfl, rfl, rfl, rfl, by decide +kernel, rfl, rfl, rfl, rfl⟩ (piTK (K := K) rfl (pv 0)) (fun _ _ _ _ => pif_nil) (fun _ _ _ _ => (pe_callTy call_strV rfl T.z_str bt_str (pa_cons (pv 0) pa_nil)))) pa_nil)))) pa_nil)))
    (pss_cons (ps_for PassesOwn.never rfl (pi_range1 rfl T.z_range (pa_cons (pe_op op_mod (pe_op op_fdiv (pe_call G__law_at hr rfl T.m__law_at T.F__law_at.kp T.b__law_at .nil pass0 (pa_cons (pv 0) (pa_cons pe_int pa_nil))) pe_int) pe_int) pa_nil)) (pg_name (i := 6) nd rfl (Or.inl rfl)) (pss_cons (ps_let (i := 7) nd rfl (Or.inl rfl) (pe_call G__law_at hr rfl T.m__law_at T.F__law_at.kp T.b__law_at .nil pass0 (pa_cons (pv 0) (pa_cons (pe_op op_add pe_int (pv 6)) pa_nil))))
      (pss_cons (ps_let (i := 8) nd rfl (Or.inl rfl) (pe_op op_mod (pe_op op_fdiv (pv 7) pe_int) (pe_op op_add (pe_callB call_len_str rfl T.z_len bt_len (pa_cons (pv 5) pa_nil)) pe_int)))
      (pss_one (ps_if (pt_cmpR op_eq (pe_op op_mod (pv 7) pe_int) pe_int (nomark _)) (pss_cons (ps_let (i := 9) nd rfl (Or.inl rfl) (pe_ix ixF (pe_lst (pa_cons pe_str (pa_cons pe_str (pa_cons pe_str (pa_cons pe_str (pa_cons pe_str (pa_cons pe_str (pa_cons pe_str (pa_cons pe_str (pa_cons pe_str (pa_cons pe_str pa_nil))))))))))) (pe_op op_mod (pe_call G__law_at hr rfl T.m__law_at T.F__law_at.kp T.b__law_at .nil pass0 (pa_cons (pv 0) (pa_cons (pe_op op_add pe_int (pv 6)) pa_nil))) pe_int) (fun _ _ => rfl)))
        (pss_one (ps_let (i := 5) nd rfl (Or.inl rfl) (pe_op op_add_str (pe_op op_add_str (pe_slice sl_str (pv 5) po_none (po_some (pv 8))) (pv 9)) (pe_slice sl_str (pv 5) (po_some (pv 8)) po_none))))) (pss_one (ps_let (i := 5) nd rfl (Or.inl rfl) (pe_op op_add_str (pe_slice sl_str (pv 5) po_none (po_some (pv 8))) (pe_slice sl_str (pv 5) (po_some (pe_op op_add (pv 8) pe_int)) po_none)))))))))
    (pss_cons (ps_let (i := 10) nd rfl (Or.inl rfl) (pe_lst pa_nil))
    (pss_cons (ps_let (i := 11) nd rfl (Or.inl rfl) (pe_lst pa_nil))
    (pss_cons (ps_tryA (i := 12) (J := fun σ0 σ1 => σ1 = σ0) rfl rfl rfl T.m_FewError T.x_FewError nd rfl rfl (fun _ _ _ => (pss_one (ps_let (i := 11) nd rfl (Or.inl rfl) (pe_callJ G_read_row hr rfl T.m_read_row T.F_read_row.kp T.b_read_row .nil passJ (pa_cons (pv 5) pa_nil))))) (fun _ => (pss_one (ps_let (i := 10) nd rfl (Or.inl rfl) (pe_lst (pa_cons (pe_callB (show CallR _ (.builtin "isinstance") (rIsE K) from call_isE) rfl T.z_isinstance bt_isinstance (pa_cons (pv 12) (pa_cons (pe_glob (v := .ref T.C_NoText) rfl T.m_NoText rfl) pa_nil))) (pa_cons (pe_callB (show CallR _ (.builtin "isinstance") (rIsE K) from call_isE) rfl T.z_isinstance bt_isinstance (pa_cons (pv 12) (pa_cons (pe_bltn (v := .ty "ValueError") rfl T.z_ValueError bt_ValueError rfl) pa_nil))) pa_nil)))))))
    (pss_cons (ps_let (i := 13) nd rfl (Or.inl rfl) (pe_lst pa_nil))
    (pss_cons (ps_if (pt_cmpR op_ne (pv 5) pe_str (nomark _)) (pss_one (ps_let (i := 13) nd rfl (Or.inl rfl) (pe_call G__law_read hr rfl T.m__law_read T.F__law_read.kp T.b__law_read .nil pass0 (pa_cons (pv 5) pa_nil)))) pss_nil)
    (pss_cons (ps_if (pt_cmp (pc_isN (pv 13))) (pss_one (ps_ret (pe_cmpR (op_eqD hr) (pv 10) (pe_lst (pa_cons pe_bl (pa_cons pe_bl pa_nil))) (nomark _)))) pss_nil)
    (pss_one (ps_ret (pe_and (pe_cmpR (op_eqD hr) (pv 10) (pe_lst pa_nil) (nomark _)) (pe_and (pe_callB call_isi rfl T.z_isinstance bt_isinstance (pa_cons (pv 11) (pa_cons (pe_bltn (v := .ty "list") rfl T.z_list bt_list rfl) pa_nil))) (pe_one (pe_cmpR (op_eqD hr) (pv 11) (pv 13) (nomark _))))))))))))))))))), ?_⟩
  refine cutC3 fun C hC => ?_
  walk_at "rd"
  refine ⟨by decide, NewO.mk fun p1 H1 S1 n1 e1 => ?_⟩
  refine ⟨a, ns, 0, rfl, S1.seq hS, h63, by omega, by omega, _, rfl, by decide, p1, rfl, _, items_l e1, ?_⟩
  generalize lawAt ns (0 : Int).toNat = c0
  obtain ⟨sz, hsz, hsz2⟩ : ∃ sz : Nat, atI [V.int 5, V.int 10000] (c0 % 2) = some (.int sz) ∧ (sz = 5 ∨ sz = 10000) := by
    rcases (show c0 % 2 = 0 ∨ c0 % 2 = 1 by (first | (clear h63 hC n1 e1; lia) | omega)) with h | h <;> rw [h]
    · exact ⟨5, rfl, .inl rfl⟩
    · exact ⟨10000, rfl, .inr rfl⟩
  refine ⟨_, hsz, a, ns, 1, rfl, S1.seq hS, h63, by omega, by omega, ?_⟩
  generalize lawAt ns (1 : Int).toNat = c1
  refine ⟨c1, 9, rfl, by decide, fun pn nv H2 S2 n2 e2 D2 => ?_⟩
  have hnv := D2.strs
  subst hnv
  have nok : ∀ x ∈ (List.range 9).map (nmS c1 9), nameOk x = true := fun x hx => by
    obtain ⟨k, hk, rfl⟩ := List.mem_map.mp hx
    exact nmS_ok (by simpa using hk)
  have nlen : ((List.range 9).map (nmS c1 9)).length = 9 := by simp
  generalize (List.range 9).map (nmS c1 9) = nms at e2 nok nlen
  have S02 := S1.trans S2
  have hS2 := S02.seq hS
  clear S1 S2 n1 n2 e1 D2
  refine ⟨a, ns, 2, rfl, hS2, h63, by omega, by omega, _, rfl, by decide, ?_⟩
  generalize lawAt ns (2 : Int).toNat = c2
  have hm0 : 0 ≤ c2 % 7 := Int.emod_nonneg _ (by decide)
  have hm1 : c2 % 7 < 7 := Int.emod_lt_of_pos _ (by decide)
  rw [hC]
  clear hC C
  refine cutC1 fun C hC => ?_
  walk_at "rd"
  refine ⟨by (first | (clear h63 hsz hsz2 e2 nlen hm0 hm1 hC; lia) | omega), by (first | (clear h63 hsz hsz2 e2 nlen hm0 hm1 hC; lia) | omega), compR (fun i ys H' => ∃ row : List L2.Deed, row.length = i ∧ Dts H' (row.map dDeed) ys ∧ ∀ d ∈ row, okT d) ⟨[], rfl, .nil, by simp⟩ (by (first | (clear h63 hsz hsz2 e2 nlen hm0 hm1 hC; lia) | omega)) (fun i ys H' h => ?_) (fun i ys H' hi S' h => ?_) (fun pr rs H3 H4 S3 S4 h n4 e4 => ?_)⟩
  · obtain ⟨row, h1, h2, _⟩ := h
    have := h2.length
    rw [List.length_map] at this
    (first | (clear h63 hsz hsz2 e2 nlen hm0 hm1 hC; lia) | omega)
  · obtain ⟨row, h1, h2, h3⟩ := h
    have hi : i < 7 := by (first | (clear h63 hsz hsz2 e2 nlen hm0 hm1 hC h1; lia) | omega)
    walk_at "rd"
    have en' := S' _ _ e2
    have ec1 : cutV (nms.map V.str) none (some 6) = (nms.take 6).map V.str := by
      have := cutV_to (xs := nms.map V.str) (p := 6) (by simp; (first | lia | omega))
      rw [List.map_take]; exact this
    have ec2 : cutV (nms.map V.str) (some 6) none = (nms.drop 6).map V.str := by
      have := cutV_from (xs := nms.map V.str) (p := 6) (by simp; (first | lia | omega))
      rw [List.map_drop]; exact this
    refine ⟨_, en', NewO.mk fun q1 A1 R1 m1 f1 => ⟨_, R1 _ _ en', NewO.mk fun q2 A2 R2 m2 f2 => ?_⟩⟩
    rw [ec1] at f1
    rw [ec2] at f2
    have R12 := R1.trans R2
    refine ⟨a, q1, q2, ns, _, sz, sz, nms.take 6, nms.drop 6, rfl, ((S'.trans R12).seq hS2), h63, by (first | (clear h63 hsz hsz2 e2 nlen hm0 hm1 hC h1 hi en' ec1 ec2 m1 f1 m2 f2; lia) | omega), by (first | (clear h63 hsz hsz2 e2 nlen hm0 hm1 hC h1 f1 m2 f2 ec2 m1 ec1 en'; lia) | omega), R2 _ _ f1, ?_, by simp; (first | lia | omega), f2, by simp; (first | (clear hi en' ec1 ec2 m1 f1 m2 f2 hm0 hm1 hC h1 h63 hsz hsz2 e2; lia) | omega), by (first | (clear hi en' ec1 ec2 m1 f1 m2 f2 hm0 hm1 hC h1 e2 nlen h63 hsz; lia) | omega), by (first | (clear hi en' ec1 ec2 m1 f1 m2 f2 hm0 hm1 hC h1 e2 nlen h63 hsz; lia) | omega), by (first | (clear hm0 hm1 hC h1 hi en' ec1 ec2 m1 f1 m2 f2 e2 nlen h63 hsz; lia) | omega), by (first | (clear hm0 hm1 hC h1 hi en' ec1 ec2 m1 f1 m2 f2 e2 nlen h63 hsz; lia) | omega), fun d vd A3 R3 dd okd => ⟨(S'.trans R12).trans R3, row ++ [d], by simp [h1], ?_, fun e he => ?_⟩⟩
    · intro z; have := congrArg List.length z; rw [List.length_take, List.length_nil] at this; (first | (clear hm0 hm1 hC h1 hi en' ec1 ec2 m1 f1 h63 hsz hsz2 e2 f2 z; lia) | omega)
    · rw [List.map_append]
      exact (h2.same (R12.trans R3)).append (.one dd)
    rcases List.mem_append.mp he with he | he
    · exact h3 e he
    rw [List.mem_singleton.mp he]
    have ok0 := okd_ok okd
    refine ⟨fun z hz => ?_, fun x hx => ?_⟩
    · rcases List.mem_append.mp hz with hz | hz
      · have := ok0.1 z hz; have a1 := this.1; have a2 := this.2; (first | (clear hm0 hm1 hC h1 hi en' ec1 ec2 m1 f1 e2 nlen m2 h63 hsz; lia) | omega)
      · have := ok0.2 z hz; have a1 := this.1; have a2 := this.2; (first | (clear hm0 hm1 hC h1 hi en' ec1 ec2 m1 f1 e2 nlen m2 h63 hsz; lia) | omega)
    · cases d with
      | take y j => cases hx; exact nok _ (List.mem_of_mem_take okd.1)
      | join f j k l => cases hx; exact nok _ (List.mem_of_mem_drop okd.1)
      | put j k => cases hx
      | fetch j k => cases hx
  obtain ⟨row, h1, dr, okr⟩ := h
  replace dr := dr.same S4
  have S04 := (S02.trans S3).trans S4
  have h1 : row.length ≤ 6 := by (first | (clear h63 hsz hsz2 e2 nlen hm0 hm1 hC n4 e4; lia) | omega)
  clear S3 S4 n4 e2 nok nlen S02 hS2
  rw [hC]
  clear hC C
  refine cutC1 fun C hC => ?_
  walk_at "rd"
  have lr := dr.length
  rw [List.length_map] at lr
  refine WalkL.comp e4 (fun i ys H' => ys = ((row.take i).map deedT).map V.str) rfl (by (first | (clear h63 hsz hsz2 hm0 hm1 e4 hC; lia) | omega)) (fun i ys H' h => by rw [h, List.length_map, List.length_map, List.length_take]; (first | (clear h63 hsz hsz2 hm0 hm1 e4 h1 hC lr h; lia) | omega)) (fun i x ys H' ex S' h => ?_) (fun pt ys H5 H6 S5 S6 h n6 e6 => ?_)
  · have hi : i < row.length := by have := (List.getElem?_eq_some_iff.mp ex).1; (first | (clear h63 hsz hsz2 hm0 hm1 e4 h1 hC ex h; lia) | omega)
    have e0 : row[i]? = some row[i] := List.getElem?_eq_getElem hi
    obtain ⟨y', hy', dy⟩ := Dts.map_of dr e0
    rw [ex] at hy'; cases hy'
    have okd := okr _ (List.getElem_mem hi)
    generalize row[i] = d at e0 dy okd
    obtain ⟨b, rfl, eb⟩ := deed_of (dy.same S')
    have enx : ((row.take (i + 1)).map deedT).map V.str = ys ++ [.str (deedT d)] := by rw [h, List.take_add_one, e0]; simp
    walk_at "rd"
    have l5' : (vDeed d).length ≤ 5 := by cases d <;> simp [vDeed]
    refine WalkT.comp eb (fun i ys H' => ys = ((vDeed d).take i).map fun v => V.str (strOfV v)) rfl (by (first | (clear h63 hsz hsz2 hm0 hm1 e4 h1 hC lr h hi e0 eb ex enx; lia) | omega)) (fun i ys H' h => by rw [h]; simp; (first | (clear h63 hsz hsz2 hm0 hm1 e4 h1 hC lr hi e0 eb ex enx l5' h; lia) | omega)) (fun i x ys H5 ex S' h => ?_) (fun p ys B1 B2 W1 W2 h n2 g2 => ?_)
    · have enext : ((vDeed d).take (i + 1)).map (fun v => V.str (strOfV v)) = ys ++ [V.str (strOfV x)] := by rw [List.take_add_one, ex, h]; simp
      walk_at "rd"
      rcases vdeed_mem d x (List.mem_of_getElem? ex) with ⟨z, rfl⟩ | ⟨k, hk, rfl⟩
      · exact .inl ⟨z, rfl, S', enext.symm⟩
      · have := okd.1 k hk
        exact .inr ⟨k, rfl, lg4 (by (first | (clear h63 hsz hsz2 hm0 hm1 e4 h1 hC lr hi e0 eb enx l5' h ex enext; lia) | omega)), S', enext.symm⟩
    · rw [List.take_length] at h
      have e : ys = (deedW d).map V.str := by rw [h, ← words_of d, List.map_map]; rfl
      rw [e] at g2
      have hw := word_ok okd
      have lw := (deedW_len d).2
      have s8 := sum_le8 (deedW d) fun z hz => (hw z hz).1
      have e1 : (Str.ofString " ").length = 1 := by decide +kernel
      exact ⟨p, rfl, deedW d, .inl (SqL.of g2), by rw [e1]; (first | (clear h63 hsz hsz2 hm0 hm1 e4 h1 hC lr hi e0 eb ex enx l5' h n2 g2 e e1; lia) | omega), (S'.trans W1).trans W2, enx.symm⟩
  · rw [lr, List.take_length] at h
    rw [h] at e6
    have s50 : ((row.map deedT).map fun x => x.length).sum ≤ 50 * row.length := by
      have go : ∀ r : List L2.Deed, (∀ d ∈ r, okT d) → ((r.map deedT).map fun x => x.length).sum ≤ 50 * r.length := by
        intro r
        induction r with
        | nil => intro _; simp
        | cons d r ih =>
          intro h
          have a1 := (deedT_len (h d (by simp))).1
          have a2 := ih fun d hd => h d (by simp [hd])
          simp only [List.map_cons, List.sum_cons, List.length_cons] at a2 ⊢
          (first | (clear h63 hsz hsz2 hm0 hm1 e4 h1 hC lr n6 e6 ih; lia) | omega)
      exact go row okr
    have e2 : (Str.ofString "; ").length = 2 := by decide +kernel
    refine ⟨pt, rfl, row.map deedT, .inl (SqL.of e6), by rw [e2, List.length_map]; (first | (clear h63 hsz hsz2 hm0 lr h n6 e6 hm1 e4 hC e2; lia) | omega), ?_⟩
    have low : lowT 360 (rowT row) := by have z := rowT_low okr; exact ⟨by have := z.1; (first | (clear h63 hsz hsz2 hm0 lr h n6 e6 hm1 e4 s50 e2 hC; lia) | omega), z.2⟩
    have S06 := (S04.trans S5).trans S6
    change C [some (V.ref a), some (V.int sz), some (V.ref pn), some (V.int (c2 % 7)), some (V.ref pr), some (V.str (rowT row)), none, none, none, none, none, none, none, none] H6
    generalize rowT row = x0 at low
    clear e2 s50 h n6 e6 S5 S6 dr okr lr S04 e4 h1
    rw [hC]
    clear hC C
    refine cutC1 fun C hC => ?_
    have hS6 := S06.seq hS
    walk_at "rd"
    refine ⟨a, ns, 2, rfl, hS6, h63, by omega, by omega, _, rfl, ⟨by decide, by decide⟩, by decide, by (first | (clear h63 hsz hsz2 hm0 hm1 h1 hC; lia) | omega), by (first | (clear h63 hsz hsz2 hm0 hm1 h1 hC; lia) | omega), ?_⟩
    generalize lawAt ns (2 : Int).toNat = c2'
    obtain ⟨Pv, hPv⟩ : ∃ Pv : Nat → St → Hp → Prop, ∀ i σ H', Pv i σ H' ↔ Same H H' ∧ ∃ (x : Str) (B : Nat), B + 2 ≤ 362 * 2 ^ i ∧ lowT B x ∧ ∃ o6 o7 o8 o9 : Option V, σ = [some (V.ref a), some (V.int sz), some (V.ref pn), some (V.int (c2 % 7)), some (V.ref pr), some (V.str x), o6, o7, o8, o9, none, none, none, none] := ⟨_, fun _ _ _ => Iff.rfl⟩
    refine forR Pv ((hPv _ _ _).mpr ⟨S06, x0, 360, by decide, low, none, none, none, none, rfl⟩) ?_ ?_
    · intro i σ H' hi h
      obtain ⟨S', x, B, hB, lx, o6, o7, o8, o9, rfl⟩ := (hPv _ _ _).mp h
      have hi : i < 4 := by (first | (clear h63 hsz hsz2 hm0 hm1 hB h1 hC; lia) | omega)
      have hx := lx.1
      have hp : 2 ^ i ≤ 8 := by
        rcases (show i = 0 ∨ i = 1 ∨ i = 2 ∨ i = 3 by (first | (clear h63 hsz hsz2 hm0 hm1 h1 hC hB hx; lia) | omega)) with rfl | rfl | rfl | rfl <;> decide
      have hp2 : 2 ^ (i + 1) = 2 * 2 ^ i := by rw [Nat.pow_succ]; (first | (clear h63 hsz hsz2 hm0 hm1 h1 hC hB hi hx hp; lia) | omega)
      walk_at "rd"
      have hS7 := S'.seq hS
      refine ⟨a, ns, 10 + (0 + (i : Int)), rfl, hS7, h63, by (first | (clear h63 hsz hsz2 hm0 hm1 h1 hC hB hi hx hp hp2; lia) | omega), by (first | (clear h63 hsz hsz2 hm0 hm1 h1 hx hp hp2 hC hB; lia) | omega), _, rfl, ?_⟩
      generalize lawAt ns (10 + (0 + (i : Int))).toNat = cl
      have hz : x.length ≤ sizeLine := line_le (by (first | (clear h63 hsz hsz2 hm0 hm1 h1 hC hi hp2; lia) | omega))
      refine ⟨⟨by decide, by decide⟩, hz, by (first | (clear h63 hsz hsz2 hm0 hm1 h1 hC hB hi hx hp hp2 hz; lia) | omega), _, rfl, by decide, ite2 (fun c => ?_) (fun c => ?_)⟩
      · refine ⟨by decide, NewO.mk fun q1 A1 R1 m1 f1 => ⟨a, ns, 14 + (0 + (i : Int)), rfl, R1.seq hS7, h63, by (first | (clear h63 hsz hsz2 hm0 hm1 h1 hC hB hi hx hp hp2 hz c m1 f1; lia) | omega), by (first | (clear h63 hsz hsz2 hm0 hm1 h1 hC hB hz c m1 f1 hp hp2 hx; lia) | omega), _, rfl, by decide, q1, rfl, _, items_l f1, ?_⟩⟩
        generalize lawAt ns (14 + (0 + (i : Int))).toNat = cm
        have d0 : 0 ≤ cm % 10 := Int.emod_nonneg _ (by decide)
        have d1 : cm % 10 < 10 := Int.emod_lt_of_pos _ (by decide)
        obtain ⟨mo, hmo, hml⟩ : ∃ mo : Str, atI ([Str.ofString " ", Str.ofString ";", Str.ofString "0", Str.ofString "7", Str.ofString "a", Str.ofString "A", Str.ofString "-", Str.ofString "+", Str.ofString "; ", Str.ofString "_"].map V.str) (cm % 10) = some (.str mo) ∧ lowT 2 mo := by
          obtain ⟨k, hk⟩ : ∃ k : Nat, cm % 10 = k := ⟨(cm % 10).toNat, by (first | (clear h63 hsz hsz2 hm0 hm1 h1 hC hB hi hx hp hp2 hz c m1 f1 d0 d1; lia) | omega)⟩
          rw [hk] at d1 ⊢
          have hk10 : k < [Str.ofString " ", Str.ofString ";", Str.ofString "0", Str.ofString "7", Str.ofString "a", Str.ofString "A", Str.ofString "-", Str.ofString "+", Str.ofString "; ", Str.ofString "_"].length := by simp only [List.length_cons, List.length_nil]; (first | (clear h63 hsz hsz2 hm0 hm1 h1 hC hB hi hx hp hp2 hz c m1 hk f1 d0; lia) | omega)
          refine ⟨_, atI_nat (by rw [List.getElem?_map, List.getElem?_eq_getElem hk10]; rfl), more_low _ (List.getElem_mem hk10)⟩
        refine ⟨_, hmo, hz, mo, rfl, ?_⟩
        have w1 := slice_low lx none (some (cl / 2 % ((x.length : Int) + 1)))
        have w2 := slice_low lx (some (cl / 2 % ((x.length : Int) + 1))) none
        generalize Txt.slice x none (some (cl / 2 % ((x.length : Int) + 1))) = y1 at w1
        generalize Txt.slice x (some (cl / 2 % ((x.length : Int) + 1))) none = y2 at w2
        have w3 := app_low (app_low w1 hml) w2
        have l1 := w1.1
        have l2 := w2.1
        have l3 := hml.1
        exact ⟨line_le (by (first | (clear h63 hsz hsz2 hm0 hm1 h1 hz c m1 f1 d0 d1 hi hx hC hp2 hmo l2; lia) | omega)), hz, line_le (by rw [len_app]; (first | (clear h63 hsz hsz2 hm0 hm1 h1 hz c m1 f1 d0 d1 hi hx hC hp2 hmo; lia) | omega)), (hPv _ _ _).mpr ⟨S'.trans R1, _, _, by rw [hp2]; (first | (clear hp2 hz c m1 f1 d0 d1 hmo l1 l2 l3 h63 hsz hsz2 hm0 hm1 h1 hx hp hi hC; lia) | omega), w3, _, _, _, _, rfl⟩⟩
      · have w1 := slice_low lx none (some (cl / 2 % ((x.length : Int) + 1)))
        have w2 := slice_low lx (some (cl / 2 % ((x.length : Int) + 1) + 1)) none
        generalize Txt.slice x none (some (cl / 2 % ((x.length : Int) + 1))) = y1 at w1
        generalize Txt.slice x (some (cl / 2 % ((x.length : Int) + 1) + 1)) none = y2 at w2
        have w3 := app_low w1 w2
        have l1 := w1.1
        have l2 := w2.1
        exact ⟨hz, hz, line_le (by (first | (clear h63 hsz hsz2 hm0 hm1 h1 hi hx hz c hC hp2; lia) | omega)), (hPv _ _ _).mpr ⟨S', _, _, by rw [hp2]; (first | (clear hi hx hp hp2 hz c l1 l2 h63 hsz hsz2 hm0 hm1 h1 hC; lia) | omega), w3, _, _, _, _, rfl⟩⟩
    · intro σ H7 h
      obtain ⟨S7, x, B, hB, lx, o6, o7, o8, o9, rfl⟩ := (hPv _ _ _).mp h
      have hp : 2 ^ (c2' / 7 % 4).toNat ≤ 8 := by
        have : (c2' / 7 % 4).toNat < 4 := by (first | (clear h63 hsz hsz2 hm0 hm1 h1 hC hB; lia) | omega)
        rcases (show (c2' / 7 % 4).toNat = 0 ∨ (c2' / 7 % 4).toNat = 1 ∨ (c2' / 7 % 4).toNat = 2 ∨ (c2' / 7 % 4).toNat = 3 by (first | (clear h63 hsz hsz2 hm0 hm1 h1 hC hB this; lia) | omega)) with h | h | h | h <;> rw [h] <;> decide
      have lx : lowT 10000 x := ⟨by have := lx.1; (first | (clear h63 hsz hsz2 hm0 hm1 h1 hC; lia) | omega), lx.2⟩
      clear hB hp h hPv Pv low S06 hS6
      dsimp only
      rw [hC]
      clear hC C
      refine cutC2 fun C hC => ?_
      walk_at "rd"
      refine ⟨Nat.zero_le _, NewO.mk fun pb H8 S8 n8 e8 => ⟨Nat.zero_le _, NewO.mk fun pf H9 S9 n9 e9 => ?_⟩⟩
      have e89 := S9 _ _ e8
      rw [hC]
      clear hC C
      refine cutC1 fun C hC => ?_
      walk_at "rd"
      refine ⟨x, rfl, lx, fun rows hr pg rs HA SA eg dg => ?_, fun hr HA SA => ?_⟩
      · dsimp only
        rw [hC]
        clear hC C
        walk_at "rd"
        have eb2 := SA _ _ e89
        refine ⟨Nat.zero_le _, NewO.mk fun pd HD SD nD eD => ite2 (fun c => ?_) (fun c => ?_)⟩
        · have c : ¬ x = Str.ofString "" := fun z => by rw [decide_eq_true z] at c; cases c
          have er : rdRow x = some rows := by rw [← hr]; unfold rdRow0; rw [if_neg c]
          refine ⟨x, rfl, lx, fun rows' hr' pz zs HZ SZ ez dz => ?_, fun z => by rw [er] at z; cases z⟩
          rw [er] at hr'
          cases hr'
          have S2 := SD.trans SZ
          rw [decide_eq_false (fun z : V.ref pz = V.non => by cases z)]
          refine iteF ⟨Nat.zero_le _, NewO.mk fun p3 H3 S3 n3 e3 => ⟨.lst [], Dt.lst (S3 _ _ (S2 _ _ eb2)) .nil, .lst [], Dt.lst e3 .nil, by decide, ?_⟩⟩
          rw [D.eq_refl]
          refine iteT ⟨_, _, ⟨rfl, rfl⟩, "list", .lst (S3 _ _ (S2 _ _ eg)), by decide, ?_⟩
          rw [show isiB "list" "list" = true by decide]
          refine iteT ⟨_, Dt.lst (S3 _ _ (S2 _ _ eg)) ((dg.same S2).same S3), _, Dt.lst (S3 _ _ ez) (dz.same S3), rows_dp rows, ?_⟩
          rw [D.eq_refl]
          exact q _
        · have c : x = Str.ofString "" := Decidable.byContradiction fun z => c (by rw [decide_eq_false z]; rfl)
          have er : rows = [] := by unfold rdRow0 at hr; rw [if_pos c] at hr; cases hr; rfl
          subst er
          rw [decide_eq_false (fun z : V.ref pd = V.non => by cases z)]
          refine iteF ⟨Nat.zero_le _, NewO.mk fun p3 H3 S3 n3 e3 => ⟨.lst [], Dt.lst (S3 _ _ (SD _ _ eb2)) .nil, .lst [], Dt.lst e3 .nil, by decide, ?_⟩⟩
          rw [D.eq_refl]
          refine iteT ⟨_, _, ⟨rfl, rfl⟩, "list", .lst (S3 _ _ (SD _ _ eg)), by decide, ?_⟩
          rw [show isiB "list" "list" = true by decide]
          refine iteT ⟨_, Dt.lst (S3 _ _ (SD _ _ eg)) ((dg.same SD).same S3), .lst [], Dt.lst (S3 _ _ eD) .nil, rows_dp [], ?_⟩
          rw [show (D.lst (List.map dTup [])) = D.lst [] from rfl, D.eq_refl]
          exact q _
      · refine ⟨T.C_NoText, rfl, T.x_NoText, T.u_NoText_FewError, fun σ' e hσ hne => ?_⟩
        subst hσ
        walk_at "rd"
        refine ⟨e, T.C_NoText, _, ⟨rfl, rfl⟩, _, rfl, upd_same, T.y_NoText, _, T.k_NoText_NoText, e, T.C_NoText, _, ⟨rfl, rfl⟩, _, rfl, upd_same, T.y_NoText, _, T.k_NoText_ValueError, by decide, NewO.mk fun pB HB SB nB eB => ?_⟩
        simp only [endsA]
        rw [hC]
        clear hC C
        have bb : ∀ {h : Hp}, Dts h [.bl true, .bl true] [.bl true, .bl true] := .cons (isD_bl.mpr rfl) (.cons (isD_bl.mpr rfl) .nil)
        walk_at "rd"
        have c : ¬ x = Str.ofString "" := fun z => by unfold rdRow0 at hr; rw [if_pos z] at hr; cases hr
        have er : rdRow x = none := by rw [← hr]; unfold rdRow0; rw [if_neg c]
        rw [decide_eq_false c]
        refine ⟨Nat.zero_le _, NewO.mk fun pd HD SD nD eD => iteT ⟨x, rfl, lx, fun rows' hr' => (by rw [er] at hr'; cases hr'), fun _ HZ SZ => ?_⟩⟩
        dsimp only
        rw [decide_eq_true (rfl : V.non = V.non)]
        refine iteT ⟨by decide, NewO.mk fun pC HC SC nC eC => ⟨_, Dt.lst (SC _ _ (SZ _ _ (SD _ _ eB))) bb, _, Dt.lst eC bb, by decide, q _⟩⟩
end
theorem sub_of_mro {K : PySem.W.Frag} {C F : Addr} {r : Bool} (h : PySem.W.mroIn K C (.ref F) = some r) : subOf K C F = r := by
  obtain ⟨cd, a, b⟩ := Option.bind_eq_some_iff.mp h
  unfold PySem.W.clsIn at a
  split at a
  · rename_i lk
    cases a
    unfold subOf
    rw [lk]
    split at b
    · cases b
    · exact Option.some.inj b
  · cases a
theorem cls_of_mro {K : PySem.W.Frag} {C : Addr} {v : Value} {r : Bool} (h : PySem.W.mroIn K C v = some r) : (PySem.W.clsIn K C).isSome = true := by
  obtain ⟨cd, a, _⟩ := Option.bind_eq_some_iff.mp h
  rw [a]; rfl
theorem txt_mk {K : PySem.W.Frag} {h : Heap} {mg : Str → Option Value} (X : K.In h) (G : h.Ns mainGlobals mg)
    {f0 : Addr} {od0 an0 : Option Addr} {sl0 : Array (Option Value)} {oc0 kV0 dc0 pm0 cd0 ct0 : Value}
    {f1 : Addr} {od1 an1 : Option Addr} {sl1 : Array (Option Value)} {oc1 kV1 dc1 pm1 cd1 ct1 : Value}
    {f2 : Addr} {od2 an2 : Option Addr} {sl2 : Array (Option Value)} {oc2 kV2 dc2 pm2 cd2 ct2 : Value}
    {f3 : Addr} {od3 an3 : Option Addr} {sl3 : Array (Option Value)} {oc3 kV3 dc3 pm3 cd3 ct3 : Value}
    {f4 : Addr} {od4 an4 : Option Addr} {sl4 : Array (Option Value)} {oc4 kV4 dc4 pm4 cd4 ct4 : Value}
    {f5 : Addr} {od5 an5 : Option Addr} {sl5 : Array (Option Value)} {oc5 kV5 dc5 pm5 cd5 ct5 : Value}
    {f6 : Addr} {od6 an6 : Option Addr} {sl6 : Array (Option Value)} {oc6 kV6 dc6 pm6 cd6 ct6 : Value}
    {f7 : Addr} {od7 an7 : Option Addr} {sl7 : Array (Option Value)} {oc7 kV7 dc7 pm7 cd7 ct7 : Value}
    {f8 : Addr} {od8 an8 : Option Addr} {sl8 : Array (Option Value)} {oc8 kV8 dc8 pm8 cd8 ct8 : Value}
    {f9 : Addr} {od9 an9 : Option Addr} {sl9 : Array (Option Value)} {oc9 kV9 dc9 pm9 cd9 ct9 : Value}
    {f10 : Addr} {od10 an10 : Option Addr} {sl10 : Array (Option Value)} {oc10 kV10 dc10 pm10 cd10 ct10 : Value}
    {tk0 : Tok}
    {tk1 : Tok}
    {C_FewError : Addr}
    {C_NoText : Addr}
    (a0 : PySem.W.nsIn K mainGlobals "is_name" = some (some (.ref f0))) (l0 : K.lookup f0 = some ⟨oc0, od0, .func (PySem.W.fnOf "is_name" "is_name" (defArgs s_is_name) (defBody s_is_name) (defScope s_is_name) .none kV0 dc0 pm0 an0 cd0 ct0), sl0⟩) (c0 : PySem.W.codeIn K cd0 "is_name" = true) (k0 : PySem.W.keepIn K (.ref f0) = true)
    (a1 : PySem.W.nsIn K mainGlobals "is_number" = some (some (.ref f1))) (l1 : K.lookup f1 = some ⟨oc1, od1, .func (PySem.W.fnOf "is_number" "is_number" (defArgs s_is_number) (defBody s_is_number) (defScope s_is_number) .none kV1 dc1 pm1 an1 cd1 ct1), sl1⟩) (c1 : PySem.W.codeIn K cd1 "is_number" = true) (k1 : PySem.W.keepIn K (.ref f1) = true)
    (a2 : PySem.W.nsIn K mainGlobals "read_part" = some (some (.ref f2))) (l2 : K.lookup f2 = some ⟨oc2, od2, .func (PySem.W.fnOf "read_part" "read_part" (defArgs s_read_part) (defBody s_read_part) (defScope s_read_part) .none kV2 dc2 pm2 an2 cd2 ct2), sl2⟩) (c2 : PySem.W.codeIn K cd2 "read_part" = true) (k2 : PySem.W.keepIn K (.ref f2) = true)
    (a3 : PySem.W.nsIn K mainGlobals "read_deed" = some (some (.ref f3))) (l3 : K.lookup f3 = some ⟨oc3, od3, .func (PySem.W.fnOf "read_deed" "read_deed" (defArgs s_read_deed) (defBody s_read_deed) (defScope s_read_deed) .none kV3 dc3 pm3 an3 cd3 ct3), sl3⟩) (c3 : PySem.W.codeIn K cd3 "read_deed" = true) (k3 : PySem.W.keepIn K (.ref f3) = true)
    (a4 : PySem.W.nsIn K mainGlobals "read_row" = some (some (.ref f4))) (l4 : K.lookup f4 = some ⟨oc4, od4, .func (PySem.W.fnOf "read_row" "read_row" (defArgs s_read_row) (defBody s_read_row) (defScope s_read_row) .none kV4 dc4 pm4 an4 cd4 ct4), sl4⟩) (c4 : PySem.W.codeIn K cd4 "read_row" = true) (k4 : PySem.W.keepIn K (.ref f4) = true)
    (a5 : PySem.W.nsIn K mainGlobals "_law_at" = some (some (.ref f5))) (l5 : K.lookup f5 = some ⟨oc5, od5, .func (PySem.W.fnOf "_law_at" "_law_at" (defArgs s__law_at) (defBody s__law_at) (defScope s__law_at) .none kV5 dc5 pm5 an5 cd5 ct5), sl5⟩) (c5 : PySem.W.codeIn K cd5 "_law_at" = true) (k5 : PySem.W.keepIn K (.ref f5) = true)
    (a6 : PySem.W.nsIn K mainGlobals "_law_names" = some (some (.ref f6))) (l6 : K.lookup f6 = some ⟨oc6, od6, .func (PySem.W.fnOf "_law_names" "_law_names" (defArgs s__law_names) (defBody s__law_names) (defScope s__law_names) .none kV6 dc6 pm6 an6 cd6 ct6), sl6⟩) (c6 : PySem.W.codeIn K cd6 "_law_names" = true) (k6 : PySem.W.keepIn K (.ref f6) = true)
    (a7 : PySem.W.nsIn K mainGlobals "_law_deed" = some (some (.ref f7))) (l7 : K.lookup f7 = some ⟨oc7, od7, .func (PySem.W.fnOf "_law_deed" "_law_deed" (defArgs s__law_deed) (defBody s__law_deed) (defScope s__law_deed) .none kV7 dc7 pm7 an7 cd7 ct7), sl7⟩) (c7 : PySem.W.codeIn K cd7 "_law_deed" = true) (k7 : PySem.W.keepIn K (.ref f7) = true)
    (a8 : PySem.W.nsIn K mainGlobals "_law_word" = some (some (.ref f8))) (l8 : K.lookup f8 = some ⟨oc8, od8, .func (PySem.W.fnOf "_law_word" "_law_word" (defArgs s__law_word) (defBody s__law_word) (defScope s__law_word) .none kV8 dc8 pm8 an8 cd8 ct8), sl8⟩) (c8 : PySem.W.codeIn K cd8 "_law_word" = true) (k8 : PySem.W.keepIn K (.ref f8) = true)
    (a9 : PySem.W.nsIn K mainGlobals "_law_read" = some (some (.ref f9))) (l9 : K.lookup f9 = some ⟨oc9, od9, .func (PySem.W.fnOf "_law_read" "_law_read" (defArgs s__law_read) (defBody s__law_read) (defScope s__law_read) .none kV9 dc9 pm9 an9 cd9 ct9), sl9⟩) (c9 : PySem.W.codeIn K cd9 "_law_read" = true) (k9 : PySem.W.keepIn K (.ref f9) = true)
    (a10 : PySem.W.nsIn K mainGlobals "law" = some (some (.ref f10))) (l10 : K.lookup f10 = some ⟨oc10, od10, .func (PySem.W.fnOf "law" "law" (defArgs s_law) (defBody s_law) (defScope s_law) .none kV10 dc10 pm10 an10 cd10 ct10), sl10⟩) (c10 : PySem.W.codeIn K cd10 "law" = true) (k10 : PySem.W.keepIn K (.ref f10) = true)
    (v0 : PySem.W.nsIn K mainGlobals "LONGEST_NAME" = some (some (.int 8 tk0)))
    (v1 : PySem.W.nsIn K mainGlobals "MOST_FIGURES" = some (some (.int 4 tk1)))
    (z0 : PySem.W.nsIn K mainGlobals "ValueError" = some none)
    (z1 : PySem.W.nsIn K mainGlobals "all" = some none)
    (z2 : PySem.W.nsIn K mainGlobals "int" = some none)
    (z3 : PySem.W.nsIn K mainGlobals "isinstance" = some none)
    (z4 : PySem.W.nsIn K mainGlobals "len" = some none)
    (z5 : PySem.W.nsIn K mainGlobals "list" = some none)
    (z6 : PySem.W.nsIn K mainGlobals "range" = some none)
    (z7 : PySem.W.nsIn K mainGlobals "str" = some none)
    (z8 : PySem.W.nsIn K mainGlobals "tuple" = some none)
    (z9 : PySem.W.nsIn K mainGlobals "zip" = some none)
    (ea_FewError : PySem.W.nsIn K mainGlobals "FewError" = some (some (.ref C_FewError)))
    (ex_FewError : PySem.W.excIn K C_FewError bmV "ValueError.__new__" = true)
    (ea_NoText : PySem.W.nsIn K mainGlobals "NoText" = some (some (.ref C_NoText)))
    (ex_NoText : PySem.W.excIn K C_NoText bmV "ValueError.__new__" = true)
    (u_NoText_FewError : PySem.W.mroIn K C_NoText (.ref C_FewError) = some true)
    (ga_NoText : PySem.W.findIn K (.ref C_NoText) "__getattribute__" = some (some (.builtin "BaseException.__getattribute__")))
    (gx_NoText : PySem.W.findIn K (.ref C_NoText) "__getattr__" = some none)
    (cl_NoText : PySem.W.findIn K (.ref C_NoText) "__class__" = some (some (.builtin "object.__class__")))
    (sp_NoText : PySem.W.specialIn K (.builtin "object.__class__") "__get__" = some (some (.builtin "getset_descriptor.__get__")))
    (tk_NoText : PySem.W.takesIn K (.builtin "object.__class__") = some true)
    (mr_NoText : PySem.W.mroIn K C_NoText (.type "object") = some true)
    (k_NoText_NoText : PySem.W.kitOne K (.ref C_NoText) (.ref C_NoText) = some true)
    (k_NoText_ValueError : PySem.W.kitOne K (.ref C_NoText) (.type "ValueError") = some true) :
    ∃ T : Txt K mg, T.f_law = f10 ∧ (∀ (s : Shared) (v : Value), BindsTo s T.d_law ⟨[v], []⟩ [("script", v)]) := by
  have F0 := fun_mk (st := s_is_name) l0 c0 k0
  have b0 := F0.binds1 (ps := ["text"]) rfl fun _ _ _ _ _ _ _ => rfl
  have F1 := fun_mk (st := s_is_number) l1 c1 k1
  have b1 := F1.binds1 (ps := ["word"]) rfl fun _ _ _ _ _ _ _ => rfl
  have F2 := fun_mk (st := s_read_part) l2 c2 k2
  have b2 := F2.binds2 (ps := ["kind", "word"]) rfl fun _ _ _ _ _ _ _ _ => rfl
  have F3 := fun_mk (st := s_read_deed) l3 c3 k3
  have b3 := F3.binds1 (ps := ["text"]) rfl fun _ _ _ _ _ _ _ => rfl
  have F4 := fun_mk (st := s_read_row) l4 c4 k4
  have b4 := F4.binds1 (ps := ["text"]) rfl fun _ _ _ _ _ _ _ => rfl
  have F5 := fun_mk (st := s__law_at) l5 c5 k5
  have b5 := F5.binds2 (ps := ["script", "k"]) rfl fun _ _ _ _ _ _ _ _ => rfl
  have F6 := fun_mk (st := s__law_names) l6 c6 k6
  have b6 := F6.binds2 (ps := ["cell", "many"]) rfl fun _ _ _ _ _ _ _ _ => rfl
  have F7 := fun_mk (st := s__law_deed) l7 c7 k7
  have b7 := F7.binds6 (ps := ["script", "n", "names", "deeds", "k", "many"]) rfl fun _ _ _ _ _ _ _ _ _ _ _ _ => rfl
  have F8 := fun_mk (st := s__law_word) l8 c8 k8
  have b8 := F8.binds2 (ps := ["word", "sort"]) rfl fun _ _ _ _ _ _ _ _ => rfl
  have F9 := fun_mk (st := s__law_read) l9 c9 k9
  have b9 := F9.binds1 (ps := ["text"]) rfl fun _ _ _ _ _ _ _ => rfl
  have F10 := fun_mk (st := s_law) l10 c10 k10
  have b10 := F10.binds1 (ps := ["script"]) rfl fun _ _ _ _ _ _ _ => rfl
  exact ⟨⟨f0, _, F0, PySem.W.mg_of X G a0, b0, f1, _, F1, PySem.W.mg_of X G a1, b1, f2, _, F2, PySem.W.mg_of X G a2, b2, f3, _, F3, PySem.W.mg_of X G a3, b3, f4, _, F4, PySem.W.mg_of X G a4, b4, f5, _, F5, PySem.W.mg_of X G a5, b5, f6, _, F6, PySem.W.mg_of X G a6, b6, f7, _, F7, PySem.W.mg_of X G a7, b7, f8, _, F8, PySem.W.mg_of X G a8, b8, f9, _, F9, PySem.W.mg_of X G a9, b9, f10, _, F10, PySem.W.mg_of X G a10, b10, PySem.W.mg_none_of X G z0, PySem.W.mg_none_of X G z1, PySem.W.mg_none_of X G z2, PySem.W.mg_none_of X G z3, PySem.W.mg_none_of X G z4, PySem.W.mg_none_of X G z5, PySem.W.mg_none_of X G z6, PySem.W.mg_none_of X G z7, PySem.W.mg_none_of X G z8, PySem.W.mg_none_of X G z9, tk0, PySem.W.mg_of X G v0, tk1, PySem.W.mg_of X G v1, C_FewError, PySem.W.mg_of X G ea_FewError, ex_FewError, C_NoText, PySem.W.mg_of X G ea_NoText, ex_NoText, sub_of_mro u_NoText_FewError, ⟨ex_NoText, ga_NoText, gx_NoText, cl_NoText, sp_NoText, tk_NoText, mr_NoText, cls_of_mro mr_NoText⟩, k_NoText_NoText, k_NoText_ValueError⟩, rfl, fun s v => .of_eq rfl⟩
theorem all_mk {l : PySem.W.OpenLaw} {w : World} {K : PySem.W.Frag} {h : Heap} {mg : Str → Option Value} {fa : Addr} (X : K.In h) (G : h.Ns mainGlobals mg)
    {f0 : Addr} {od0 an0 : Option Addr} {sl0 : Array (Option Value)} {oc0 kV0 dc0 pm0 cd0 ct0 : Value}
    {f1 : Addr} {od1 an1 : Option Addr} {sl1 : Array (Option Value)} {oc1 kV1 dc1 pm1 cd1 ct1 : Value}
    {f2 : Addr} {od2 an2 : Option Addr} {sl2 : Array (Option Value)} {oc2 kV2 dc2 pm2 cd2 ct2 : Value}
    {f3 : Addr} {od3 an3 : Option Addr} {sl3 : Array (Option Value)} {oc3 kV3 dc3 pm3 cd3 ct3 : Value}
    {f4 : Addr} {od4 an4 : Option Addr} {sl4 : Array (Option Value)} {oc4 kV4 dc4 pm4 cd4 ct4 : Value}
    {f5 : Addr} {od5 an5 : Option Addr} {sl5 : Array (Option Value)} {oc5 kV5 dc5 pm5 cd5 ct5 : Value}
    {f6 : Addr} {od6 an6 : Option Addr} {sl6 : Array (Option Value)} {oc6 kV6 dc6 pm6 cd6 ct6 : Value}
    {f7 : Addr} {od7 an7 : Option Addr} {sl7 : Array (Option Value)} {oc7 kV7 dc7 pm7 cd7 ct7 : Value}
    {f8 : Addr} {od8 an8 : Option Addr} {sl8 : Array (Option Value)} {oc8 kV8 dc8 pm8 cd8 ct8 : Value}
    {f9 : Addr} {od9 an9 : Option Addr} {sl9 : Array (Option Value)} {oc9 kV9 dc9 pm9 cd9 ct9 : Value}
    {f10 : Addr} {od10 an10 : Option Addr} {sl10 : Array (Option Value)} {oc10 kV10 dc10 pm10 cd10 ct10 : Value}
    {tk0 : Tok}
    {tk1 : Tok}
    {C_FewError : Addr}
    {C_NoText : Addr}
    (a0 : PySem.W.nsIn K mainGlobals "is_name" = some (some (.ref f0))) (l0 : K.lookup f0 = some ⟨oc0, od0, .func (PySem.W.fnOf "is_name" "is_name" (defArgs s_is_name) (defBody s_is_name) (defScope s_is_name) .none kV0 dc0 pm0 an0 cd0 ct0), sl0⟩) (c0 : PySem.W.codeIn K cd0 "is_name" = true) (k0 : PySem.W.keepIn K (.ref f0) = true)
    (a1 : PySem.W.nsIn K mainGlobals "is_number" = some (some (.ref f1))) (l1 : K.lookup f1 = some ⟨oc1, od1, .func (PySem.W.fnOf "is_number" "is_number" (defArgs s_is_number) (defBody s_is_number) (defScope s_is_number) .none kV1 dc1 pm1 an1 cd1 ct1), sl1⟩) (c1 : PySem.W.codeIn K cd1 "is_number" = true) (k1 : PySem.W.keepIn K (.ref f1) = true)
    (a2 : PySem.W.nsIn K mainGlobals "read_part" = some (some (.ref f2))) (l2 : K.lookup f2 = some ⟨oc2, od2, .func (PySem.W.fnOf "read_part" "read_part" (defArgs s_read_part) (defBody s_read_part) (defScope s_read_part) .none kV2 dc2 pm2 an2 cd2 ct2), sl2⟩) (c2 : PySem.W.codeIn K cd2 "read_part" = true) (k2 : PySem.W.keepIn K (.ref f2) = true)
    (a3 : PySem.W.nsIn K mainGlobals "read_deed" = some (some (.ref f3))) (l3 : K.lookup f3 = some ⟨oc3, od3, .func (PySem.W.fnOf "read_deed" "read_deed" (defArgs s_read_deed) (defBody s_read_deed) (defScope s_read_deed) .none kV3 dc3 pm3 an3 cd3 ct3), sl3⟩) (c3 : PySem.W.codeIn K cd3 "read_deed" = true) (k3 : PySem.W.keepIn K (.ref f3) = true)
    (a4 : PySem.W.nsIn K mainGlobals "read_row" = some (some (.ref f4))) (l4 : K.lookup f4 = some ⟨oc4, od4, .func (PySem.W.fnOf "read_row" "read_row" (defArgs s_read_row) (defBody s_read_row) (defScope s_read_row) .none kV4 dc4 pm4 an4 cd4 ct4), sl4⟩) (c4 : PySem.W.codeIn K cd4 "read_row" = true) (k4 : PySem.W.keepIn K (.ref f4) = true)
    (a5 : PySem.W.nsIn K mainGlobals "_law_at" = some (some (.ref f5))) (l5 : K.lookup f5 = some ⟨oc5, od5, .func (PySem.W.fnOf "_law_at" "_law_at" (defArgs s__law_at) (defBody s__law_at) (defScope s__law_at) .none kV5 dc5 pm5 an5 cd5 ct5), sl5⟩) (c5 : PySem.W.codeIn K cd5 "_law_at" = true) (k5 : PySem.W.keepIn K (.ref f5) = true)
    (a6 : PySem.W.nsIn K mainGlobals "_law_names" = some (some (.ref f6))) (l6 : K.lookup f6 = some ⟨oc6, od6, .func (PySem.W.fnOf "_law_names" "_law_names" (defArgs s__law_names) (defBody s__law_names) (defScope s__law_names) .none kV6 dc6 pm6 an6 cd6 ct6), sl6⟩) (c6 : PySem.W.codeIn K cd6 "_law_names" = true) (k6 : PySem.W.keepIn K (.ref f6) = true)
    (a7 : PySem.W.nsIn K mainGlobals "_law_deed" = some (some (.ref f7))) (l7 : K.lookup f7 = some ⟨oc7, od7, .func (PySem.W.fnOf "_law_deed" "_law_deed" (defArgs s__law_deed) (defBody s__law_deed) (defScope s__law_deed) .none kV7 dc7 pm7 an7 cd7 ct7), sl7⟩) (c7 : PySem.W.codeIn K cd7 "_law_deed" = true) (k7 : PySem.W.keepIn K (.ref f7) = true)
    (a8 : PySem.W.nsIn K mainGlobals "_law_word" = some (some (.ref f8))) (l8 : K.lookup f8 = some ⟨oc8, od8, .func (PySem.W.fnOf "_law_word" "_law_word" (defArgs s__law_word) (defBody s__law_word) (defScope s__law_word) .none kV8 dc8 pm8 an8 cd8 ct8), sl8⟩) (c8 : PySem.W.codeIn K cd8 "_law_word" = true) (k8 : PySem.W.keepIn K (.ref f8) = true)
    (a9 : PySem.W.nsIn K mainGlobals "_law_read" = some (some (.ref f9))) (l9 : K.lookup f9 = some ⟨oc9, od9, .func (PySem.W.fnOf "_law_read" "_law_read" (defArgs s__law_read) (defBody s__law_read) (defScope s__law_read) .none kV9 dc9 pm9 an9 cd9 ct9), sl9⟩) (c9 : PySem.W.codeIn K cd9 "_law_read" = true) (k9 : PySem.W.keepIn K (.ref f9) = true)
    (a10 : PySem.W.nsIn K mainGlobals "law" = some (some (.ref f10))) (l10 : K.lookup f10 = some ⟨oc10, od10, .func (PySem.W.fnOf "law" "law" (defArgs s_law) (defBody s_law) (defScope s_law) .none kV10 dc10 pm10 an10 cd10 ct10), sl10⟩) (c10 : PySem.W.codeIn K cd10 "law" = true) (k10 : PySem.W.keepIn K (.ref f10) = true)
    (v0 : PySem.W.nsIn K mainGlobals "LONGEST_NAME" = some (some (.int 8 tk0)))
    (v1 : PySem.W.nsIn K mainGlobals "MOST_FIGURES" = some (some (.int 4 tk1)))
    (z0 : PySem.W.nsIn K mainGlobals "ValueError" = some none)
    (z1 : PySem.W.nsIn K mainGlobals "all" = some none)
    (z2 : PySem.W.nsIn K mainGlobals "int" = some none)
    (z3 : PySem.W.nsIn K mainGlobals "isinstance" = some none)
    (z4 : PySem.W.nsIn K mainGlobals "len" = some none)
    (z5 : PySem.W.nsIn K mainGlobals "list" = some none)
    (z6 : PySem.W.nsIn K mainGlobals "range" = some none)
    (z7 : PySem.W.nsIn K mainGlobals "str" = some none)
    (z8 : PySem.W.nsIn K mainGlobals "tuple" = some none)
    (z9 : PySem.W.nsIn K mainGlobals "zip" = some none)
    (ea_FewError : PySem.W.nsIn K mainGlobals "FewError" = some (some (.ref C_FewError)))
    (ex_FewError : PySem.W.excIn K C_FewError bmV "ValueError.__new__" = true)
    (ea_NoText : PySem.W.nsIn K mainGlobals "NoText" = some (some (.ref C_NoText)))
    (ex_NoText : PySem.W.excIn K C_NoText bmV "ValueError.__new__" = true)
    (u_NoText_FewError : PySem.W.mroIn K C_NoText (.ref C_FewError) = some true)
    (ga_NoText : PySem.W.findIn K (.ref C_NoText) "__getattribute__" = some (some (.builtin "BaseException.__getattribute__")))
    (gx_NoText : PySem.W.findIn K (.ref C_NoText) "__getattr__" = some none)
    (cl_NoText : PySem.W.findIn K (.ref C_NoText) "__class__" = some (some (.builtin "object.__class__")))
    (sp_NoText : PySem.W.specialIn K (.builtin "object.__class__") "__get__" = some (some (.builtin "getset_descriptor.__get__")))
    (tk_NoText : PySem.W.takesIn K (.builtin "object.__class__") = some true)
    (mr_NoText : PySem.W.mroIn K C_NoText (.type "object") = some true)
    (k_NoText_NoText : PySem.W.kitOne K (.ref C_NoText) (.ref C_NoText) = some true)
    (k_NoText_ValueError : PySem.W.kitOne K (.ref C_NoText) (.type "ValueError") = some true) {pA pt1 pt2 pt3 pt4 : Addr} {ph1 ph2 ph3 ph4 : Int} {pq1 pq2 pq3 pq4 : Tok} {pe pn1 pn2 pn3 pn4 : Nat} {po1 po2 po3 po4 : Option Addr} {ps1 ps2 ps3 ps4 : Array (Option Value)} {pr0 pr1 pr2 pr3 pr4 pr5 pr6 pr7 pr8 pr9 : Tok} (pa : PySem.W.nsIn K mainGlobals "PARTS" = some (some (.ref pA))) (pd : K.lookup pA = some { cls := .type "dict", dict := none, data := .dict #[⟨ph1, .str (Str.ofString "take") pq1, .ref pt1⟩, ⟨ph2, .str (Str.ofString "join") pq2, .ref pt2⟩, ⟨ph3, .str (Str.ofString "put") pq3, .ref pt3⟩, ⟨ph4, .str (Str.ofString "fetch") pq4, .ref pt4⟩] pe, slots := #[] }) (pk1 : K.lookup pt1 = some ⟨.type "tuple", po1, .seq #[.str (Str.ofString "name") pr0, .str (Str.ofString "number") pr1] pn1, ps1⟩) (pk2 : K.lookup pt2 = some ⟨.type "tuple", po2, .seq #[.str (Str.ofString "name") pr2, .str (Str.ofString "number") pr3, .str (Str.ofString "number") pr4, .str (Str.ofString "number") pr5] pn2, ps2⟩) (pk3 : K.lookup pt3 = some ⟨.type "tuple", po3, .seq #[.str (Str.ofString "number") pr6, .str (Str.ofString "number") pr7] pn3, ps3⟩) (pk4 : K.lookup pt4 = some ⟨.type "tuple", po4, .seq #[.str (Str.ofString "number") pr8, .str (Str.ofString "number") pr9] pn4, ps4⟩) (ph1' : ph1 = hashStr w (Str.ofString "take")) (ph2' : ph2 = hashStr w (Str.ofString "join")) (ph3' : ph3 = hashStr w (Str.ofString "put")) (ph4' : ph4 = hashStr w (Str.ofString "fetch")) (pz : (pA == sysModules) = false) (hfa : mg "law" = some (.ref fa)) :
    ∃ fd : FuncData, (∀ (s : Shared) (v : Value), BindsTo s fd ⟨[v], []⟩ [("script", v)]) ∧ ∀ base : Heap, K.In base → base.Ns mainGlobals mg → FnOk l.prog w K mg base CX0 60 fa fd ["script"] (spLaw K) := by
  obtain ⟨T, e, b⟩ := txt_mk X G a0 l0 c0 k0 a1 l1 c1 k1 a2 l2 c2 k2 a3 l3 c3 k3 a4 l4 c4 k4 a5 l5 c5 k5 a6 l6 c6 k6 a7 l7 c7 k7 a8 l8 c8 k8 a9 l9 c9 k9 a10 l10 c10 k10 v0 v1 z0 z1 z2 z3 z4 z5 z6 z7 z8 z9 ea_FewError ex_FewError ea_NoText ex_NoText u_NoText_FewError ga_NoText gx_NoText cl_NoText sp_NoText tk_NoText mr_NoText k_NoText_NoText k_NoText_ValueError
  have e2 := hfa.symm.trans T.m_law
  cases e2
  exact ⟨T.d_law, b, fun base _ _ => ok_law T ⟨pA, pt1, pt2, pt3, pt4, PySem.W.mg_of X G pa, kd4 pz pd ph1' ph2' ph3' ph4' (by decide +kernel), kt2 pk1, kt4 pk2, kt2 pk3, kt2 pk4⟩⟩
theorem walk {l : PySem.W.OpenLaw} {q : Program} {loose : List Str} {XP : (Str → Option Value) → Heap → Prop} {YP : World → Heap → Prop} {d : DefRec} {K : Params → PySem.W.Frag} (hn : l.most = some 63) (hdf : d.params.defaults = [])
    (hY : ∀ (w : World) (h : Heap), YP w h → (K w.params).In h)
    (F : ∀ (w : World) (mg : Str → Option Value) (fa : Addr) (h : Heap), (K w.params).In h → h.Ns mainGlobals mg → mg d.name = some (.ref fa) →
      ∃ fd : FuncData, (∀ (s : Shared) (u : Value), BindsTo s fd ⟨[u], []⟩ [("script", u)]) ∧ ∀ base : Heap, (K w.params).In base → base.Ns mainGlobals mg → FnOk l.prog w (K w.params) mg base CX0 60 fa fd ["script"] (spLaw (K w.params))) :
    PySem.W.WalkO q loose XP YP l.row.toRowW d [] (fun f vs => PySem.call f vs) :=
  L2.walk_of (n := 63) (k := 60) (x := "script") (CX := fun w => CX0) (sp := fun w => spLaw (K w.params)) hn (by decide) hdf ⟨rfl, by decide, by decide, rfl⟩ hY F (fun _ _ a ns hl _ hS => ⟨a, ns, rfl, hS, hl, fun _ => rfl⟩) fun _ _ _ _ _ z => z
end K62
open PySem PySem.W PyProof.Rows
set_option maxRecDepth 100000 in
set_option maxHeartbeats 0 in
theorem PySem.Challenge.cw_fewboxes_k62_no_rows_text_holds : PySem.Challenge.rw_fewboxes_k62_no_rows_text.Holds := by
  w_on; o_law; k_head; (case hw => w_witness2)
  k_fill
  refine K62.walk (l := PySem.Challenge.rw_fewboxes_k62_no_rows_text) rfl rfl (fun w h Y => PySem.W.kIn_of Y) ?F
  case F =>
    intro w mg fa h KX G hmg
    refine' K62.all_mk KX G ?a0 ?l0 ?c0 ?k0 ?a1 ?l1 ?c1 ?k1 ?a2 ?l2 ?c2 ?k2 ?a3 ?l3 ?c3 ?k3 ?a4 ?l4 ?c4 ?k4 ?a5 ?l5 ?c5 ?k5 ?a6 ?l6 ?c6 ?k6 ?a7 ?l7 ?c7 ?k7 ?a8 ?l8 ?c8 ?k8 ?a9 ?l9 ?c9 ?k9 ?a10 ?l10 ?c10 ?k10 ?v0 ?v1 ?z0 ?z1 ?z2 ?z3 ?z4 ?z5 ?z6 ?z7 ?z8 ?z9 ?ea_FewError ?ex_FewError ?ea_NoText ?ex_NoText ?u_NoText_FewError ?ga_NoText ?gx_NoText ?cl_NoText ?sp_NoText ?tk_NoText ?mr_NoText ?k_NoText_NoText ?k_NoText_ValueError ?pa ?pd ?pk1 ?pk2 ?pk3 ?pk4 ?ph1 ?ph2 ?ph3 ?ph4 ?pz hmg
    (case a0 => k_is)
    (case l0 => k_is)
    (case c0 => k_is)
    (case k0 => k_is)
    (case a1 => k_is)
    (case l1 => k_is)
    (case c1 => k_is)
    (case k1 => k_is)
    (case a2 => k_is)
    (case l2 => k_is)
    (case c2 => k_is)
    (case k2 => k_is)
    (case a3 => k_is)
    (case l3 => k_is)
    (case c3 => k_is)
    (case k3 => k_is)
    (case a4 => k_is)
    (case l4 => k_is)
    (case c4 => k_is)
    (case k4 => k_is)
    (case a5 => k_is)
    (case l5 => k_is)
    (case c5 => k_is)
    (case k5 => k_is)
    (case a6 => k_is)
    (case l6 => k_is)
    (case c6 => k_is)
    (case k6 => k_is)
    (case a7 => k_is)
    (case l7 => k_is)
    (case c7 => k_is)
    (case k7 => k_is)
    (case a8 => k_is)
    (case l8 => k_is)
    (case c8 => k_is)
    (case k8 => k_is)
    (case a9 => k_is)
    (case l9 => k_is)
    (case c9 => k_is)
    (case k9 => k_is)
    (case a10 => k_is)
    (case l10 => k_is)
    (case c10 => k_is)
    (case k10 => k_is)
    (case v0 => k_is)
    (case v1 => k_is)
    (case z0 => k_is)
    (case z1 => k_is)
    (case z2 => k_is)
    (case z3 => k_is)
    (case z4 => k_is)
    (case z5 => k_is)
    (case z6 => k_is)
    (case z7 => k_is)
    (case z8 => k_is)
    (case z9 => k_is)
    (case ea_FewError => k_is)
    (case ex_FewError => k_exc)
    (case ea_NoText => k_is)
    (case ex_NoText => k_exc)
    (case u_NoText_FewError => k_is)
    (case ga_NoText => k_is)
    (case gx_NoText => k_is)
    (case cl_NoText => k_is)
    (case sp_NoText => k_is)
    (case tk_NoText => k_is)
    (case mr_NoText => k_is)
    (case k_NoText_NoText => kit_is)
    (case k_NoText_ValueError => kit_is)
    (case pa => k_is)
    (case pd => k_is)
    (case pk1 => k_is)
    (case pk2 => k_is)
    (case pk3 => k_is)
    (case pk4 => k_is)
    (case ph1 => rfl)
    (case ph2 => rfl)
    (case ph3 => rfl)
    (case ph4 => rfl)
    (case pz => rfl)
#print axioms PySem.Challenge.cw_fewboxes_k62_no_rows_text_holds
