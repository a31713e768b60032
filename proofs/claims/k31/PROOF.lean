import PyProof.Rows.All
import Wide.All
import OpenK.AllK
import Wide.FinOn
import Lean
import PyProof.EqAt
import PyProof.EqKinds
import PyProof.NeKinds
import PyProof.TupleCall
import PyProof.WalksEnum
import PyProof.EnumStmt
import PyProof.ZipIter
import PyProof.Draws
import PyProof.EnumMake
import PyProof.WalksMore
import KE.KIntText
import PyProof.CallStr
import PyProof.StrCalls2
import PyProof.StrLawsTight
import PyProof.Rows.StrItems
import KE.KDictList
import PyProof.Rows.SetFrom
import PyProof.Rows.SortWalk
import PySem.Challenge.RW_fewboxes_k31_the_told_row_holds
set_option Elab.async false
set_option linter.all false
set_option maxRecDepth 100000
/-! THE HAND LAYER, for ints, bools, texts, own classes, LISTS and tuples (index, slices, in, append, pop ..), calls, loops. Paste it whole ahead of your own text; what your proof does not reach may be deleted. -/
namespace L2
open PySem PySem.Spec PyProof.Rows

/-- a key: an int or a str -/
noncomputable abbrev Key := Sum Int Str
noncomputable def keyIs : Key → Value → Bool
  | .inl k, v => Value.isInt k v
  | .inr x, v => Value.isStrOf x v
noncomputable def keyH (w : World) : Key → Int
  | .inl k => hashInt k
  | .inr x => hashStr w x
theorem keyIs_shape : ∀ {k : Key} {v : Value}, keyIs k v = true → (∃ i t, k = Sum.inl i ∧ v = Value.int i t) ∨ (∃ x t, k = Sum.inr x ∧ v = Value.str x t)
  | .inl i, v, h => by
    obtain ⟨t, e⟩ := Value.isInt_shape (k := i) (v := v) h
    exact .inl ⟨i, t, rfl, e⟩
  | .inr x, v, h => by
    obtain ⟨t, e⟩ := Value.isStrOf_shape (x := x) (v := v) h
    exact .inr ⟨x, t, rfl, e⟩
theorem keyIs_int (i : Int) (t : Tok) : keyIs (.inl i) (.int i t) = true := by simp [keyIs, Value.isInt]
theorem keyIs_str (x : Str) (t : Tok) : keyIs (.inr x) (.str x t) = true := by simp [keyIs, Value.isStrOf]
theorem key_ll (a b : Int) : decide ((Sum.inl a : Key) = Sum.inl b) = (a == b) := by
  by_cases e : a = b
  · subst e; simp
  · have h : ¬ (Sum.inl a : Key) = Sum.inl b := fun q => e (Sum.inl.inj q)
    rw [decide_eq_false h]
    exact (beq_eq_false_iff_ne.mpr e).symm
theorem key_rr (a b : Str) : decide ((Sum.inr a : Key) = Sum.inr b) = decide (a = b) := by
  by_cases e : a = b
  · subst e; simp
  · have h : ¬ (Sum.inr a : Key) = Sum.inr b := fun q => e (Sum.inr.inj q)
    rw [decide_eq_false h, decide_eq_false e]
theorem key_lr (a : Int) (b : Str) : decide ((Sum.inl a : Key) = Sum.inr b) = false := decide_eq_false (fun q => nomatch q)
theorem key_rl (a : Str) (b : Int) : decide ((Sum.inr a : Key) = Sum.inl b) = false := decide_eq_false (fun q => nomatch q)

noncomputable def mixKind (prog : Program) (w : World) : PySem.KeyKind prog w Key where
  is := keyIs
  hash := keyH w
  inj := fun v a b ha hb => by
    rcases keyIs_shape ha with ⟨i, t, rfl, rfl⟩ | ⟨x, t, rfl, rfl⟩
    · rcases keyIs_shape hb with ⟨j, u, rfl, e⟩ | ⟨y, u, rfl, e⟩
      · injection e with e1 _; rw [e1]
      · exact nomatch e
    · rcases keyIs_shape hb with ⟨j, u, rfl, e⟩ | ⟨y, u, rfl, e⟩
      · exact nomatch e
      · injection e with e1 _; rw [e1]
  byValue := fun k v h => by
    rcases keyIs_shape h with ⟨i, t, rfl, rfl⟩ | ⟨x, t, rfl, rfl⟩ <;> rfl
  pyHash := fun hv h => by
    rcases keyIs_shape hv with ⟨i, t, rfl, rfl⟩ | ⟨x, t, rfl, rfl⟩
    · exact wpAny_pyHash_int h
    · exact wpAny_pyHash_str h
  eqBool := fun hu hv h => by
    rcases keyIs_shape hu with ⟨i, t, rfl, rfl⟩ | ⟨x, t, rfl, rfl⟩
    · rcases keyIs_shape hv with ⟨j, u, rfl, rfl⟩ | ⟨y, u, rfl, rfl⟩
      · rw [key_ll] at h; exact wpAny_eqBool_int h
      · rw [key_lr] at h; exact SeqAt.EqAt.int_str i t y u _ _ _ _ h
    · rcases keyIs_shape hv with ⟨j, u, rfl, rfl⟩ | ⟨y, u, rfl, rfl⟩
      · rw [key_rl] at h; exact SeqAt.EqAt.str_int x t j u _ _ _ _ h
      · rw [key_rr] at h; exact wpAny_eqBool_str h
  «strs» := fun k x t v h => by
    rcases keyIs_shape h with ⟨i, u, rfl, e⟩ | ⟨y, u, rfl, e⟩
    · exact nomatch e
    · injection e with e1 _
      subst e1
      cases v <;> rfl

theorem mixKind_int (prog : Program) (w : World) (i : Int) (t : Tok) : (mixKind prog w).is (.inl i) (.int i t) = true := keyIs_int i t
theorem mixKind_str (prog : Program) (w : World) (x : Str) (t : Tok) : (mixKind prog w).is (.inr x) (.str x t) = true := keyIs_str x t
end L2

namespace L2
open PySem PySem.Spec PyProof.Rows

/-- a value, without the heap -/
inductive V where
  | non | bl (b : Bool) | int (i : Int) | str (x : Str) | byt (b : Array UInt8) | flt (b : UInt64) | ref (a : Addr) | ty (n : String)
  deriving DecidableEq

noncomputable def RelV : V → Value → Prop
  | .non, u => u = Value.none
  | .bl b, u => u = Value.bool b
  | .int i, u => ∃ t, u = Value.int i t
  | .str x, u => ∃ t, u = Value.str x t
  | .byt b, u => ∃ t, u = Value.bytes b t
  | .flt b, u => ∃ t, u = Value.float b t
  | .ref a, u => u = Value.ref a
  | .ty n, u => u = Value.type n

noncomputable abbrev Vals : List V → List Value → Prop := Paired RelV
theorem Vals.length {xs : List V} {us : List Value} (r : Vals xs us) : xs.length = us.length := Paired.length r
theorem Vals.get : ∀ {xs : List V} {us : List Value} {i : Nat} {x : V}, Vals xs us → xs[i]? = some x → ∃ u, us[i]? = some u ∧ RelV x u
  | _, _, _, _, .nil, e => by simp at e
  | _, _, 0, _, .cons r _, e => by simp at e; subst e; exact ⟨_, rfl, r⟩
  | _, _, i + 1, x, .cons _ t, e => by
    obtain ⟨u, h1, h2⟩ := Vals.get (i := i) (x := x) t (by simpa using e)
    exact ⟨u, by simpa using h1, h2⟩
theorem Vals.set {x : V} {u : Value} (r : RelV x u) : ∀ {xs : List V} {us : List Value} (i : Nat), Vals xs us → Vals (xs.set i x) (us.set i u)
  | _, _, _, .nil => .nil
  | _, _, 0, .cons _ t => .cons r t
  | _, _, i + 1, .cons q t => .cons q (Vals.set r i t)
theorem Vals.append : ∀ {xs ys : List V} {us ws : List Value}, Vals xs us → Vals ys ws → Vals (xs ++ ys) (us ++ ws)
  | _, _, _, _, .nil, s => s
  | _, _, _, _, .cons r t, s => .cons r (Vals.append t s)
theorem Vals.take : ∀ {xs : List V} {us : List Value} (n : Nat), Vals xs us → Vals (xs.take n) (us.take n)
  | _, _, 0, _ => .nil
  | _, _, _ + 1, .nil => .nil
  | _, _, n + 1, .cons r t => .cons r (Vals.take n t)
theorem Vals.drop : ∀ {xs : List V} {us : List Value} (n : Nat), Vals xs us → Vals (xs.drop n) (us.drop n)
  | _, _, 0, r => r
  | _, _, _ + 1, .nil => .nil
  | _, _, n + 1, .cons _ t => Vals.drop n t

noncomputable def RelO : Option V → Option Value → Prop
  | some v, some u => RelV v u
  | none, none => True
  | _, _ => False
noncomputable def KV {κ : Type} : List (κ × V) → List (κ × Value) → Prop := Paired fun (p : κ × V) (q : κ × Value) => p.1 = q.1 ∧ RelV p.2 q.2

/-- a key of a dict (00_mix): an int or a text -/
noncomputable def kV : Key → V
  | .inl i => .int i
  | .inr x => .str x

/-- what stands at a tracked address -/
inductive HO where
  /-- a list -/
  | lst (xs : List V)
  /-- a tuple (never changes) -/
  | tup (xs : List V)
  /-- a dict whose keys are ints and texts; one whose keys are tuples of ints and texts (the empty one is both) -/
  | dK (kvs : List (Key × V)) | dT (kvs : List (List Key × V))
  /-- a set of ints: its members, its size -/
  | set (S : Int → Bool) (n : Nat)
  /-- an instance of the class at C, its dict at dx, its attributes -/
  | ins (C dx : Addr) (fs : List (Str × V))
  /-- the dict of the instance at x -/
  | own (x : Addr)
  /-- the dict of an exception -/
  | xd (fs : List (Str × V))
  /-- a bound method, f of x -/
  | met (f x : Addr)
  /-- a range object lo, lo + 1, .. below hi -/
  | rng (lo hi : Int)
  /-- a thing that is known to the object (the script; a dict while a loop walks it): read, never written while it is so -/
  | frz (o : Obj) (u : HO)
  /-- a code object's table -/
  | tbl (ps : Array Value)
  /-- any other thing, by what is true of its one object (a def of one's own: SetO a S n := HO.ext fun h => ..) -/
  | ext (φ : Heap → Prop)

noncomputable abbrev Hp := Addr → Option HO
noncomputable def upd (H : Hp) (a : Addr) (o : HO) : Hp := fun b => if b = a then some o else H b
theorem upd_same {H : Hp} {a : Addr} {o : HO} : upd H a o a = some o := by unfold upd; rw [if_pos rfl]
theorem upd_ne {H : Hp} {a b : Addr} {o : HO} (h : b ≠ a) : upd H a o b = H b := by unfold upd; rw [if_neg h]
/-- two objects of different content stand apart -/
theorem ne_of {H : Hp} {a b : Addr} {o u : HO} (h : H a = some o) (h' : H b = some u) (d : o ≠ u) : a ≠ b := by
  intro e; subst e; rw [h] at h'; exact d (Option.some.inj h')
theorem ne_of_none {H : Hp} {a b : Addr} {o : HO} (h : H a = some o) (h' : H b = none) : a ≠ b := by
  intro e; subst e; rw [h] at h'; cases h'

section
variable (P : Program) (w : World)
noncomputable def ObjOk (H : Hp) (h : Heap) (a : Addr) : HO → Prop
  | .lst xs => xs.length ≤ sizeLine ∧ ∃ (its : List Value) (n : Nat), Vals xs its ∧ h.get? a = some { cls := .type "list", data := .seq its.toArray n }
  | .tup xs => xs.length ≤ sizeLine ∧ ∃ its : List Value, Vals xs its ∧ IsTup h a its.toArray
  | .dK kvs => kvs.length ≤ sizeLine ∧ (a == sysModules) = false ∧ ∃ vs, KV kvs vs ∧ h.DictOf (mixKind P w) a vs
  | .dT kvs => kvs.length ≤ sizeLine ∧ (a == sysModules) = false ∧ ∃ xs : List (List Key × Addr × Value),
      Paired (fun (p : List Key × V) (q : List Key × Addr × Value) => p.1 = q.1 ∧ H q.2.1 = some (.tup (p.1.map kV)) ∧ RelV p.2 q.2.2) kvs xs ∧
      ∃ o es ep, h.get? a = some o ∧ o.ExactDict ∧ o.data = .dict es ep ∧ es.toList = xs.map (entryOfKey (tupleKind (mixKind P w))) ∧ (xs.map (·.1)).Nodup
  | .set S n => h.SetOf (intKind P w) a S n
  | .ins C dx fs => H dx = some (.own a) ∧ fs.length ≤ 1000 ∧ dx ≠ a ∧ h.get? a = some (PySem.W.instObj C dx) ∧
      ∃ mA, h.Ns1 dx mA ∧ (∀ f, RelO (fs.lookup f) (mA f)) ∧ PySem.Within mA (fs.map (·.1))
  | .own _ => ∃ o, h.get? a = some o
  | .xd fs => ∃ mA, h.Ns1 a mA ∧ ∀ f, RelO (fs.lookup f) (mA f)
  | .rng lo hi => ∃ t u v, h.get? a = some { cls := .type "range", data := .fields #[.int lo t, .int hi u, .int 1 v] }
  | .frz o u => h.get? a = some o ∧ ObjOk H h a u
  | .tbl ps => h.get? a = some { cls := .none, data := .fields ps }
  | .met f x => h.get? a = some (PySem.W.methodObj (.ref f) (.ref x))
  | .ext φ => φ h ∧ (∃ o, h.get? a = some o) ∧ ∀ h1 h2 : Heap, φ h1 → (∀ o, h1.get? a = some o → h2.get? a = some o) → φ h2
/-- the abstract heap is held -/
noncomputable def HOk (H : Hp) (h : Heap) : Prop := ∀ a o, H a = some o → ObjOk P w H h a o
end

section
variable {P : Program} {w : World} {H H' : Hp} {h h' : Heap} {a : Addr} {o : HO}
theorem ObjOk.lt (x : ObjOk P w H h a o) : a < h.objs.size := by
  cases o with
  | lst xs => obtain ⟨_, _, _, _, e⟩ := x; exact Heap.lt_size e
  | tup xs => obtain ⟨_, _, _, p⟩ := x; exact p.lt
  | dK kvs => obtain ⟨_, _, _, _, o, _, _, e, _⟩ := x; exact Heap.lt_size e
  | dT kvs => obtain ⟨_, _, _, _, o, _, _, e, _⟩ := x; exact Heap.lt_size e
  | set S n => obtain ⟨o, _, _, _, e, _⟩ := x; exact Heap.lt_size e
  | ins C dx fs => obtain ⟨_, _, _, e, _⟩ := x; exact Heap.lt_size e
  | own y => obtain ⟨_, e⟩ := x; exact Heap.lt_size e
  | xd fs => obtain ⟨_, ⟨_, _, _, e, _⟩, _⟩ := x; exact Heap.lt_size e
  | rng lo hi => obtain ⟨_, _, _, e⟩ := x; exact Heap.lt_size e
  | frz ob u => obtain ⟨e, _⟩ := x; exact Heap.lt_size e
  | tbl ps => exact Heap.lt_size (show h.get? a = some _ from x)
  | met f y => exact Heap.lt_size (show h.get? a = some _ from x)
  | ext φ => obtain ⟨_, ⟨_, e⟩, _⟩ := x; exact Heap.lt_size e
theorem Paired.mapP {α β : Type} {F G : α → β → Prop} : ∀ {l₁ : List α} {l₂ : List β}, Paired F l₁ l₂ → (∀ a b, F a b → G a b) → Paired G l₁ l₂
  | _, _, .nil, _ => .nil
  | _, _, .cons r t, f => .cons (f _ _ r) (Paired.mapP t f)
/-- what an object's description leans on: its own object, its own dict, the tuples -/
theorem ObjOk.stay (x : ObjOk P w H h a o) (k : ∀ b u, (b = a ∨ H b = some (.own a)) → h.get? b = some u → h'.get? b = some u)
    (ho : ∀ b, H b = some (.own a) → H' b = some (.own a)) (ht : ∀ b xs, H b = some (.tup xs) → H' b = some (.tup xs)) : ObjOk P w H' h' a o := by
  induction o with
  | lst xs => obtain ⟨z, its, n, r, e⟩ := x; exact ⟨z, its, n, r, k _ _ (.inl rfl) e⟩
  | tup xs => obtain ⟨z, its, r, ob, e, c⟩ := x; exact ⟨z, its, r, ob, k _ _ (.inl rfl) e, c⟩
  | dK kvs => obtain ⟨z, y, vs, r, ob, es, ep, e, c⟩ := x; exact ⟨z, y, vs, r, ob, es, ep, k _ _ (.inl rfl) e, c⟩
  | dT kvs =>
    obtain ⟨z, y, xs, r, ob, es, ep, e, c⟩ := x
    exact ⟨z, y, xs, Paired.mapP r fun p q z => ⟨z.1, ht _ _ z.2.1, z.2.2⟩, ob, es, ep, k _ _ (.inl rfl) e, c⟩
  | set S n => obtain ⟨ob, es, ep, t, e, c⟩ := x; exact ⟨ob, es, ep, t, k _ _ (.inl rfl) e, c⟩
  | ins C dx fs =>
    obtain ⟨d, z, ne, e, mA, ⟨od, es, ep, e2, c⟩, r⟩ := x
    exact ⟨ho _ d, z, ne, k _ _ (.inl rfl) e, mA, ⟨od, es, ep, k _ _ (.inr d) e2, c⟩, r⟩
  | own y => obtain ⟨ob, e⟩ := x; exact ⟨ob, k _ _ (.inl rfl) e⟩
  | xd fs => obtain ⟨mA, ⟨od, es, ep, e, c⟩, r⟩ := x; exact ⟨mA, ⟨od, es, ep, k _ _ (.inl rfl) e, c⟩, r⟩
  | rng lo hi => obtain ⟨t, u, v, e⟩ := x; exact ⟨t, u, v, k _ _ (.inl rfl) e⟩
  | frz ob u ih => obtain ⟨e, q⟩ := x; exact ⟨k _ _ (.inl rfl) e, ih q⟩
  | tbl ps =>
    have e : h.get? a = some { cls := .none, data := .fields ps } := x
    show h'.get? a = some { cls := .none, data := .fields ps }
    exact k a _ (.inl rfl) e
  | met f y =>
    have e : h.get? a = some (PySem.W.methodObj (.ref f) (.ref y)) := x
    show h'.get? a = some (PySem.W.methodObj (.ref f) (.ref y))
    exact k a _ (.inl rfl) e
  | ext φ => obtain ⟨p, ⟨o, e⟩, st⟩ := x; exact ⟨st _ _ p fun o q => k _ _ (.inl rfl) q, ⟨o, k _ _ (.inl rfl) e⟩, st⟩
theorem HOk.lt (x : HOk P w H h) (e : H a = some o) : a < h.objs.size := (x a o e).lt
theorem HOk.fresh (x : HOk P w H h) (e : h.objs.size ≤ a) : H a = none := by
  cases q : H a with
  | none => rfl
  | some u => exact absurd (Nat.lt_of_lt_of_le (x.lt q) e) (Nat.lt_irrefl _)
/-- every object of the heap is kept -/
theorem HOk.kept (x : HOk P w H h) (k : ∀ b u, h.get? b = some u → h'.get? b = some u) : HOk P w H h' := fun a o e =>
  (x a o e).stay (fun b u _ q => k b u q) (fun _ q => q) fun _ _ q => q
/-- a new object is laid and tracked -/
theorem HOk.laid (x : HOk P w H h) (k : ∀ b u, h.get? b = some u → h'.get? b = some u) (hp : h.objs.size ≤ a) (new : ObjOk P w (upd H a o) h' a o) : HOk P w (upd H a o) h' := fun b u e => by
  have hn := x.fresh hp
  by_cases hb : b = a
  · subst hb; rw [upd_same] at e; cases e; exact new
  · rw [upd_ne hb] at e
    exact (x b u e).stay (fun c v _ q => k c v q) (fun c q => by rw [upd_ne (ne_of_none q hn)]; exact q) fun c xs q => by rw [upd_ne (ne_of_none q hn)]; exact q
end

/-- what may be read as u: it is u, or a known u -/
noncomputable def Rd (H : Hp) (a : Addr) (u : HO) : Prop := H a = some u ∨ ∃ o, H a = some (.frz o u)
theorem Rd.of {H : Hp} {a : Addr} {u : HO} (h : H a = some u) : Rd H a u := .inl h
theorem Rd.ok {P : Program} {w : World} {H : Hp} {h : Heap} {a : Addr} {u : HO} (r : Rd H a u) (x : HOk P w H h) : ObjOk P w H h a u := by
  rcases r with r | ⟨o, r⟩
  · exact x a u r
  · obtain ⟨_, q⟩ := x a _ r
    exact q
/-- what may be written -/
noncomputable def Mut : Option HO → Prop
  | some (.lst _) => True
  | some (.dK _) => True
  | some (.dT _) => True
  | some (.set _ _) => True
  | some (.ins _ _ _) => True
  | some (.ext _) => True
  | _ => False
section
variable {P : Program} {w : World} {H : Hp} {h h' : Heap} {x e : Addr} {o' : HO}
/-- the object at e is changed: x itself, or the dict of the instance x -/
theorem HOk.write (ok : HOk P w H h) (mu : Mut (H x)) (he : e = x ∨ H e = some (.own x)) (k : ∀ b u, b ≠ e → h.get? b = some u → h'.get? b = some u) (heo : ∃ u, h'.get? e = some u)
    (new : ObjOk P w (upd H x o') h' x o') : HOk P w (upd H x o') h' := fun b u q => by
  have nown : ∀ c y, H c = some (.own y) → c ≠ x := fun c y r z => by subst z; rw [r] at mu; exact mu
  have ntup : ∀ c xs, H c = some (.tup xs) → c ≠ x := fun c xs r z => by subst z; rw [r] at mu; exact mu
  by_cases hb : b = x
  · subst hb; rw [upd_same] at q; cases q; exact new
  · rw [upd_ne hb] at q
    by_cases hbe : b = e
    · have q' : H b = some (.own x) := by
        rcases he with z | z
        · exact absurd (hbe.trans z) hb
        · rw [hbe]; exact z
      rw [q] at q'; cases q'
      obtain ⟨v, hv⟩ := heo
      exact ⟨v, by rw [hbe]; exact hv⟩
    · refine (ok b u q).stay (fun c v hc r => k c v ?_ r) (fun c r => by rw [upd_ne (nown c b r)]; exact r) fun c xs r => by rw [upd_ne (ntup c xs r)]; exact r
      rcases hc with rfl | hc
      · exact hbe
      · rintro rfl
        rcases he with z | z
        · exact nown c b hc z
        · rw [hc] at z; cases z; exact hb rfl
end

/-! ### kept unless tracked; of the frames at fs (the callers') the slots may change (an exception that passes writes there); of the records at ex (iterators) nothing is said -/
structure Un (fs ex : List Addr) (H H' : Hp) (h h' : Heap) : Prop where
  keep : ∀ b o, h.get? b = some o → H b = none → b ∉ fs → b ∉ ex → h'.get? b = some o
  slot : ∀ b o, h.get? b = some o → H b = none → b ∈ fs → b ∉ ex → ∃ sl, h'.get? b = some { o with slots := sl }
  free : ∀ b o, h.get? b = some o → H b = none → b ∉ ex → H' b = none
  there : ∀ b o, h.get? b = some o → b ∉ ex → ∃ o', h'.get? b = some o'
  tups : ∀ b xs, H b = some (.tup xs) → H' b = some (.tup xs)
  frzs : ∀ b o u, H b = some (.frz o u) → H' b = some (.frz o u)
  tbls : ∀ b ps, H b = some (.tbl ps) → ∃ more, H' b = some (.tbl (ps ++ more))
section
variable {fs fs' ex ex' : List Addr} {H H1 H2 : Hp} {h h1 h2 h' : Heap} {a x e : Addr} {o : HO}
theorem Un.any (u : Un fs ex H H1 h h1) {b : Addr} {ob : Obj} (q : h.get? b = some ob) (n : H b = none) (hx : b ∉ ex) : ∃ sl, h1.get? b = some { ob with slots := sl } := by
  by_cases hb : b ∈ fs
  · exact u.slot b ob q n hb hx
  · exact ⟨ob.slots, u.keep b ob q n hb hx⟩
theorem Un.trans (a : Un fs ex H H1 h h1) (b : Un fs ex H1 H2 h1 h2) : Un fs ex H H2 h h2 where
  keep := fun c ob q n hc hx => b.keep c ob (a.keep c ob q n hc hx) (a.free c ob q n hx) hc hx
  slot := fun c ob q n hc hx => by
    obtain ⟨sl, e1⟩ := a.slot c ob q n hc hx
    obtain ⟨sl', e2⟩ := b.slot c _ e1 (a.free c ob q n hx) hc hx
    exact ⟨sl', e2⟩
  free := fun c ob q n hx => by
    obtain ⟨o', e1⟩ := a.there c ob q hx
    exact b.free c o' e1 (a.free c ob q n hx) hx
  there := fun c ob q hx => by
    obtain ⟨o', e1⟩ := a.there c ob q hx
    exact b.there c o' e1 hx
  tups := fun c xs q => b.tups c xs (a.tups c xs q)
  frzs := fun c ob xs q => b.frzs c ob xs (a.frzs c ob xs q)
  tbls := fun c ps q => by
    obtain ⟨m1, e1⟩ := a.tbls c ps q
    obtain ⟨m2, e2⟩ := b.tbls c _ e1
    exact ⟨m1 ++ m2, by rw [e2, Array.append_assoc]⟩
theorem Un.kept (k : ∀ b u, h.get? b = some u → h'.get? b = some u) : Un fs ex H H h h' :=
  ⟨fun b ob q _ _ _ => k b ob q, fun b ob q _ _ _ => ⟨ob.slots, k b ob q⟩, fun _ _ _ n _ => n, fun b ob q _ => ⟨ob, k b ob q⟩, fun _ _ q => q, fun _ _ _ q => q, fun _ ps q => ⟨#[], by rw [q]; simp⟩⟩
theorem Un.refl : Un fs ex H H h h := Un.kept fun _ _ q => q
theorem Un.laid (k : ∀ b u, h.get? b = some u → h'.get? b = some u) (hp : h.objs.size ≤ a) (hn : H a = none) : Un fs ex H (upd H a o) h h' where
  keep := fun b u q _ _ _ => k b u q
  slot := fun b u q _ _ _ => ⟨u.slots, k b u q⟩
  free := fun b u q n _ => by rw [upd_ne (Nat.ne_of_lt (Nat.lt_of_lt_of_le (Heap.lt_size q) hp))]; exact n
  there := fun b u q _ => ⟨u, k b u q⟩
  tups := fun b xs q => by rw [upd_ne (ne_of_none q hn)]; exact q
  frzs := fun b u xs q => by rw [upd_ne (ne_of_none q hn)]; exact q
  tbls := fun b ps q => ⟨#[], by rw [upd_ne (ne_of_none q hn), q]; simp⟩
theorem Un.write (mu : Mut (H x)) (he : e = x ∨ H e = some (.own x)) (k : ∀ b u, b ≠ e → h.get? b = some u → h'.get? b = some u) (heo : ∃ u, h'.get? e = some u) : Un fs ex H (upd H x o) h h' := by
  have hx : ∀ b, H b = none → b ≠ x := fun b n z => by subst z; rw [n] at mu; exact mu
  have hb : ∀ b, H b = none → b ≠ e := fun b n z => by
    subst z
    rcases he with r | r
    · exact hx b n r
    · rw [n] at r; cases r
  have hm : ∀ b u, H b = some u → ¬ Mut (some u) → b ≠ x := fun b u q nm z => by subst z; rw [q] at mu; exact nm mu
  refine ⟨fun b u q n _ _ => k b u (hb b n) q, fun b u q n _ _ => ⟨u.slots, k b u (hb b n) q⟩, fun b u q n _ => by rw [upd_ne (hx b n)]; exact n, fun b u q _ => ?_,
    fun b xs q => by rw [upd_ne (hm b _ q fun z => z)]; exact q, fun b u xs q => by rw [upd_ne (hm b _ q fun z => z)]; exact q, fun b ps q => ⟨#[], by rw [upd_ne (hm b _ q fun z => z), q]; simp⟩⟩
  by_cases hbe : b = e
  · subst hbe; exact heo
  · exact ⟨u, k b u hbe q⟩
theorem Un.mono (u : Un fs ex H H1 h h1) (hs : ∀ b ∈ fs, b ∈ fs') (hx : ∀ b ∈ ex, b ∈ ex') : Un fs' ex' H H1 h h1 :=
  ⟨fun b ob q n hb he => u.keep b ob q n (fun z => hb (hs b z)) fun z => he (hx b z), fun _ _ q n _ he => u.any q n fun z => he (hx _ z), fun b ob q n he => u.free b ob q n fun z => he (hx b z), fun b ob q he => u.there b ob q fun z => he (hx b z), u.tups, u.frzs, u.tbls⟩
end

/-! ### the heap without what is tracked -/
noncomputable def trk (h : Heap) (H : Hp) : List Addr := (List.range h.objs.size).filter fun a => (H a).isSome
noncomputable def hidT (h : Heap) (H : Hp) : Heap := PySem.W.hideAll h (trk h H)
theorem hidT_size (h : Heap) (H : Hp) : (hidT h H).objs.size = h.objs.size := PySem.W.hideAll_size _ _
theorem hidT_get {h : Heap} {H : Hp} {b : Addr} {o : Obj} (e : h.get? b = some o) (n : H b = none) : (hidT h H).get? b = some o :=
  PySem.W.hideAll_get _ e fun hm => by
    have q : (H b).isSome = true := (List.mem_filter.mp hm).2
    rw [n] at q; simp at q
theorem of_hidT {h : Heap} {H : Hp} {b : Addr} {o : Obj} (e : (hidT h H).get? b = some o) : h.get? b = some o ∧ H b = none := by
  have e' : h.get? b = some o := PySem.W.of_hideAll (trk h H) e
  refine ⟨e', ?_⟩
  cases q : H b with
  | none => rfl
  | some x =>
    have hm : b ∈ trk h H := List.mem_filter.mpr ⟨List.mem_range.mpr (Heap.lt_size e'), by simp [q]⟩
    have z : (hidT h H).get? b = none := PySem.W.hideAll_none (trk h H) hm
    rw [z] at e; cases e

/-! ### OpenK's ledger, filled with every new object but one -/
noncomputable def allNews (g h : Heap) (L : Addr) : List (Addr × Obj) := (List.range h.objs.size).filterMap fun a => if a = L ∨ (g.get? a).isSome = true then none else (h.get? a).map fun o => (a, o)
noncomputable def rest (g h : Heap) (L d : Addr) : List (Addr × Obj) := (allNews g h L).filter fun p => decide (p.1 ≠ d)
end L2

namespace L2
open PySem PySem.Spec PyProof.Rows

/-- the module's facts, over the base: the heap at the law's entry without what is tracked there -/
structure Mod (K : PySem.W.Frag) (mg : Str → Option Value) (base : Heap) : Prop where
  kin : K.In base
  glob : base.Ns mainGlobals mg
  blt : ∃ mb, base.Ns builtinsNs mb ∧ ∀ x : Str, x ≠ "__name__" → mb x = bootBuiltins x
  nolimit : base.NoLimit

/-- the context: a def's body (or a comprehension's block) running. base: fixed through the whole law; s₀, H₀: the entry; outer: the frames whose slots others may change (a def's callers); stack: all frames that run;
   ex: iterators that were made ahead of the entry and are walked here (a comprehension's); fn: the names whose cells were made at the entry (a def: all; a comprehension's block: its own); calm: not within an except suite; pn: pins that every state bears; xe: what is wanted of an exception that leaves the code -/
structure Cx where
  prog : Program
  w : World
  K : PySem.W.Frag
  mg : Str → Option Value
  base : Heap
  A : Around
  N : List Str
  s₀ : Shared
  H₀ : Hp
  env : Env
  outer : List Env
  stack : List Env
  ex : List Addr
  fn : Str → Bool
  calm : Bool
  pn : List (Addr × Obj)
  xe : Value → Shared → Prop
/-- the callers' frames -/
noncomputable def frs (l : List Env) : List Addr := l.filterMap (·.frame)
noncomputable abbrev Cx.fs (X : Cx) : List Addr := frs X.outer

noncomputable def Vis (sc : Scope) (x : Str) : Prop := sc.names.lookup x = some .local ∨ sc.names.lookup x = some .cell ∨ sc.names.lookup x = some .free
noncomputable def Loc (sc : Scope) (x : Str) : Prop := sc.names.lookup x = some .local ∨ sc.names.lookup x = some .cell
noncomputable def Look (env : Env) (h : Heap) (m : Str → Option Value) (x : Str) (u : Value) : Prop :=
  (env.kindOf x = some .local ∧ m x = some u) ∨ ((env.kindOf x = some .cell ∨ env.kindOf x = some .free) ∧ ∃ c, env.cells.lookup x = some c ∧ h.IsCell c (some u))

structure Cx.Ok (X : Cx) : Prop where
  mod : Mod X.K X.mg X.base
  kind : X.env.scope.kind = .function
  glob : X.env.globals = mainGlobals
  blt : X.env.builtins = builtinsNs
  above : X.s₀.heap.objs.size ≤ X.env.locals
  inj : ∀ x y c, X.env.cells.lookup x = some c → X.env.cells.lookup y = some c → x = y
  has : ∀ x, (X.env.kindOf x = some .cell ∨ X.env.kindOf x = some .free) → ∃ c, X.env.cells.lookup x = some c
  cab : ∀ x c, X.fn x = true → X.env.cells.lookup x = some c → X.s₀.heap.objs.size ≤ c
  hd : X.calm = true → X.A.handled = none
  frames : X.A.frames = some X.stack
  stk : X.stack = X.outer ∨ (X.stack = X.env :: X.outer ∧ X.env.frame = some X.env.locals)
  exf : ∀ b ∈ X.ex, b ≠ X.env.locals ∧ ∀ x c, X.env.cells.lookup x = some c → c ≠ b
  bs : ∀ b o, X.base.get? b = some o → X.s₀.heap.get? b = some o ∧ X.H₀ b = none
  bsz : X.base.objs.size ≤ X.s₀.heap.objs.size
  noex : ∀ b o, X.base.get? b = some o → b ∉ X.ex
  exfs : ∀ b ∈ X.ex, b ∉ X.fs
  funs : X.s₀.heap.FunFrames X.base X.outer
  frf : ∀ b ∈ X.fs, X.H₀ b = none

structure Inv (X : Cx) (pins : List (Addr × Obj)) (σ : List (Option V)) (H : Hp) (s : Shared) : Prop where
  ok : X.Ok
  os : s.os = X.s₀.os
  bare : AllBare s.gens
  base : Un X.fs X.ex X.H₀ H X.s₀.heap s.heap
  loc : ∃ m, s.heap.Ns X.env.locals m ∧ ∀ (i : Nat) (x : Str) (v : V), X.N[i]? = some x → σ[i]? = some (some v) → Vis X.env.scope x → ∃ u, RelV v u ∧ Look X.env s.heap m x u
  cell : ∀ x c, X.env.cells.lookup x = some c → ∃ v, s.heap.IsCell c v
  free : H X.env.locals = none
  freeC : ∀ x c, X.env.cells.lookup x = some c → H c = none
  pin : ∀ p ∈ X.pn ++ pins, s.heap.get? p.1 = some p.2 ∧ H p.1 = none ∧ p.1 ≠ X.env.locals ∧ p.1 ∉ X.fs ∧ ∀ v, p.2.data ≠ .cell v
  hok : HOk X.prog X.w H s.heap
  len : σ.length = X.N.length

section
variable {X : Cx} {pins : List (Addr × Obj)} {σ : List (Option V)} {H H' : Hp} {s : Shared} {h' : Heap}

theorem Cx.Ok.nofr (ok : X.Ok) {b : Addr} {o : Obj} (e : X.base.get? b = some o) : b ∉ X.fs := fun hb => by
  have := (ok.funs.mem hb).1
  rw [e] at this; cases this
theorem Inv.bs (I : Inv X pins σ H s) : ∀ b o, X.base.get? b = some o → s.heap.get? b = some o ∧ H b = none := fun b o e =>
  ⟨I.base.keep b o (I.ok.bs b o e).1 (I.ok.bs b o e).2 (I.ok.nofr e) (I.ok.noex b o e), I.base.free b o (I.ok.bs b o e).1 (I.ok.bs b o e).2 (I.ok.noex b o e)⟩
theorem Inv.bk (I : Inv X pins σ H s) : ∀ b o, X.base.get? b = some o → s.heap.get? b = some o := fun b o e => (I.bs b o e).1
theorem Inv.mod (I : Inv X pins σ H s) : Mod X.K X.mg X.base := I.ok.mod
theorem Inv.kIn (I : Inv X pins σ H s) : X.K.In s.heap := I.ok.mod.kin.keeps I.bk
theorem Inv.nolimit (I : Inv X pins σ H s) : s.heap.NoLimit := I.ok.mod.nolimit.keeps I.bk
/-- the frame over the base: for OpenK's rules (K.In X.base is I.mod.kin) -/
theorem Inv.fr (I : Inv X pins σ H s) : ∃ m, Fr X.base X.env.locals s.heap m :=
  let ⟨m, hn, _⟩ := I.loc
  ⟨m, hn, I.bk, Nat.le_trans I.ok.bsz I.ok.above⟩
theorem Inv.lt (I : Inv X pins σ H s) : X.env.locals < s.heap.objs.size := let ⟨_, hn, _⟩ := I.loc; hn.lt
theorem Inv.sz (I : Inv X pins σ H s) : X.s₀.heap.objs.size ≤ s.heap.objs.size := Nat.le_trans I.ok.above (Nat.le_of_lt I.lt)
theorem Inv.nofs (I : Inv X pins σ H s) {a : Addr} (h : s.heap.objs.size ≤ a) : a ∉ X.fs := fun hb => by
  obtain ⟨_, o, ho, _⟩ := I.ok.funs.mem hb
  exact absurd (Nat.lt_of_lt_of_le (Heap.lt_size ho) (Nat.le_trans I.sz h)) (Nat.lt_irrefl _)
theorem Inv.cne (I : Inv X pins σ H s) : ∀ x c, X.env.cells.lookup x = some c → c ≠ X.env.locals := fun x c e z => by
  obtain ⟨v, o, ho, hd⟩ := I.cell x c e
  obtain ⟨m, ⟨o', es, ep, ho', hd', _⟩, _⟩ := I.loc
  rw [z, ho'] at ho; cases ho; rw [hd'] at hd; cases hd
theorem Inv.funs (I : Inv X pins σ H s) : s.heap.FunFrames X.base X.outer := by
  have all : ∀ (l : List Env), (∀ b ∈ frs l, b ∈ X.fs) → X.s₀.heap.FunFrames X.base l → s.heap.FunFrames X.base l := by
    intro l
    induction l with
    | nil => intro _ _; trivial
    | cons env r ih =>
      intro hs hl
      obtain ⟨hk, ⟨L, o, hf, hn, ho, hd⟩, hr⟩ := hl
      have hL : L ∈ X.fs := hs L (by unfold frs; rw [List.filterMap_cons, hf]; exact List.mem_cons_self)
      obtain ⟨sl, e⟩ := I.base.slot L o ho (I.ok.frf L hL) hL fun z => I.ok.exfs L z hL
      exact ⟨hk, ⟨L, _, hf, hn, e, hd⟩, ih (fun b hb => hs b (by unfold frs; rw [List.filterMap_cons, hf]; exact List.mem_cons_of_mem _ hb)) hr⟩
  exact all X.outer (fun _ hb => hb) I.ok.funs

/-- the frames that run, for a call -/
theorem Inv.stack (I : Inv X pins σ H s) : s.heap.FunFrames X.base X.stack := by
  rcases I.ok.stk with e | ⟨e, hf⟩
  · rw [e]; exact I.funs
  · rw [e]
    obtain ⟨m, hn, _⟩ := I.loc
    refine .cons (by rw [I.ok.kind]; decide) hf hn ?_ I.funs
    exact Heap.get?_none_of_le (Nat.le_trans I.ok.bsz I.ok.above)
theorem Inv.stkSub (I : Inv X pins σ H s) : ∀ b ∈ frs X.stack, b ∈ X.env.locals :: X.fs := fun b hb => by
  rcases I.ok.stk with e | ⟨e, hf⟩
  · rw [e] at hb; exact List.mem_cons_of_mem _ hb
  · rw [e] at hb
    unfold frs at hb
    rw [List.filterMap_cons, hf] at hb
    exact hb
theorem Inv.stkFree (I : Inv X pins σ H s) : ∀ b ∈ frs X.stack, H b = none := fun b hb => by
  rcases List.mem_cons.mp (I.stkSub b hb) with e | hb
  · rw [e]; exact I.free
  · obtain ⟨_, o, ho, _⟩ := I.ok.funs.mem hb
    exact I.base.free b o ho (I.ok.frf b hb) fun z => I.ok.exfs b z hb

/-- THE STEP: the untracked objects but the frame and the records at ch are kept (the callers' frames up to slots), the frame's map is kept, the new abstract heap is held -/
theorem Inv.step {g' : Array GenState} {t' : Nat} {d' : Drawn} {ch : List Addr} (I : Inv X pins σ H s)
    (hch : ∀ b ∈ ch, (b ∈ X.ex ∨ X.s₀.heap.objs.size ≤ b) ∧ b ≠ X.env.locals ∧ (∀ x c, X.env.cells.lookup x = some c → c ≠ b) ∧ ∀ p ∈ X.pn ++ pins, p.1 ≠ b)
    (keep : ∀ b o, b ≠ X.env.locals → b ∉ X.fs → b ∉ ch → s.heap.get? b = some o → H b = none → h'.get? b = some o)
    (slot : ∀ b o, b ≠ X.env.locals → b ∈ X.fs → b ∉ ch → s.heap.get? b = some o → H b = none → ∃ sl, h'.get? b = some { o with slots := sl }) (free : ∀ b o, b ∉ ch → s.heap.get? b = some o → H b = none → H' b = none)
    (there : ∀ b o, b ∉ ch → s.heap.get? b = some o → ∃ o', h'.get? b = some o')
    (tups : ∀ b xs, H b = some (.tup xs) → H' b = some (.tup xs)) (frzs : ∀ b o u, H b = some (.frz o u) → H' b = some (.frz o u)) (tbls : ∀ b ps, H b = some (.tbl ps) → ∃ more, H' b = some (.tbl (ps ++ more)))
    (ns : ∀ m, s.heap.Ns X.env.locals m → h'.Ns X.env.locals m) (hok : HOk X.prog X.w H' h') (hg : AllBare g') :
    Inv X pins σ H' { s with heap := h', gens := g', drawn := d', toks := t' } := by
  have neL : ∀ b o, X.s₀.heap.get? b = some o → b ≠ X.env.locals := fun b o e => Nat.ne_of_lt (Nat.lt_of_lt_of_le (Heap.lt_size e) I.ok.above)
  have neC : ∀ b o, X.s₀.heap.get? b = some o → b ∉ X.ex → b ∉ ch := fun b o e hx hb => by
    rcases (hch b hb).1 with z | z
    · exact hx z
    · exact absurd (Nat.lt_of_lt_of_le (Heap.lt_size e) z) (Nat.lt_irrefl _)
  have cellK : ∀ x c, X.env.cells.lookup x = some c → ∀ v, s.heap.IsCell c v → h'.IsCell c v := fun x c e v ⟨o, ho, hd⟩ => by
    have nch : c ∉ ch := fun z => (hch c z).2.2.1 x c e rfl
    by_cases hc : c ∈ X.fs
    · obtain ⟨sl, q⟩ := slot c o (I.cne x c e) hc nch ho (I.freeC x c e)
      exact ⟨_, q, hd⟩
    · exact ⟨o, keep c o (I.cne x c e) hc nch ho (I.freeC x c e), hd⟩
  refine ⟨I.ok, I.os, hg, ⟨fun b o e n hb hx => ?_, fun b o e n hb hx => ?_, fun b o e n hx => ?_, fun b o e hx => ?_, fun b xs e => tups b xs (I.base.tups b xs e), fun b o xs e => frzs b o xs (I.base.frzs b o xs e), fun b ps e => ?_⟩, ?_, fun x c e => ?_, ?_, fun x c e => ?_, fun p hp => ?_, hok, I.len⟩
  · exact keep b o (neL b o e) hb (neC b o e hx) (I.base.keep b o e n hb hx) (I.base.free b o e n hx)
  · obtain ⟨sl, e1⟩ := I.base.slot b o e n hb hx
    obtain ⟨sl', e2⟩ := slot b _ (neL b o e) hb (neC b o e hx) e1 (I.base.free b o e n hx)
    exact ⟨sl', e2⟩
  · obtain ⟨o', e1⟩ := I.base.there b o e hx
    exact free b o' (neC b o e hx) e1 (I.base.free b o e n hx)
  · obtain ⟨o', e1⟩ := I.base.there b o e hx
    exact there b o' (neC b o e hx) e1
  · obtain ⟨m1, e1⟩ := I.base.tbls b ps e
    obtain ⟨m2, e2⟩ := tbls b _ e1
    exact ⟨m1 ++ m2, by rw [e2, Array.append_assoc]⟩
  · obtain ⟨m, hn, hl⟩ := I.loc
    refine ⟨m, ns m hn, fun i x v e1 e2 e3 => ?_⟩
    obtain ⟨u, r, l⟩ := hl i x v e1 e2 e3
    refine ⟨u, r, ?_⟩
    rcases l with l | ⟨k, c, e, z⟩
    · exact .inl l
    · exact .inr ⟨k, c, e, cellK x c e _ z⟩
  · obtain ⟨v, z⟩ := I.cell x c e
    exact ⟨v, cellK x c e v z⟩
  · obtain ⟨m, ⟨o, _, _, ho, _⟩, _⟩ := I.loc
    exact free _ o (fun z => (hch _ z).2.1 rfl) ho I.free
  · obtain ⟨v, o, ho, hd⟩ := I.cell x c e
    exact free c o (fun z => (hch c z).2.2.1 x c e rfl) ho (I.freeC x c e)
  · obtain ⟨e, n, ne, nf, d⟩ := I.pin p hp
    have nch : p.1 ∉ ch := fun z => (hch p.1 z).2.2.2 p hp rfl
    exact ⟨keep p.1 p.2 ne nf nch e n, free p.1 p.2 nch e n, ne, nf, d⟩
/-- .. where the frame's own object is kept too -/
theorem Inv.un {t' : Nat} (I : Inv X pins σ H s) (u : Un X.fs [] H H' s.heap h') (hok : HOk X.prog X.w H' h') : Inv X pins σ H' { s with heap := h', toks := t' } := by
  obtain ⟨m, ⟨o, es, ep, ho, r⟩, _⟩ := id I.loc
  obtain ⟨sl, hL⟩ := u.any ho I.free (by simp)
  exact I.step (g' := s.gens) (d' := s.drawn) (ch := []) (fun _ z => nomatch z) (fun b o _ hb _ e n => u.keep b o e n hb (by simp)) (fun b o _ hb _ e n => u.slot b o e n hb (by simp)) (fun b o _ e n => u.free b o e n (by simp)) (fun b o _ e => u.there b o e (by simp)) u.tups u.frzs u.tbls (fun m' hm => by
    obtain ⟨o', es', ep', ho', r'⟩ := hm
    rw [ho] at ho'; cases ho'
    exact ⟨_, es', ep', hL, r'⟩) hok I.bare
/-- behind a call (or a comprehension's block): the slots of this frame may have changed too, the records at ch may have turned -/
theorem Inv.call {g' : Array GenState} {t' : Nat} {d' : Drawn} {ch : List Addr} (I : Inv X pins σ H s) (u : Un (frs X.stack) ch H H' s.heap h') (hok : HOk X.prog X.w H' h') (hg : AllBare g')
    (hch : ∀ b ∈ ch, (b ∈ X.ex ∨ X.s₀.heap.objs.size ≤ b) ∧ b ≠ X.env.locals ∧ (∀ x c, X.env.cells.lookup x = some c → c ≠ b) ∧ ∀ p ∈ X.pn ++ pins, p.1 ≠ b) :
    Inv X pins σ H' { s with heap := h', gens := g', drawn := d', toks := t' } := by
  obtain ⟨m, ⟨o, es, ep, ho, r⟩, _⟩ := id I.loc
  obtain ⟨sl, hL⟩ := u.any ho I.free fun z => (hch _ z).2.1 rfl
  exact I.step (ch := ch) hch (fun b o hL hb hc e n => u.keep b o e n (fun z => (List.mem_cons.mp (I.stkSub b z)).elim hL hb) hc) (fun b o _ _ hc e n => u.any e n hc) (fun b o hc e n => u.free b o e n hc) (fun b o hc e => u.there b o e hc) u.tups u.frzs u.tbls (fun m' hm => by
    obtain ⟨o', es', ep', ho', r'⟩ := hm
    rw [ho] at ho'; cases ho'
    exact ⟨_, es', ep', hL, r'⟩) hok hg
/-- an untracked record of ours (an iterator) has turned -/
theorem Inv.turned {t' : Nat} {it : Addr} (I : Inv X pins σ H s) (k : ∀ b o, b ≠ it → s.heap.get? b = some o → h'.get? b = some o) (hn : H it = none) (hL : it ≠ X.env.locals)
    (h1 : it ∈ X.ex ∨ X.s₀.heap.objs.size ≤ it) (h2 : ∀ x c, X.env.cells.lookup x = some c → c ≠ it) (h3 : ∀ p ∈ X.pn ++ pins, p.1 ≠ it) : Inv X pins σ H { s with heap := h', toks := t' } := by
  have nit : ∀ b u, H b = some u → b ≠ it := fun b u e z => by rw [z, hn] at e; cases e
  refine I.step (g' := s.gens) (d' := s.drawn) (ch := [it]) (fun b hb => ?_) (fun b o _ _ hc e _ => k b o (fun z => hc (by simp [z])) e) (fun b o _ _ hc e _ => ⟨o.slots, k b o (fun z => hc (by simp [z])) e⟩) (fun _ _ _ _ n => n)
    (fun b o hc e => ⟨o, k b o (fun z => hc (by simp [z])) e⟩) (fun _ _ e => e) (fun _ _ _ e => e) (fun b ps e => ⟨#[], by rw [e]; simp⟩) (fun m hm => ?_) (fun b u e => ?_) I.bare
  · have e : b = it := by simpa using hb
    subst e
    exact ⟨h1, hL, h2, h3⟩
  · obtain ⟨o, es, ep, ho, r⟩ := hm
    exact ⟨o, es, ep, k _ o (Ne.symm hL) ho, r⟩
  · refine (I.hok b u e).stay (fun c v hc q => k c v ?_ q) (fun _ q => q) fun _ _ q => q
    rcases hc with z | z
    · rw [z]; exact nit b u e
    · exact nit c _ z
theorem Inv.tok (I : Inv X pins σ H s) (t : Nat) : Inv X pins σ H { s with toks := t } := I.un (h' := s.heap) (t' := t) Un.refl I.hok
/-- all objects kept -/
theorem Inv.kept {t' : Nat} (I : Inv X pins σ H s) (k : ∀ b u, s.heap.get? b = some u → h'.get? b = some u) : Inv X pins σ H { s with heap := h', toks := t' } := I.un (Un.kept k) (I.hok.kept k)
/-- a new object laid and tracked -/
theorem Inv.laid {a : Addr} {o : HO} {t' : Nat} (I : Inv X pins σ H s) (k : ∀ b u, s.heap.get? b = some u → h'.get? b = some u) (hp : s.heap.objs.size ≤ a) (new : ObjOk X.prog X.w (upd H a o) h' a o) :
    Inv X pins σ (upd H a o) { s with heap := h', toks := t' } := I.un (Un.laid k hp (I.hok.fresh hp)) (I.hok.laid k hp new)
/-- an object written -/
theorem Inv.write {x e : Addr} {o : HO} {t' : Nat} (I : Inv X pins σ H s) (mu : Mut (H x)) (he : e = x ∨ H e = some (.own x)) (k : ∀ b u, b ≠ e → s.heap.get? b = some u → h'.get? b = some u) (heo : ∃ u, h'.get? e = some u)
    (new : ObjOk X.prog X.w (upd H x o) h' x o) : Inv X pins σ (upd H x o) { s with heap := h', toks := t' } := I.un (Un.write mu he k heo) (I.hok.write mu he k heo new)
/-- forgetting slots, pins -/
theorem Inv.weak {σ' : List (Option V)} (I : Inv X pins σ H s) (hl : σ'.length = σ.length) (w : ∀ (i : Nat) v, σ'[i]? = some (some v) → σ[i]? = some (some v)) : Inv X pins σ' H s :=
  ⟨I.ok, I.os, I.bare, I.base, let ⟨m, hn, hl'⟩ := I.loc; ⟨m, hn, fun i x v e1 e2 e3 => hl' i x v e1 (w i v e2) e3⟩, I.cell, I.free, I.freeC, I.pin, I.hok, hl.trans I.len⟩
theorem Inv.pins_of {pins' : List (Addr × Obj)} (I : Inv X pins σ H s) (h : ∀ p ∈ pins', s.heap.get? p.1 = some p.2 ∧ H p.1 = none ∧ p.1 ≠ X.env.locals ∧ p.1 ∉ X.fs ∧ ∀ v, p.2.data ≠ .cell v) : Inv X pins' σ H s :=
  ⟨I.ok, I.os, I.bare, I.base, I.loc, I.cell, I.free, I.freeC, fun p hp => (List.mem_append.mp hp).elim (fun z => I.pin p (List.mem_append_left _ z)) (h p), I.hok, I.len⟩

theorem nodup_ix {N : List Str} (hN : N.Nodup) {i j : Nat} {x : Str} (a : N[i]? = some x) (b : N[j]? = some x) : i = j := by
  obtain ⟨h1, e1⟩ := List.getElem?_eq_some_iff.mp a
  obtain ⟨h2, e2⟩ := List.getElem?_eq_some_iff.mp b
  exact (List.getElem_inj hN).mp (e1.trans e2.symm)

/-- a name is stored; what changed -/
theorem store_ok2 {M : Model} {A : Around} {E : Value → Shared → Prop} {i : Nat} {x : Str} {v : V} {u : Value} {Q : Unit → Shared → Prop} (I : Inv X pins σ H s) (hN : X.N.Nodup) (hi : X.N[i]? = some x) (hx : Loc X.env.scope x) (r : RelV v u)
    (h : ∀ s', Inv X pins (σ.set i (some v)) H s' → (∃ a, Heap.SameBut a s.heap s'.heap ∧ (a = X.env.locals ∨ X.env.cells.lookup x = some a)) → Q () s') (hf : X.fn x = true ∨ X.env.scope.names.lookup x = some .local := by first | exact .inl rfl | exact .inr rfl | assumption) : wpAny M A (storeName X.env x u) Q E s := by
  obtain ⟨m, hn, hl⟩ := id I.loc
  have hcls : (X.env.scope.kind == .class || (X.env.scope.kind == .module && X.env.locals != X.env.globals)) = false := by rw [I.ok.kind]; rfl
  have hiσ : i < σ.length := by rw [I.len]; exact (List.getElem?_eq_some_iff.mp hi).1
  have cne := I.cne
  have tracked : ∀ {a : Addr} {h' : Heap}, (∃ o, s.heap.get? a = some o ∧ H a = none) → Heap.SameBut a s.heap h' → HOk X.prog X.w H h' := fun {a h'} ha hs b ob e => by
    obtain ⟨_, _, hfree⟩ := ha
    refine (I.hok b ob e).stay (fun c w' hc q => (hs.2 c ?_).trans q) (fun _ q => q) fun _ _ q => q
    rintro rfl
    rcases hc with rfl | hc
    · rw [hfree] at e; cases e
    · rw [hfree] at hc; cases hc
  rcases hx with hk | hk
  · refine wpAny_storeName_local hk hn (fun h' hn' hs => ?_) hcls
    obtain ⟨oL, _, _, hoL, _⟩ := id hn
    refine h _ ⟨I.ok, I.os, I.bare, ⟨fun b o e n hb hx => ?_, fun b o e n hb hx => ?_, I.base.free, fun b o e hx => ?_, I.base.tups, I.base.frzs, I.base.tbls⟩, ⟨_, hn', fun j y v' e1 e2 e3 => ?_⟩, fun y c e => ?_, I.free, I.freeC, fun p hp => ?_, tracked ⟨oL, hoL, I.free⟩ hs, by simpa using I.len⟩ ⟨_, hs, .inl rfl⟩
    · exact (hs.2 b (Nat.ne_of_lt (Nat.lt_of_lt_of_le (Heap.lt_size e) I.ok.above))).trans (I.base.keep b o e n hb hx)
    · obtain ⟨sl, e1⟩ := I.base.slot b o e n hb hx
      exact ⟨sl, (hs.2 b (Nat.ne_of_lt (Nat.lt_of_lt_of_le (Heap.lt_size e) I.ok.above))).trans e1⟩
    · obtain ⟨o', e1⟩ := I.base.there b o e hx
      exact ⟨o', (hs.2 b (Nat.ne_of_lt (Nat.lt_of_lt_of_le (Heap.lt_size e) I.ok.above))).trans e1⟩
    · by_cases hj : j = i
      · subst hj
        rw [hi] at e1; cases e1
        rw [List.getElem?_set_self hiσ] at e2
        cases e2
        exact ⟨u, r, .inl ⟨hk, by simp⟩⟩
      · rw [List.getElem?_set_ne (Ne.symm hj)] at e2
        obtain ⟨u', r', q⟩ := hl j y v' e1 e2 e3
        refine ⟨u', r', ?_⟩
        rcases q with ⟨k, e⟩ | ⟨k, c, e, z⟩
        · refine .inl ⟨k, ?_⟩
          have : y ≠ x := fun e => hj (nodup_ix hN e1 (e ▸ hi))
          simp [this, e]
        · exact .inr ⟨k, c, e, z.sameBut hs (cne y c e)⟩
    · obtain ⟨w', z⟩ := I.cell y c e
      exact ⟨w', z.sameBut hs (cne y c e)⟩
    · obtain ⟨e, n, ne, nf, d⟩ := I.pin p hp
      exact ⟨(hs.2 p.1 ne).trans e, n, ne, nf, d⟩
  · have hfn : X.fn x = true := by
      rcases hf with z | z
      · exact z
      · rw [z] at hk; cases hk
    obtain ⟨c, hc⟩ := I.ok.has x (.inl hk)
    obtain ⟨w', z⟩ := I.cell x c hc
    refine wpAny_storeName_cell I.ok.kind hk hc z (fun h' hc' hs => ?_)
    obtain ⟨oc, hoc, hocd⟩ := id z
    refine h { s with heap := h' } ⟨I.ok, I.os, I.bare, ⟨fun b o e n hb hx => ?_, fun b o e n hb hx => ?_, I.base.free, fun b o e hx => ?_, I.base.tups, I.base.frzs, I.base.tbls⟩, ⟨m, hn.sameBut hs (Ne.symm (cne x c hc)), fun j y v' e1 e2 e3 => ?_⟩, fun y c' e => ?_, I.free, I.freeC, fun p hp => ?_, tracked ⟨oc, hoc, I.freeC x c hc⟩ hs, by simpa using I.len⟩ ⟨c, hs, .inr hc⟩
    · exact (hs.2 b (Nat.ne_of_lt (Nat.lt_of_lt_of_le (Heap.lt_size e) (I.ok.cab x c hfn hc)))).trans (I.base.keep b o e n hb hx)
    · obtain ⟨sl, e1⟩ := I.base.slot b o e n hb hx
      exact ⟨sl, (hs.2 b (Nat.ne_of_lt (Nat.lt_of_lt_of_le (Heap.lt_size e) (I.ok.cab x c hfn hc)))).trans e1⟩
    · obtain ⟨o', e1⟩ := I.base.there b o e hx
      exact ⟨o', (hs.2 b (Nat.ne_of_lt (Nat.lt_of_lt_of_le (Heap.lt_size e) (I.ok.cab x c hfn hc)))).trans e1⟩
    · by_cases hj : j = i
      · subst hj
        rw [hi] at e1; cases e1
        rw [List.getElem?_set_self hiσ] at e2
        cases e2
        exact ⟨u, r, .inr ⟨.inl hk, c, hc, hc'⟩⟩
      · rw [List.getElem?_set_ne (Ne.symm hj)] at e2
        obtain ⟨u', r', q⟩ := hl j y v' e1 e2 e3
        refine ⟨u', r', ?_⟩
        rcases q with q | ⟨k, c', e, z'⟩
        · exact .inl q
        · refine .inr ⟨k, c', e, z'.sameBut hs ?_⟩
          rintro rfl
          exact hj (nodup_ix hN e1 (I.ok.inj _ _ _ e hc ▸ hi))
    · by_cases hcc : c' = c
      · subst hcc; exact ⟨_, hc'⟩
      · obtain ⟨w2, z2⟩ := I.cell y c' e
        exact ⟨w2, z2.sameBut hs hcc⟩
    · obtain ⟨e, n, ne, nf, d⟩ := I.pin p hp
      refine ⟨(hs.2 p.1 ?_).trans e, n, ne, nf, d⟩
      intro q
      rw [q, hoc] at e
      have q' : oc = p.2 := Option.some.inj e
      exact d w' (by rw [← q']; exact hocd)
theorem store_ok {M : Model} {A : Around} {E : Value → Shared → Prop} {i : Nat} {x : Str} {v : V} {u : Value} {Q : Unit → Shared → Prop} (I : Inv X pins σ H s) (hN : X.N.Nodup) (hi : X.N[i]? = some x) (hx : Loc X.env.scope x) (r : RelV v u)
    (h : ∀ s', Inv X pins (σ.set i (some v)) H s' → Q () s') (hf : X.fn x = true ∨ X.env.scope.names.lookup x = some .local := by first | exact .inl rfl | exact .inr rfl | assumption) : wpAny M A (storeName X.env x u) Q E s :=
  store_ok2 I hN hi hx r (fun s' I' _ => h s' I') hf
/-- behind a call or a block, the state as it is -/
theorem Inv.call' {s' : Shared} {ch : List Addr} (I : Inv X pins σ H s) (ho : s'.os = s.os) (u : Un (frs X.stack) ch H H' s.heap s'.heap) (hok : HOk X.prog X.w H' s'.heap) (hg : AllBare s'.gens)
    (hch : ∀ b ∈ ch, (b ∈ X.ex ∨ X.s₀.heap.objs.size ≤ b) ∧ b ≠ X.env.locals ∧ (∀ x c, X.env.cells.lookup x = some c → c ≠ b) ∧ ∀ p ∈ X.pn ++ pins, p.1 ≠ b) : Inv X pins σ H' s' := by
  obtain ⟨h', g', d', t', o'⟩ := s'
  have e : o' = s.os := ho
  subst e
  exact I.call (g' := g') (t' := t') (d' := d') u hok hg hch
end

/-! ### the judgements -/
/-- an exception: its class, its own dict's address (where it has one), the abstract heap behind it -/
noncomputable abbrev XK := Value → Option Addr → Hp → Prop
noncomputable abbrev St := List (Option V)
noncomputable abbrev VK := V → Hp → Prop
/-- an expression's reading; a test's; an argument list's -/
noncomputable abbrev TE := St → Hp → VK → Prop
noncomputable abbrev TT := St → Hp → (Bool → Hp → Prop) → Prop
noncomputable abbrev TA := St → Hp → (List V → Hp → Prop) → Prop
/-- what is wanted behind a statement -/
structure Ends where
  nx : St → Hp → Prop
  rt : VK
  bk : St → Hp → Prop := fun _ _ => False
  ct : St → Hp → Prop := fun _ _ => False
noncomputable abbrev TS := Ends → St → Hp → Prop

noncomputable def EP (X : Cx) (pins : List (Addr × Obj)) (σ : St) (Q : VK) (u : Value) (s' : Shared) : Prop := ∃ v H', Inv X pins σ H' s' ∧ RelV v u ∧ Q v H'
noncomputable def TP (X : Cx) (pins : List (Addr × Obj)) (σ : St) (Q : Bool → Hp → Prop) (b : Bool) (s' : Shared) : Prop := ∃ H', Inv X pins σ H' s' ∧ Q b H'
noncomputable def AP (X : Cx) (pins : List (Addr × Obj)) (σ : St) (Q : List V → Hp → Prop) (us : List Value) (s' : Shared) : Prop := ∃ vs H', Inv X pins σ H' s' ∧ Vals vs us ∧ Q vs H'
noncomputable def SP (X : Cx) (pins : List (Addr × Obj)) (D : Ends) (f : Flow) (s' : Shared) : Prop :=
  match f with
  | .next => ∃ σ' H', Inv X pins σ' H' s' ∧ D.nx σ' H'
  | .brk => ∃ σ' H', Inv X pins σ' H' s' ∧ D.bk σ' H'
  | .cont => ∃ σ' H', Inv X pins σ' H' s' ∧ D.ct σ' H'
  | .ret u => ∃ v σ' H', Inv X pins σ' H' s' ∧ RelV v u ∧ D.rt v H'

noncomputable def PE (X : Cx) (e : Expr) (t : TE) : Prop :=
  ∀ (pins : List (Addr × Obj)) (s : Shared) (σ : St) (H : Hp) (Q : VK), Inv X pins σ H s → t σ H Q → wpAny (model X.prog X.w) X.A (eval e X.env) (EP X pins σ Q) X.xe s
noncomputable def PT (X : Cx) (e : Expr) (t : TT) : Prop :=
  ∀ (pins : List (Addr × Obj)) (s : Shared) (σ : St) (H : Hp) (Q : Bool → Hp → Prop), Inv X pins σ H s → t σ H Q → wpAny (model X.prog X.w) X.A (isTrue e X.env (eval e X.env)) (TP X pins σ Q) X.xe s
/-- a test whatever its 'whole' is (and, or) -/
noncomputable def PW (X : Cx) (e : Expr) (t : TT) : Prop :=
  ∀ (whole : Sem Value) (pins : List (Addr × Obj)) (s : Shared) (σ : St) (H : Hp) (Q : Bool → Hp → Prop), Inv X pins σ H s → t σ H Q → wpAny (model X.prog X.w) X.A (isTrue e X.env whole) (TP X pins σ Q) X.xe s
theorem PW.pt {X : Cx} {e : Expr} {t : TT} (h : PW X e t) : PT X e t := h _
/-- an argument list (no star), from the left -/
noncomputable def PA (X : Cx) (es : List Expr) (t : TA) : Prop :=
  ∀ (pos : Pos) (pins : List (Addr × Obj)) (s : Shared) (σ : St) (H : Hp) (Q : List V → Hp → Prop), Inv X pins σ H s → t σ H Q → wpAny (model X.prog X.w) X.A (spliced (backTo pos (starEach es X.env))) (AP X pins σ Q) X.xe s
noncomputable def PS (X : Cx) (st : Stmt) (t : TS) : Prop :=
  ∀ (pins : List (Addr × Obj)) (s : Shared) (σ : St) (H : Hp) (D : Ends), Inv X pins σ H s → t D σ H → wpAny (model X.prog X.w) X.A (exec st X.env) (SP X pins D) X.xe s
noncomputable def PSs (X : Cx) (st : List Stmt) (t : TS) : Prop :=
  ∀ (pins : List (Addr × Obj)) (s : Shared) (σ : St) (H : Hp) (D : Ends), Inv X pins σ H s → t D σ H → wpAny (model X.prog X.w) X.A (execs st X.env) (SP X pins D) X.xe s
/-- weaken the end -/
theorem thn {α : Type} {t : Sem α} {Q Q' : α → Shared → Prop} {M : Model} {A : Around} {E : Value → Shared → Prop} {s : Shared} (h : wpAny M A t Q E s) (hQ : ∀ a s, Q a s → Q' a s) : wpAny M A t Q' E s := wpAny_mono h hQ fun _ _ x => x
end L2

namespace L2
open PySem PySem.Spec PyProof.Rows
section
variable {X : Cx}


/-! ### names and constants -/
noncomputable def tVar (i : Nat) : TE := fun σ H Q => ∃ v, σ[i]? = some (some v) ∧ Q v H
noncomputable def tC (v : V) : TE := fun _ H Q => Q v H
theorem pe_var {i : Nat} {x : Str} {pos : Pos} (hN : X.N[i]? = some x) (hv : Vis X.env.scope x) (hd : (x == ("__debug__" : Str)) = false := by decide) (hcd : (x == ("__classdict__" : Str)) = false := by decide) : PE X (.Name x pos) (tVar i) := by
  intro pins s σ H Q I h
  obtain ⟨v, e, h⟩ := h
  obtain ⟨m, hn, hl⟩ := I.loc
  obtain ⟨u, r, l⟩ := hl i x v hN e hv
  have fin : EP X pins σ Q u s := ⟨v, H, I, r, h⟩
  rcases l with ⟨hk, hm⟩ | ⟨hk, c, hc, hcell⟩
  · exact wpAny_Name (wpAny_loadName_local I.ok.kind hk hn hm fin) hd
  · rcases hk with hk | hk
    · exact wpAny_Name (wpAny_loadName_cell I.ok.kind hk hc hcell fin) hd
    · exact wpAny_Name (wpAny_loadName_free I.ok.kind hk hc hcell fin hcd) hd
theorem pe_int {i j pos} : PE X (.Constant (.int i) j pos) (tC (.int i)) := fun _ _ _ H _ I h => wpAny_Constant_int ⟨.int i, H, I.tok _, ⟨_, rfl⟩, h⟩
theorem pe_bl {b j pos} : PE X (.Constant (.bool b) j pos) (tC (.bl b)) := fun _ _ _ H _ I h => Constant_bool ⟨.bl b, H, I, rfl, h⟩
theorem pe_non {j pos} : PE X (.Constant .none j pos) (tC .non) := fun _ _ _ H _ I h => Constant_none ⟨.non, H, I, rfl, h⟩
theorem pe_str {x j pos} : PE X (.Constant (.str x) j pos) (tC (.str x)) := fun _ _ _ H _ I h => Calls.Constant_str ⟨.str x, H, I.tok _, ⟨_, rfl⟩, h⟩

/-- a global name of the def -/
noncomputable def Gl (X : Cx) (x : Str) : Prop := X.env.kindOf x = some .globalImplicit
theorem ld_glob {E : Value → Shared → Prop} {pins : List (Addr × Obj)} {s : Shared} {σ : St} {H : Hp} {x : Str} {u : Value} {pos : Pos} {Q : Value → Shared → Prop} (I : Inv X pins σ H s) (hg : Gl X x) (hm : X.mg x = some u) (h : Q u s)
    (hd : (x == ("__debug__" : Str)) = false := by decide) : wpAny (model X.prog X.w) X.A (eval (.Name x pos) X.env) Q E s :=
  Calls.Name_function_global I.ok.kind hg (Calls.loadGlobal_global (by rw [I.ok.glob]; exact I.mod.glob.keeps I.bk) hm h) hd
theorem ld_blt {E : Value → Shared → Prop} {pins : List (Addr × Obj)} {s : Shared} {σ : St} {H : Hp} {x : Str} {u : Value} {pos : Pos} {Q : Value → Shared → Prop} (I : Inv X pins σ H s) (hg : Gl X x) (hm : X.mg x = none) (hv : bootBuiltins x = some u) (h : Q u s)
    (hn : x ≠ "__name__" := by decide) (hd : (x == ("__debug__" : Str)) = false := by decide) : wpAny (model X.prog X.w) X.A (eval (.Name x pos) X.env) Q E s := by
  obtain ⟨mb, h1, h2⟩ := I.mod.blt
  exact Calls.Name_function_global I.ok.kind hg (Calls.loadGlobal_builtin (by rw [I.ok.glob]; exact I.mod.glob.keeps I.bk) hm (by rw [I.ok.blt]; exact h1.keeps I.bk) ((h2 x hn).trans hv) h) hd
theorem pe_bltn {x : Str} {v : V} {u : Value} {pos : Pos} (hg : Gl X x) (hm : X.mg x = none) (hv : bootBuiltins x = some u) (r : RelV v u) (hn : x ≠ "__name__" := by decide) (hd : (x == ("__debug__" : Str)) = false := by decide) : PE X (.Name x pos) (tC v) :=
  fun _ _ _ H _ I h => ld_blt I hg hm hv ⟨v, H, I, r, h⟩ hn hd

/-! ### arithmetic -/
variable {a b : Expr} {ta tb : TE} {pos : Pos}

/-! ### comparisons -/
noncomputable def PC (X : Cx) (op : CmpOp) (a b : Expr) (t : TE) : Prop :=
  ∀ (pins : List (Addr × Obj)) (s : Shared) (σ : St) (H : Hp) (Q : VK), Inv X pins σ H s → t σ H Q →
    wpAny (model X.prog X.w) X.A (eval a X.env) (fun v s₁ => wpAny (model X.prog X.w) X.A (eval b X.env) (fun u s₂ => wpAny (model X.prog X.w) X.A (compareOp op v u) (EP X pins σ Q) X.xe s₂) X.xe s₁) X.xe s
theorem nobehind (b : Expr) {op : CmpOp} (h : op ≠ .In) (h2 : op ≠ .NotIn) : behindInMarks op b = false := by
  have e1 : (op == CmpOp.In) = false := by cases op <;> first | rfl | exact absurd rfl h
  have e2 : (op == CmpOp.NotIn) = false := by cases op <;> first | rfl | exact absurd rfl h2
  cases b <;> simp [behindInMarks, e1, e2]
/-- a comparison as a value, as a test -/
noncomputable def tB (t : TE) : TT := fun σ H Q => t σ H fun x H1 => ∃ c, x = .bl c ∧ Q c H1
theorem pt_cmp {op : CmpOp} {t : TE} (h : PC X op a b t) (h1 : behindInMarks op b = false := by first | exact nobehind _ (by decide) (by decide) | rfl) : PT X (.Compare a [op] [b] pos) (tB t) := by
  intro pins s σ H Q I hw
  refine wpAny_isTrue_Compare1 (thn (h pins s σ H _ I hw) fun v s1 h1 => thn h1 fun u s2 h2 => thn h2 fun c s3 ⟨x, H1, I1, r1, q1⟩ => ?_) h1
  obtain ⟨d, rfl, q⟩ := q1
  cases r1
  exact wpAny_truthy_bool ⟨H1, I1, q⟩
/-- an expression whose value is a bool, as a test -/
theorem pt_val {e : Expr} {t : TE} (h : PE X e t) (he : ∀ whole, isTrue e X.env whole = (do let v ← whole; standAt e.pos; holding [v] (truthy v)) := by intro _; rfl) : PT X e (tB t) := by
  intro pins s σ H Q I hw
  refine isTrue_plain (thn (h pins s σ H _ I hw) fun v s1 ⟨x, H1, I1, r1, q1⟩ => ?_) (he _)
  obtain ⟨d, rfl, q⟩ := q1
  cases r1
  exact wpAny_truthy_bool ⟨H1, I1, q⟩

/-! ### and, or, not -/
variable {tA tB' : TT} {rest : List Expr}
noncomputable def tAnd (t u : TT) : TT := fun σ H Q => t σ H fun c H1 => if c = true then u σ H1 Q else Q false H1
noncomputable def tOr (t u : TT) : TT := fun σ H Q => t σ H fun c H1 => if c = true then Q true H1 else u σ H1 Q
noncomputable def tNot (t : TT) : TT := fun σ H Q => t σ H fun c H1 => Q (!c) H1
theorem pw_and1 (ha : PT X a tA) : PW X (.BoolOp .And [a] pos) tA := by
  intro wh pins s σ H Q I h
  refine isTrue_and (thn (ha pins s σ H Q I h) fun c s1 e => ?_)
  cases c with
  | true => exact isTrue_and_nil e
  | false => exact e
theorem pw_or1 (ha : PT X a tA) : PW X (.BoolOp .Or [a] pos) tA := by
  intro wh pins s σ H Q I h
  refine isTrue_or (thn (ha pins s σ H Q I h) fun c s1 e => ?_)
  cases c with
  | false => exact isTrue_or_nil e
  | true => exact e
theorem pw_and (ha : PT X a tA) (hb : PW X (.BoolOp .And (b :: rest) pos) tB') : PW X (.BoolOp .And (a :: b :: rest) pos) (tAnd tA tB') := by
  intro wh pins s σ H Q I h
  refine isTrue_and (thn (ha pins s σ H _ I h) fun c s1 ⟨H1, I1, q1⟩ => ?_)
  cases c with
  | true => exact hb wh pins s1 σ H1 Q I1 q1
  | false => exact ⟨H1, I1, q1⟩
theorem pw_or (ha : PT X a tA) (hb : PW X (.BoolOp .Or (b :: rest) pos) tB') : PW X (.BoolOp .Or (a :: b :: rest) pos) (tOr tA tB') := by
  intro wh pins s σ H Q I h
  refine isTrue_or (thn (ha pins s σ H _ I h) fun c s1 ⟨H1, I1, q1⟩ => ?_)
  cases c with
  | true => exact ⟨H1, I1, q1⟩
  | false => exact hb wh pins s1 σ H1 Q I1 q1
theorem pt_not (ha : PT X a tA) : PT X (.UnaryOp .Not a pos) (tNot tA) := by
  intro pins s σ H Q I h
  exact isTrue_not (ha pins s σ H (fun c H1 => Q (!c) H1) I h)
/-- .. as values (bools) -/
noncomputable def tAndV (ta tb : TE) : TE := fun σ H Q => ta σ H fun x H1 => ∃ c, x = .bl c ∧ if c = true then tb σ H1 Q else Q (.bl false) H1
noncomputable def tNotV (ta : TE) : TE := fun σ H Q => ta σ H fun x H1 => ∃ c, x = .bl c ∧ Q (.bl (!c)) H1
theorem pe_one {op} {t : TE} (h : PE X a t) : PE X (.BoolOp op [a] pos) t := fun pins s σ H Q I hw => BoolOp_one (h pins s σ H Q I hw)
theorem pe_and (ha : PE X a ta) (hb : PE X (.BoolOp .And (b :: rest) pos) tb) : PE X (.BoolOp .And (a :: b :: rest) pos) (tAndV ta tb) := by
  intro pins s σ H Q I h
  refine BoolOp_and (thn (ha pins s σ H _ I h) fun v s1 ⟨x, H1, I1, r1, q1⟩ => ?_)
  obtain ⟨c, rfl, q1⟩ := q1
  cases r1
  refine wpAny_truthy_bool ?_
  cases c with
  | true => exact hb pins s1 σ H1 Q I1 q1
  | false => exact ⟨.bl false, H1, I1, rfl, q1⟩
theorem pe_not (ha : PE X a ta) : PE X (.UnaryOp .Not a pos) (tNotV ta) := by
  intro pins s σ H Q I h
  refine UnaryOp_ (thn (ha pins s σ H _ I h) fun v s1 ⟨x, H1, I1, r1, q1⟩ => ?_)
  obtain ⟨c, rfl, q1⟩ := q1
  cases r1
  exact not_of (wpAny_truthy_bool ⟨.bl (!c), H1, I1, rfl, q1⟩)
end
end L2

namespace L2
open PySem PySem.Spec PyProof.Rows

/-! ### a list, a tuple that is read: tracked, frozen, or an object of the module -/
noncomputable def SqL (K : PySem.W.Frag) (H : Hp) (a : Addr) (xs : List V) : Prop :=
  Rd H a (.lst xs) ∨
    ∃ (o : Obj) (its : Array Value) (n : Nat), K.lookup a = some o ∧ o.cls = .type "list" ∧ o.dict = none ∧ o.data = .seq its n ∧ its.size ≤ sizeLine ∧ Vals xs its.toList
noncomputable def SqT (K : PySem.W.Frag) (H : Hp) (a : Addr) (xs : List V) : Prop :=
  Rd H a (.tup xs) ∨
    ∃ (o : Obj) (its : Array Value) (n : Nat), K.lookup a = some o ∧ o.cls = .type "tuple" ∧ o.data = .seq its n ∧ its.size ≤ sizeLine ∧ Vals xs its.toList
noncomputable def absV : Value → Option V
  | .none => some .non
  | .bool b => some (.bl b)
  | .int i _ => some (.int i)
  | .str x _ => some (.str x)
  | .bytes b _ => some (.byt b)
  | .float b _ => some (.flt b)
  | .ref a => some (.ref a)
  | .type n => some (.ty n)
  | _ => none
theorem RelV.abs {x : V} {u : Value} (r : RelV x u) : absV u = some x := by
  cases x with
  | non => cases r; rfl
  | bl _ => cases r; rfl
  | int _ => obtain ⟨t, rfl⟩ := r; rfl
  | str _ => obtain ⟨t, rfl⟩ := r; rfl
  | byt _ => obtain ⟨t, rfl⟩ := r; rfl
  | flt _ => obtain ⟨t, rfl⟩ := r; rfl
  | ref _ => cases r; rfl
  | ty _ => cases r; rfl
theorem RelV.inj {x y : V} {u : Value} (r : RelV x u) (q : RelV y u) : x = y := Option.some.inj (r.abs.symm.trans q.abs)
theorem Vals.inj : ∀ {xs ys : List V} {us : List Value}, Vals xs us → Vals ys us → xs = ys
  | _, _, _, .nil, .nil => rfl
  | _, _, _, .cons r t, .cons r' t' => by rw [r.inj r', Vals.inj t t']
section
variable {X : Cx} {pins : List (Addr × Obj)} {σ : St} {H : Hp} {s : Shared} {a : Addr} {xs ys : List V}
theorem SqL.of {K : PySem.W.Frag} (h : H a = some (.lst xs)) : SqL K H a xs := .inl (.inl h)
theorem SqT.of {K : PySem.W.Frag} (h : H a = some (.tup xs)) : SqT K H a xs := .inl (.inl h)
theorem Inv.list (I : Inv X pins σ H s) (h : SqL X.K H a xs) : ∃ its : List Value, Vals xs its ∧ PlainL s.heap a its.toArray ∧ xs.length ≤ sizeLine := by
  rcases h with h | ⟨o, its, n, hk, hc, hd, hs, hz, r⟩
  · obtain ⟨z, its, n, r, e⟩ := h.ok I.hok
    exact ⟨its, r, ⟨_, n, e, rfl, rfl, rfl⟩, z⟩
  · refine ⟨its.toList, r, ⟨o, n, I.kIn a o hk, hc, hd, by simpa using hs⟩, ?_⟩
    have e := r.length
    simp only [Array.length_toList] at e
    omega
theorem Inv.tuple (I : Inv X pins σ H s) (h : SqT X.K H a xs) : ∃ its : List Value, Vals xs its ∧ IsTup s.heap a its.toArray ∧ xs.length ≤ sizeLine := by
  rcases h with h | ⟨o, its, n, hk, hc, hs, hz, r⟩
  · obtain ⟨z, its, r, p⟩ := h.ok I.hok
    exact ⟨its, r, p, z⟩
  · refine ⟨its.toList, r, ⟨o, I.kIn a o hk, hc, n, by simpa using hs⟩, ?_⟩
    have e := r.length
    simp only [Array.length_toList] at e
    omega
theorem Inv.list_inj (I : Inv X pins σ H s) (h : SqL X.K H a xs) (h' : SqL X.K H a ys) : xs = ys := by
  obtain ⟨its, r, ⟨o, n, e, _, _, d⟩, _⟩ := I.list h
  obtain ⟨its', r', ⟨o', n', e', _, _, d'⟩, _⟩ := I.list h'
  rw [e] at e'; cases e'
  rw [d] at d'
  injection d' with d1 _
  have : its = its' := by simpa using congrArg Array.toList d1
  subst this
  exact r.inj r'
theorem Inv.tuple_inj (I : Inv X pins σ H s) (h : SqT X.K H a xs) (h' : SqT X.K H a ys) : xs = ys := by
  obtain ⟨its, r, ⟨o, e, _, n, d⟩, _⟩ := I.tuple h
  obtain ⟨its', r', ⟨o', e', _, n', d'⟩, _⟩ := I.tuple h'
  rw [e] at e'; cases e'
  rw [d] at d'
  injection d' with d1 _
  have : its = its' := by simpa using congrArg Array.toList d1
  subst this
  exact r.inj r'
end

/-! ### another wish about exceptions -/
noncomputable abbrev Cx.wish (X : Cx) (E : Value → Shared → Prop) : Cx := { X with xe := E }
/-- no exception leaves -/
noncomputable abbrev Cx.nox (X : Cx) : Cx := X.wish fun _ _ => False
theorem Cx.Ok.wish {X : Cx} (ok : X.Ok) (E : Value → Shared → Prop) : (X.wish E).Ok :=
  ⟨ok.mod, ok.kind, ok.glob, ok.blt, ok.above, ok.inj, ok.has, ok.cab, ok.hd, ok.frames, ok.stk, ok.exf, ok.bs, ok.bsz, ok.noex, ok.exfs, ok.funs, ok.frf⟩
theorem Cx.Ok.unwish {X : Cx} {E : Value → Shared → Prop} (ok : (X.wish E).Ok) : X.Ok :=
  ⟨ok.mod, ok.kind, ok.glob, ok.blt, ok.above, ok.inj, ok.has, ok.cab, ok.hd, ok.frames, ok.stk, ok.exf, ok.bs, ok.bsz, ok.noex, ok.exfs, ok.funs, ok.frf⟩
section
variable {X : Cx} {pins : List (Addr × Obj)} {σ : St} {H : Hp} {s : Shared} {E : Value → Shared → Prop}
theorem Inv.wish (I : Inv X pins σ H s) (E : Value → Shared → Prop) : Inv (X.wish E) pins σ H s := ⟨I.ok.wish E, I.os, I.bare, I.base, I.loc, I.cell, I.free, I.freeC, I.pin, I.hok, I.len⟩
theorem Inv.unwish (I : Inv (X.wish E) pins σ H s) : Inv X pins σ H s := ⟨I.ok.unwish, I.os, I.bare, I.base, I.loc, I.cell, I.free, I.freeC, I.pin, I.hok, I.len⟩
theorem SP.unwish {D : Ends} {f : Flow} {s' : Shared} (h : SP (X.wish E) pins D f s') : SP X pins D f s' := by
  cases f with
  | next => obtain ⟨σ', H', I, q⟩ := h; exact ⟨σ', H', I.unwish, q⟩
  | brk => obtain ⟨σ', H', I, q⟩ := h; exact ⟨σ', H', I.unwish, q⟩
  | cont => obtain ⟨σ', H', I, q⟩ := h; exact ⟨σ', H', I.unwish, q⟩
  | ret u => obtain ⟨v, σ', H', I, r, q⟩ := h; exact ⟨v, σ', H', I.unwish, r, q⟩
theorem PE.nox {e : Expr} {t : TE} (h : PE X.nox e t) : PE X e t := fun pins s σ H Q I hw =>
  wpAny_mono (h pins s σ H Q (I.wish _) hw) (fun _ _ ⟨v, H', I', r, q⟩ => ⟨v, H', I'.unwish, r, q⟩) fun _ _ z => False.elim z
theorem PT.nox {e : Expr} {t : TT} (h : PT X.nox e t) : PT X e t := fun pins s σ H Q I hw =>
  wpAny_mono (h pins s σ H Q (I.wish _) hw) (fun _ _ ⟨H', I', q⟩ => ⟨H', I'.unwish, q⟩) fun _ _ z => False.elim z
theorem PSs.nox {st : List Stmt} {t : TS} (h : PSs X.nox st t) : PSs X st t := fun pins s σ H D I hw =>
  wpAny_mono (h pins s σ H D (I.wish _) hw) (fun _ _ q => q.unwish) fun _ _ z => False.elim z
end

/-! ### blocks and small statements -/
section
variable {X : Cx} {st : Stmt} {rest : List Stmt} {t u : TS} {e : Expr} {te : TE} {pos : Pos}
noncomputable def tNext : TS := fun D σ H => D.nx σ H
noncomputable def tSeq (t u : TS) : TS := fun D σ H => t { D with nx := u D } σ H
theorem pss_nil : PSs X [] tNext := fun _ _ σ H _ I h => wpAny_execs_nil ⟨σ, H, I, h⟩
theorem pss_cons (h1 : PS X st t) (h2 : PSs X rest u) : PSs X (st :: rest) (tSeq t u) := by
  intro pins s σ H D I h
  refine wpAny_execs_cons (thn (h1 pins s σ H { D with nx := u D } I h) fun f s1 q => ?_)
  cases f with
  | next =>
    obtain ⟨σ', H', I', q⟩ := q
    exact h2 pins s1 σ' H' D I' q
  | ret v => exact q
  | brk => exact q
  | cont => exact q
theorem pss_one (h1 : PS X st t) : PSs X [st] t := by
  intro pins s σ H D I h
  refine wpAny_execs_cons (thn (h1 pins s σ H D I h) fun f s1 q => ?_)
  cases f with
  | next => exact wpAny_execs_nil q
  | ret v => exact q
  | brk => exact q
  | cont => exact q
/-- in a def's body nothing is shown -/
theorem Inv.quiet {pins : List (Addr × Obj)} {σ : St} {H : Hp} {s : Shared} (I : Inv X pins σ H s) : interactive X.env = false := by simp [interactive, I.ok.kind]
/-- an expression whose value is dropped -/
noncomputable def tDrop (te : TE) : TS := fun D σ H => te σ H fun _ H1 => D.nx σ H1
theorem ps_expr (he : PE X e te) (hs : swapsWith e none pos.line X.env = pure false := by rfl) : PS X (.Expr e pos) (tDrop te) := by
  intro pins s σ H D I h
  exact wpAny_Expr_any (thn (he pins s σ H _ I h) fun v s1 ⟨x, H1, I1, r1, q1⟩ => ⟨σ, H1, I1, q1⟩) I.quiet hs
noncomputable def tRet (te : TE) : TS := fun D σ H => te σ H D.rt
theorem ps_ret (he : PE X e te) : PS X (.Return (some e) pos) (tRet te) := by
  intro pins s σ H D I h
  exact wpAny_Return_some (thn (he pins s σ H _ I h) fun v s1 ⟨x, H1, I1, r1, q1⟩ => ⟨x, σ, H1, I1, r1, q1⟩)
noncomputable def tIfS (c : TT) (t u : TS) : TS := fun D σ H => c σ H fun b H1 => if b = true then t D σ H1 else u D σ H1
theorem ps_if {c : Expr} {a b : List Stmt} {tc : TT} (hc : PT X c tc) (ha : PSs X a t) (hb : PSs X b u) : PS X (.If c a b pos) (tIfS tc t u) := by
  intro pins s σ H D I h
  refine wpAny_If (thn (hc pins s σ H _ I h) fun d s1 ⟨H1, I1, q1⟩ => ?_)
  cases d with
  | true => exact ha pins s1 σ H1 D I1 q1
  | false => exact hb pins s1 σ H1 D I1 q1
end

/-! ### targets -/
noncomputable abbrev TG := V → St → Hp → (St → Hp → Prop) → Prop
noncomputable abbrev TGs := List V → St → Hp → (St → Hp → Prop) → Prop
noncomputable def PG (X : Cx) (target : Expr) (t : TG) : Prop :=
  ∀ (pins : List (Addr × Obj)) (s : Shared) (σ : St) (H : Hp) (v : V) (u : Value) (Q : St → Hp → Prop), Inv X pins σ H s → RelV v u → t v σ H Q →
    wpAny (model X.prog X.w) X.A (assign target X.env u) (fun _ s' => ∃ σ' H', Inv X pins σ' H' s' ∧ Q σ' H') X.xe s
/-- several targets, one after another -/
noncomputable def PGs (X : Cx) (ts : List Expr) (t : TGs) : Prop :=
  ∀ (pins : List (Addr × Obj)) (s : Shared) (σ : St) (H : Hp) (vs : List V) (us : List Value) (Q : St → Hp → Prop), Inv X pins σ H s → Vals vs us → t vs σ H Q →
    wpAny (model X.prog X.w) X.A (assignInOrder ((assignEach ts X.env).map (·.2)) us) (fun _ s' => ∃ σ' H', Inv X pins σ' H' s' ∧ Q σ' H') X.xe s
/-- o[i] = v, by values -/
noncomputable abbrev TSet := V → V → V → Hp → (Hp → Prop) → Prop
noncomputable def PSet (X : Cx) (t : TSet) : Prop :=
  ∀ (pins : List (Addr × Obj)) (s : Shared) (σ : St) (H : Hp) (o i v : V) (ov iv u : Value) (Q : Hp → Prop), Inv X pins σ H s → RelV o ov → RelV i iv → RelV v u → t o i v H Q →
    wpAny (model X.prog X.w) X.A (setItem ov iv u) (fun _ s' => ∃ H', Inv X pins σ H' s' ∧ Q H') X.xe s
section
variable {X : Cx} {pos : Pos}
noncomputable def gName (i : Nat) : TG := fun v σ H Q => Q (σ.set i (some v)) H
theorem pg_name {i : Nat} {x : Str} (hN : X.N.Nodup) (hi : X.N[i]? = some x) (hx : Loc X.env.scope x) (hf : X.fn x = true ∨ X.env.scope.names.lookup x = some .local := by first | exact .inl rfl | exact .inr rfl | assumption) : PG X (.Name x pos) (gName i) := by
  intro pins s σ H v u Q I r h
  exact wpAny_assign_Name (store_ok I hN hi hx r (fun s' I' => ⟨_, H, I', h⟩) hf)
noncomputable def gNil : TGs := fun vs σ H Q => vs = [] ∧ Q σ H
noncomputable def gCons (t : TG) (u : TGs) : TGs := fun vs σ H Q => ∃ v r, vs = v :: r ∧ t v σ H fun σ' H' => u r σ' H' Q
theorem pgs_nil : PGs X [] gNil := by
  intro pins s σ H vs us Q I r h
  obtain ⟨e, h⟩ := h
  subst e
  cases r
  exact assignInOrder_nil ⟨σ, H, I, h⟩
theorem pgs_cons {e : Expr} {es : List Expr} {t : TG} {u : TGs} (h1 : PG X e t) (h2 : PGs X es u)
    (hs : (assignEach (e :: es) X.env).map (·.2) = assign e X.env :: (assignEach es X.env).map (·.2) := by rfl) : PGs X (e :: es) (gCons t u) := by
  intro pins s σ H vs us Q I r h
  obtain ⟨v, vr, e1, h⟩ := h
  subst e1
  cases r with
  | cons r rr =>
    rw [hs]
    refine assignInOrder_cons (thn (h1 pins s σ H _ _ _ I r h) fun _ s1 ⟨σ1, H1, I1, q1⟩ => ?_)
    exact h2 pins s1 σ1 H1 _ _ Q I1 rr q1
/-- (a, b, ..) = a tuple of that length -/
noncomputable def gTup (K : PySem.W.Frag) (n : Nat) (t : TGs) : TG := fun v σ H Q => ∃ a xs, v = .ref a ∧ SqT K H a xs ∧ xs.length = n ∧ t xs σ H Q
theorem pg_tup {es : List Expr} {k : Nat} {t : TGs} {n : Nat} (hc : X.calm = true) (h : PGs X es t)
    (hn : (assignEach es X.env).length = n := by rfl) (hst : (assignEach es X.env).findIdx? (·.1) = none := by rfl) : PG X (.Tuple es k pos) (gTup X.K n t) := by
  intro pins s σ H v u Q I r hw
  obtain ⟨a, xs, e1, hq, hl, hw⟩ := hw
  subst e1
  cases r
  obtain ⟨its, rv, ht, hz⟩ := I.tuple hq
  refine assign_Tuple_tuple (I.ok.hd hc) ht (by simp [hn, ← hl, rv.length]) hst fun h' hx => ?_
  have I1 : Inv X pins σ H { s with heap := h' } := I.kept (t' := s.toks) fun b o e => hx b o (Nat.ne_of_lt (Heap.lt_size e)) e
  exact h pins _ σ H xs _ Q I1 (by simpa using rv) hw
/-- o[i] = .. -/
noncomputable def gSub (to ti : TE) (t : TSet) : TG := fun v σ H Q => to σ H fun o H1 => ti σ H1 fun i H2 => t o i v H2 fun H3 => Q σ H3
theorem pg_sub {o i : Expr} {to ti : TE} {t : TSet} (ho : PE X o to) (hi : PE X i ti) (hs : PSet X t)
    (ha : ∀ v, assign (.Subscript o i pos) X.env v = (do
      let ov ← holding [v] (eval o X.env)
      let iv ← holding [v, ov] (eval i X.env)
      standAt pos
      holding [v, ov, iv] (setItem ov iv v)
      release [v, ov, iv] []) := by intro _; rfl) : PG X (.Subscript o i pos) (gSub to ti t) := by
  intro pins s σ H v u Q I r h
  rw [ha]
  refine wpAny_bind (wpAny_holding (thn (ho pins s σ H _ I h) fun ov s1 ⟨x, H1, I1, r1, q1⟩ => ?_))
  refine wpAny_bind (wpAny_holding (thn (hi pins s1 σ H1 _ I1 q1) fun iv s2 ⟨y, H2, I2, r2, q2⟩ => ?_))
  refine wpAny_bind (wpAny_standAt (wpAny_bind (wpAny_holding (thn (hs pins s2 σ H2 x y v ov iv u _ I2 r1 r2 r q2) fun _ s3 ⟨H3, I3, q3⟩ => ?_))))
  exact wpAny_release ⟨σ, H3, I3, q3⟩
/-- target = value -/
noncomputable def tAsg (te : TE) (g : TG) : TS := fun D σ H => te σ H fun x H1 => g x σ H1 D.nx
theorem ps_asg {tg e : Expr} {te : TE} {g : TG} (he : PE X e te) (hg : PG X tg g) (hs : swapsWithSole [tg] e pos.line X.env = pure false := by rfl) (hw : swappedStores [tg] e X.env = pure none := by rfl)
    (h1 : (assignEach [tg] X.env).map (·.2) = [assign tg X.env] := by rfl) : PS X (.Assign [tg] e pos) (tAsg te g) := by
  intro pins s σ H D I h
  refine wpAny_Assign_stores (thn (he pins s σ H _ I h) fun v s1 ⟨x, H1, I1, r1, q1⟩ => ?_) hs hw
  rw [h1]
  exact thn (hg pins s1 σ H1 x v _ I1 r1 q1) fun _ s2 q => q
/-- name = value -/
theorem ps_set {i : Nat} {x : Str} {e : Expr} {te : TE} {pos' : Pos} (hN : X.N.Nodup) (hi : X.N[i]? = some x) (hx : Loc X.env.scope x) (he : PE X e te) (hs : swapsWith e (some (.Name x pos')) pos.line X.env = pure false := by rfl) (hf : X.fn x = true ∨ X.env.scope.names.lookup x = some .local := by first | exact .inl rfl | exact .inr rfl | assumption) :
    PS X (.Assign [.Name x pos'] e pos) (tAsg te (gName i)) := by
  intro pins s σ H D I h
  refine wpAny_Assign_Name (thn (he pins s σ H _ I h) fun v s1 ⟨y, H1, I1, r1, q1⟩ => ?_) hs
  exact store_ok I1 hN hi hx r1 (fun s2 I2 => ⟨_, H1, I2, q1⟩) hf
end

/-! ### while -/
section
variable {X : Cx} {pos : Pos}
/-- the invariant W with its measure -/
noncomputable def tWhile (c : TT) (tb : TS) : TS := fun D σ H => ∃ W : Nat → St → Hp → Prop, (∃ m, W m σ H) ∧ ∀ m σ H, W m σ H →
  c σ H fun b H1 => if b = true then ∃ N : St → Hp → Prop, (∀ σ' H', N σ' H' → ∃ m', m' < m ∧ W m' σ' H') ∧ tb { D with nx := N, ct := N, bk := D.nx } σ H1 else D.nx σ H1
theorem ps_while {c : Expr} {body : List Stmt} {tc : TT} {tb : TS} (hp : PassesOwn (model X.prog X.w) X.A X.env X.xe) (hc : PT X c tc) (hb : PSs X body tb) : PS X (.While c body [] pos) (tWhile tc tb) := by
  intro pins s σ H D I h
  obtain ⟨W, ⟨m0, w0⟩, turn⟩ := h
  refine wpAny_While (codeAny_whileLoop (fun n s' => ∃ σ' H', Inv X pins σ' H' s' ∧ W n σ' H') ?_ m0 ⟨σ, H, I, w0⟩)
  rintro n s1 ⟨σ1, H1, I1, w1⟩
  refine wpAny_passesOwn hp (thn (hc pins s1 σ1 H1 _ I1 (turn n σ1 H1 w1)) fun b s2 ⟨H2, I2, q2⟩ => ?_)
  cases b with
  | true =>
    obtain ⟨N, hN, q2⟩ := q2
    rw [if_pos rfl]
    refine wpAny_passesOwn hp (thn (hb pins s2 σ1 H2 _ I2 q2) fun f s3 q3 => ?_)
    cases f with
    | next =>
      obtain ⟨σ3, H3, I3, n3⟩ := q3
      obtain ⟨m', hm, w3⟩ := hN σ3 H3 n3
      exact ⟨m', hm, σ3, H3, I3, w3⟩
    | cont =>
      obtain ⟨σ3, H3, I3, n3⟩ := q3
      obtain ⟨m', hm, w3⟩ := hN σ3 H3 n3
      exact ⟨m', hm, σ3, H3, I3, w3⟩
    | brk => exact q3
    | ret v => exact q3
  | false =>
    rw [if_neg Bool.false_ne_true]
    exact wpAny_execs_nil ⟨σ1, H2, I2, q2⟩
end

/-! ### what a loop or a comprehension walks -/
/-- at turn i: it yields x (the heap may grow), or it stops -/
structure It where
  go : Nat → Hp → Prop
  yld : Nat → Hp → V → Hp → Prop
  stop : Nat → Hp → Prop
/-- the iterator's own objects may turn: they are not the frame's, not pinned, younger than the entry (or a comprehension's own) -/
noncomputable def FpOk (X : Cx) (pins : List (Addr × Obj)) (H : Hp) (b : Addr) : Prop :=
  H b = none ∧ b ≠ X.env.locals ∧ b ∉ X.fs ∧ (b ∈ X.ex ∨ X.s₀.heap.objs.size ≤ b) ∧ (∀ x c, X.env.cells.lookup x = some c → c ≠ b) ∧ ∀ p ∈ X.pn ++ pins, p.1 ≠ b
theorem Inv.fpOk {X : Cx} {pins : List (Addr × Obj)} {σ : St} {H H' : Hp} {s : Shared} {b : Addr} (I : Inv X pins σ H s) (hb : s.heap.objs.size ≤ b) (hn : H' b = none) : FpOk X pins H' b := by
  refine ⟨hn, Nat.ne_of_gt (Nat.lt_of_lt_of_le I.lt hb), I.nofs hb, .inr (Nat.le_trans I.sz hb), fun x c e z => ?_, fun p hp z => ?_⟩
  · obtain ⟨v, q⟩ := I.cell x c e
    exact absurd (Nat.lt_of_lt_of_le q.lt (by rw [z]; exact hb)) (Nat.lt_irrefl _)
  · exact absurd (Nat.lt_of_lt_of_le (Heap.lt_size (I.pin p hp).1) (by rw [z]; exact hb)) (Nat.lt_irrefl _)
structure Turn (P : Program) (w : World) (K : PySem.W.Frag) (tg : Expr) (J : It) (fp : List Addr) (it : Addr) (tn : Nat → Heap → Prop) : Prop where
  mem : it ∈ fp
  obj : ∀ i h, tn i h → ∀ b ∈ fp, ∃ o, h.get? b = some o ∧ ∀ v, o.data ≠ .cell v
  keep : ∀ i h h', tn i h → (∀ b ∈ fp, ∀ o, h.get? b = some o → h'.get? b = some o) → tn i h'
  item : ∀ (X : Cx), X.prog = P → X.w = w → X.K = K → X.calm = true → ∀ (i : Nat) (pins : List (Addr × Obj)) (s : Shared) (σ : St) (H : Hp) (E : Value → Shared → Prop), Inv X pins σ H s → (∀ b ∈ fp, FpOk X pins H b) → tn i s.heap → J.go i H →
    wpAny (model P w) X.A (pyNext (.ref it)) (fun r s1 => ∃ u, r = some u ∧
      wpAny (model P w) X.A (letOwnedTupleGo tg (.ref it) u) (fun _ s2 => ∃ x H', Inv X pins σ H' s2 ∧ RelV x u ∧ J.yld i H x H' ∧ tn (i + 1) s2.heap ∧ ∀ b ∈ fp, H' b = none) E s1) E s
  done : ∀ (X : Cx), X.prog = P → X.w = w → X.K = K → X.calm = true → ∀ (i : Nat) (pins : List (Addr × Obj)) (s : Shared) (σ : St) (H : Hp) (E : Value → Shared → Prop), Inv X pins σ H s → (∀ b ∈ fp, FpOk X pins H b) → tn i s.heap → J.stop i H →
    wpAny (model P w) X.A (pyNext (.ref it)) (fun r s1 => r = none ∧ Inv X pins σ H s1) E s
  self : ∀ (A : Around) (i : Nat) (s : Shared) (Q : Value → Shared → Prop) (E : Value → Shared → Prop), tn i s.heap → Q (.ref it) s → wpAny (model P w) A (pyIter (.ref it)) Q E s
noncomputable abbrev TI := St → Hp → (It → Hp → Prop) → Prop
/-- an iterator has come -/
noncomputable def PIE (X : Cx) (pins : List (Addr × Obj)) (σ : St) (tg : Expr) (R : It → Hp → Prop) (itv : Value) (s2 : Shared) : Prop :=
  ∃ (it : Addr) (fp : List Addr) (tn : Nat → Heap → Prop) (J : It) (H' : Hp), itv = .ref it ∧ Inv X pins σ H' s2 ∧ Turn X.prog X.w X.K tg J fp it tn ∧ tn 0 s2.heap ∧ (∀ b ∈ fp, FpOk X pins H' b) ∧ R J H'
noncomputable def PI (X : Cx) (tg iter : Expr) (wi : TI) : Prop :=
  ∀ (pins : List (Addr × Obj)) (s : Shared) (σ : St) (H : Hp) (R : It → Hp → Prop), Inv X pins σ H s → wi σ H R →
    wpAny (model X.prog X.w) X.A (eval iter X.env) (fun v s1 => wpAny (model X.prog X.w) X.A (pyIter v) (PIE X pins σ tg R) X.xe s1) X.xe s

/-- the step ahead of the store is nothing for an iterator that keeps no tuple -/
theorem go_of {M : Model} {A : Around} {E : Value → Shared → Prop} {s : Shared} {tg : Expr} {it : Addr} {u : Value} {o : Obj} {n : String} {vs : Array Value} {Q : Unit → Shared → Prop} (ho : s.heap.get? it = some o) (hc : o.cls = .type n) (hd : o.data = .fields vs)
    (hn : ["enumerate", "zip", "dict_itemiterator", "dict_reverseitemiterator", "odict_iterator", "itertools.zip_longest", "itertools.pairwise"].contains n = false) (hQ : Q () s) : wpAny M A (letOwnedTupleGo tg (.ref it) u) Q E s := by
  unfold letOwnedTupleGo
  cases tg <;> first
    | exact wpAny_pure hQ
    | (cases u <;> first
        | exact wpAny_pure hQ
        | (refine wpAny_bind (wpAny_load ho ?_)
           rw [hc, hd]
           show wpAny M A (if (["enumerate", "zip", "dict_itemiterator", "dict_reverseitemiterator", "odict_iterator", "itertools.zip_longest", "itertools.pairwise"].contains n && vs[0]? == some (rawInt _)) = true then _ else _) Q E s
           rw [if_neg (by intro h; rw [hn, Bool.false_and] at h; cases h)]
           exact wpAny_pure hQ))

/-- the list at a, as it stands at each turn (a loop may append to it) -/
noncomputable def Itl (K : PySem.W.Frag) (a : Addr) : It :=
  ⟨fun i H => ∃ xs x, SqL K H a xs ∧ xs[i]? = some x, fun i H x H' => H' = H ∧ ∀ xs, SqL K H a xs → xs[i]? = some x, fun i H => ∃ xs, SqL K H a xs ∧ xs.length ≤ i⟩
noncomputable def Itt (K : PySem.W.Frag) (a : Addr) : It :=
  ⟨fun i H => ∃ xs x, SqT K H a xs ∧ xs[i]? = some x, fun i H x H' => H' = H ∧ ∀ xs, SqT K H a xs → xs[i]? = some x, fun i H => ∃ xs, SqT K H a xs ∧ xs.length ≤ i⟩
/-- lo, lo + 1, .. (n of them) -/
noncomputable def Itr (lo : Int) (n : Nat) : It := ⟨fun i _ => i < n, fun i H x H' => H' = H ∧ x = .int (lo + i), fun i _ => n ≤ i⟩
theorem turn_list {P : Program} {w : World} {K : PySem.W.Frag} {tg : Expr} (a it : Addr) : Turn P w K tg (Itl K a) [it] it (fun i h => h.IsListIter it a i) where
  mem := by simp
  obj := fun i h st b hb => by
    have e : b = it := by simpa using hb
    subst e
    obtain ⟨o, e, c, d⟩ := st
    exact ⟨o, e, fun v z => by rw [d] at z; cases z⟩
  keep := fun i h h' st k => st.at fun o e => k it (by simp) o e
  item := by
    intro X hP hw hK hc i pins s σ H E I hf st hg
    subst hP hw hK
    obtain ⟨xs, x, hq, hx⟩ := hg
    obtain ⟨its, rv, p, hz⟩ := I.list hq
    obtain ⟨u, hu, ru⟩ := rv.get hx
    obtain ⟨f0, f1, f2, f3, f4, f5⟩ := hf it (by simp)
    refine wpAny_pyNext_list_item st p.isList (x := u) (by simpa using hu) fun h' st' sb => ?_
    have I1 : Inv X pins σ H { s with heap := h' } := I.turned (t' := s.toks) (fun b o hb e => (sb.2 b hb).trans e) f0 f1 f3 f4 f5
    obtain ⟨o, e, c, d⟩ := id st'
    exact ⟨u, rfl, go_of (s := { s with heap := h' }) e c d (by decide) ⟨x, H, I1, ru, ⟨rfl, fun ys hy => by rw [I.list_inj hy hq]; exact hx⟩, st', fun b hb => (hf b hb).1⟩⟩
  done := by
    intro X hP hw hK hc i pins s σ H E I hf st hg
    subst hP hw hK
    obtain ⟨xs, hq, hx⟩ := hg
    obtain ⟨its, rv, p, hz⟩ := I.list hq
    obtain ⟨f0, f1, f2, f3, f4, f5⟩ := hf it (by simp)
    have hl := rv.length
    exact wpAny_pyNext_list_end (I.ok.hd hc) st p.isList (by simp; omega) fun h' eb => ⟨rfl, I.turned (t' := s.toks) (fun b o hb e => eb b o hb e) f0 f1 f3 f4 f5⟩
  self := fun _ _ _ _ _ st h => wpAny_pyIter_listiter st h
theorem turn_tuple {P : Program} {w : World} {K : PySem.W.Frag} {tg : Expr} (a it : Addr) : Turn P w K tg (Itt K a) [it] it (fun i h => h.IsTupleIter it a i) where
  mem := by simp
  obj := fun i h st b hb => by
    have e : b = it := by simpa using hb
    subst e
    obtain ⟨o, e, c, d⟩ := st
    exact ⟨o, e, fun v z => by rw [d] at z; cases z⟩
  keep := fun i h h' st k => st.at fun o e => k it (by simp) o e
  item := by
    intro X hP hw hK hc i pins s σ H E I hf st hg
    subst hP hw hK
    obtain ⟨xs, x, hq, hx⟩ := hg
    obtain ⟨its, rv, p, hz⟩ := I.tuple hq
    obtain ⟨u, hu, ru⟩ := rv.get hx
    obtain ⟨f0, f1, f2, f3, f4, f5⟩ := hf it (by simp)
    refine wpAny_pyNext_tuple_item st (show s.heap.IsTuple a its.toArray from p) (x := u) (by simpa using hu) fun h' st' sb => ?_
    have I1 : Inv X pins σ H { s with heap := h' } := I.turned (t' := s.toks) (fun b o hb e => (sb.2 b hb).trans e) f0 f1 f3 f4 f5
    obtain ⟨o, e, c, d⟩ := id st'
    exact ⟨u, rfl, go_of (s := { s with heap := h' }) e c d (by decide) ⟨x, H, I1, ru, ⟨rfl, fun ys hy => by rw [I.tuple_inj hy hq]; exact hx⟩, st', fun b hb => (hf b hb).1⟩⟩
  done := by
    intro X hP hw hK hc i pins s σ H E I hf st hg
    subst hP hw hK
    obtain ⟨xs, hq, hx⟩ := hg
    obtain ⟨its, rv, p, hz⟩ := I.tuple hq
    obtain ⟨f0, f1, f2, f3, f4, f5⟩ := hf it (by simp)
    have hl := rv.length
    exact wpAny_pyNext_tuple_end (I.ok.hd hc) st (show s.heap.IsTuple a its.toArray from p) (by simp; omega) fun h' eb => ⟨rfl, I.turned (t' := s.toks) (fun b o hb e => eb b o hb e) f0 f1 f3 f4 f5⟩
  self := fun _ _ _ _ _ st h => wpAny_pyIter_tupleiter st h
theorem turn_range {P : Program} {w : World} {K : PySem.W.Frag} {tg : Expr} (it : Addr) (lo : Int) (n : Nat) : Turn P w K tg (Itr lo n) [it] it (fun i h => IsRangeIter h it (lo + (i : Nat) * 1) ((n : Int) - (i : Nat)) 1) where
  mem := by simp
  obj := fun i h st b hb => by
    have e : b = it := by simpa using hb
    subst e
    exact ⟨_, st, fun v z => by
      have z' : Data.fields _ = Data.cell v := z
      cases z'⟩
  keep := fun i h h' st k => k it (by simp) _ st
  item := by
    intro X hP hw hK hc i pins s σ H E I hf st hg
    subst hP hw hK
    obtain ⟨f0, f1, f2, f3, f4, f5⟩ := hf it (by simp)
    have W := Walks.range (prog := X.prog) (w := X.w) (I.ok.hd hc) it lo 1 n
    refine W.item i s _ _ hg st fun v h' tk hv st' kk => ?_
    obtain ⟨t, rfl⟩ := hv
    have I1 : Inv X pins σ H { s with heap := h', toks := tk } := I.turned (fun b o hb e => kk b o (by simpa using hb) e) f0 f1 f3 f4 f5
    refine ⟨_, rfl, go_of (s := { s with heap := h', toks := tk }) (n := "range_iterator") st' rfl rfl (by decide) ⟨.int (lo + i), H, I1, ⟨t, ?_⟩, ⟨rfl, rfl⟩, st', fun b hb => (hf b hb).1⟩⟩
    rw [Int.mul_one]
  done := by
    intro X hP hw hK hc i pins s σ H E I hf st hg
    subst hP hw hK
    obtain ⟨f0, f1, f2, f3, f4, f5⟩ := hf it (by simp)
    exact wpAny_pyNext_range_end (I.ok.hd hc) st (by have : n ≤ i := hg; omega) fun h' eb => ⟨rfl, I.turned (t' := s.toks) (fun b o hb e => eb b o hb e) f0 f1 f3 f4 f5⟩
  self := fun _ _ _ _ _ st h => wpAny_pyIter_rangeiter st h
end L2

namespace L2
open PySem PySem.Spec PyProof.Rows
section
variable {X : Cx} {tg : Expr}
/-- a range object just made, walked -/
theorem range_it {pins : List (Addr × Obj)} {σ : St} {H : Hp} {s : Shared} {R : It → Hp → Prop} {E : Value → Shared → Prop} {lo hi : Int} {t u v : Tok} {tk : Nat} (I : Inv X pins σ H s) (h1 : -(2 ^ 62) ≤ lo) (h2 : lo < 2 ^ 62) (h3 : -(2 ^ 62) ≤ hi) (h4 : hi < 2 ^ 62)
    (q : R (Itr lo (hi - lo).toNat) H) : wpAny (model X.prog X.w) X.A (pyIter (.ref s.heap.objs.size)) (PIE X pins σ tg R) E { s with heap := s.heap.push { cls := .type "range", data := .fields #[.int lo t, .int hi u, .int 1 v] }, toks := tk } := by
  refine wpAny_pyIter_range (IsRange.new ..) (small_one h1 h2 h3 h4) ?_
  have I1 : Inv X pins σ H { s with heap := s.heap.push { cls := .type "range", data := .fields #[.int lo t, .int hi u, .int 1 v] }, toks := tk } := I.kept fun b o e => Heap.get?_push_of_some _ e
  refine ⟨(s.heap.push { cls := .type "range", data := .fields #[.int lo t, .int hi u, .int 1 v] }).objs.size, [(s.heap.push { cls := .type "range", data := .fields #[.int lo t, .int hi u, .int 1 v] }).objs.size], _, _, H, rfl,
    I1.kept (t' := tk) fun b o e => Heap.get?_push_of_some _ e, turn_range _ lo (hi - lo).toNat, ?_, fun b hb => ?_, q⟩
  · have e1 : lo + ((0 : Nat) : Int) * 1 = lo := by simp
    have e2 : (((hi - lo).toNat : Nat) : Int) - ((0 : Nat) : Int) = Builtin.Range.rangeSize lo hi 1 := by rw [rangeSize_one]; split <;> omega
    show IsRangeIter _ _ (lo + ((0 : Nat) : Int) * 1) ((((hi - lo).toNat : Nat) : Int) - ((0 : Nat) : Int)) 1
    rw [e1, e2]
    exact Heap.get?_push_size _ rfl
  · have e : b = (s.heap.push { cls := .type "range", data := .fields #[.int lo t, .int hi u, .int 1 v] }).objs.size := by simpa using hb
    subst e
    exact I1.fpOk (Nat.le_refl _) (I1.hok.fresh (Nat.le_refl _))
noncomputable def iRng1 (ta : TA) : TI := fun σ H R => ta σ H fun vs H1 => ∃ j : Int, vs = [.int j] ∧ -(2 ^ 62) ≤ j ∧ j < 2 ^ 62 ∧ R (Itr 0 j.toNat) H1
theorem pi_range1 {a : Expr} {ta : TA} {p pos : Pos} (hg : Gl X "range") (hm : X.mg "range" = none) (ha : PA X [a] ta) (hs : starEach [a] X.env = [(false, eval a X.env)] := by rfl) : PI X tg (.Call (.Name "range" p) [a] [] pos) (iRng1 ta) := by
  intro pins s σ H R I h
  refine Call_ (ld_blt I hg hm boot_range (PyProof.Rows.callWith_type1 (thn (ha pos pins s σ H _ I h) fun us s1 ⟨vs, H1, I1, r1, q1⟩ => ?_) hs rfl))
  obtain ⟨j, e, q1, q2, q⟩ := q1
  subst e
  cases r1 with
  | cons r rr =>
    cases rr
    obtain ⟨t, rfl⟩ := r
    exact call_range_1 (range_it I1 (by omega) (by omega) q1 q2 (by simpa using q))

/-! ### for -/
/-- W: the invariant by the turn and a measure; N: what the body is to reach -/
noncomputable def tFor (wi : TI) (g : TG) (tb : TS) : TS := fun D σ H => wi σ H fun J H1 => ∃ W : Nat → Nat → St → Hp → Prop, (∃ m, W 0 m σ H1) ∧ ∀ i m σ H, W i m σ H →
  (J.stop i H ∧ D.nx σ H) ∨ (J.go i H ∧ ∃ N : St → Hp → Prop, (∀ σ' H', N σ' H' → ∃ m', m' < m ∧ W (i + 1) m' σ' H') ∧ ∀ x H', J.yld i H x H' → g x σ H' fun σ2 H2 => tb { D with nx := N, ct := N, bk := D.nx } σ2 H2)
/-- the records at fp as they stand -/
noncomputable def pinsAt (fp : List Addr) (h : Heap) : List (Addr × Obj) := fp.filterMap fun b => (h.get? b).map fun o => (b, o)
theorem mem_pinsAt {fp : List Addr} {h : Heap} {b : Addr} {o : Obj} (hb : b ∈ fp) (e : h.get? b = some o) : (b, o) ∈ pinsAt fp h := List.mem_filterMap.mpr ⟨b, hb, by rw [e]; rfl⟩
theorem of_pinsAt {fp : List Addr} {h : Heap} {p : Addr × Obj} (hp : p ∈ pinsAt fp h) : p.1 ∈ fp ∧ h.get? p.1 = some p.2 := by
  obtain ⟨b, hb, e⟩ := List.mem_filterMap.mp hp
  cases q : h.get? b with
  | none => rw [q] at e; cases e
  | some o =>
    rw [q] at e
    have e' : (b, o) = p := Option.some.inj e
    subst e'
    exact ⟨hb, q⟩
theorem Inv.pinned {pins : List (Addr × Obj)} {σ : St} {H : Hp} {s : Shared} {fp : List Addr} (I : Inv X pins σ H s) (hf : ∀ b ∈ fp, FpOk X pins H b) (ho : ∀ b ∈ fp, ∃ o, s.heap.get? b = some o ∧ ∀ v, o.data ≠ .cell v) : Inv X (pins ++ pinsAt fp s.heap) σ H s :=
  I.pins_of fun p hp => (List.mem_append.mp hp).elim (fun z => I.pin p (List.mem_append_right _ z)) fun z => by
    obtain ⟨hb, e⟩ := of_pinsAt z
    obtain ⟨f0, f1, f2, _⟩ := hf p.1 hb
    obtain ⟨o, e', d⟩ := ho p.1 hb
    rw [e] at e'; cases e'
    exact ⟨e, f0, f1, f2, d⟩
theorem Inv.unpinned {pins pl : List (Addr × Obj)} {σ : St} {H : Hp} {s : Shared} (I : Inv X (pins ++ pl) σ H s) : Inv X pins σ H s := I.pins_of fun p hp => I.pin p (List.mem_append_right _ (List.mem_append_left _ hp))
theorem ps_for {iter : Expr} {body : List Stmt} {wi : TI} {g : TG} {tb : TS} {pos : Pos} (hp : PassesOwn (model X.prog X.w) X.A X.env X.xe) (hc : X.calm = true) (hi : PI X tg iter wi) (hg : PG X tg g) (hb : PSs X body tb)
    (hs : ∀ x, foldedSetIterable iter X.env x = pure x := by intro _; rfl) : PS X (.For tg iter body [] pos) (tFor wi g tb) := by
  intro pins s σ H D I h
  refine wpAny_For (thn (hi pins s σ H _ I h) fun v s1 h1 => thn h1 fun itv s2 h2 => ?_) hs
  obtain ⟨it, fp, tn, J, H2, e, I2, T, st2, f2, W, ⟨m0, w0⟩, turn⟩ := h2
  subst e
  -- what stays true of the iterator's objects through the loop
  have stat : ∀ {H' : Hp}, (∀ b ∈ fp, H' b = none) → ∀ b ∈ fp, FpOk X pins H' b := fun hn b hb => ⟨hn b hb, (f2 b hb).2⟩
  refine codeAny_forLoop_any (fun n s' => ∃ i σ' H', Inv X pins σ' H' s' ∧ tn i s'.heap ∧ (∀ b ∈ fp, H' b = none) ∧ W i n σ' H') ?_ m0 ⟨0, σ, H2, I2, st2, fun b hb => (f2 b hb).1, w0⟩
  rintro n s3 ⟨i, σ3, H3, I3, st3, fr3, w3⟩
  rcases turn i n σ3 H3 w3 with ⟨stop, qn⟩ | ⟨go, N, hN, step⟩
  · refine wpAny_passesOwn hp (thn (T.done X rfl rfl rfl hc i pins s3 σ3 H3 X.xe I3 (stat fr3) st3 stop) fun r s4 ⟨hr, I4⟩ => ?_)
    subst hr
    exact wpAny_execs_nil ⟨σ3, H3, I4, qn⟩
  · refine wpAny_passesOwn hp (thn (T.item X rfl rfl rfl hc i pins s3 σ3 H3 X.xe I3 (stat fr3) st3 go) fun r s4 ⟨u, hr, h4⟩ => ?_)
    subst hr
    refine wpAny_passesOwn hp (thn h4 fun _ s5 ⟨x, H5, I5, r5, y5, st5, fr5⟩ => ?_)
    have I5' := I5.pinned (stat fr5) (T.obj _ _ st5)
    refine wpAny_passesOwn hp (thn (hg _ s5 σ3 H5 x u _ I5' r5 (step x H5 y5)) fun _ s6 ⟨σ6, H6, I6, q6⟩ => ?_)
    refine wpAny_passesOwn hp (thn (hb _ s6 σ6 H6 _ I6 q6) fun f s7 q7 => ?_)
    have again : ∀ {σ7 : St} {H7 : Hp}, Inv X (pins ++ pinsAt fp s5.heap) σ7 H7 s7 → N σ7 H7 → ∃ m, m < n ∧ ∃ i σ' H', Inv X pins σ' H' s7 ∧ tn i s7.heap ∧ (∀ b ∈ fp, H' b = none) ∧ W i m σ' H' := fun {σ7 H7} I7 n7 => by
      obtain ⟨m', hm, w7⟩ := hN σ7 H7 n7
      refine ⟨m', hm, i + 1, σ7, H7, I7.unpinned, T.keep _ _ _ st5 fun b hb o e => (I7.pin (b, o) (List.mem_append_right _ (List.mem_append_right _ (mem_pinsAt hb e)))).1, fun b hb => ?_, w7⟩
      obtain ⟨o, e, d⟩ := T.obj _ _ st5 b hb
      exact (I7.pin (b, o) (List.mem_append_right _ (List.mem_append_right _ (mem_pinsAt hb e)))).2.1
    cases f with
    | next => obtain ⟨σ7, H7, I7, n7⟩ := q7; exact again I7 n7
    | cont => obtain ⟨σ7, H7, I7, n7⟩ := q7; exact again I7 n7
    | brk => obtain ⟨σ7, H7, I7, q7⟩ := q7; exact ⟨σ7, H7, I7.unpinned, q7⟩
    | ret v => obtain ⟨x7, σ7, H7, I7, r7, q7⟩ := q7; exact ⟨x7, σ7, H7, I7.unpinned, r7, q7⟩
end

/-! ### the forms one uses -/
/-- over a list that the body leaves as it is -/
theorem for_list {K : PySem.W.Frag} {a : Addr} {xs : List V} {g : TG} {tb : TS} {D : Ends} {σ : St} {H : Hp} (Pv : Nat → St → Hp → Prop) (h0 : Pv 0 σ H) (hl : ∀ i σ H, i ≤ xs.length → Pv i σ H → SqL K H a xs)
    (hs : ∀ i x σ H, xs[i]? = some x → Pv i σ H → g x σ H fun σ2 H2 => tb { D with nx := Pv (i + 1), ct := Pv (i + 1), bk := D.nx } σ2 H2) (hd : ∀ σ H, Pv xs.length σ H → D.nx σ H) :
    ∃ W : Nat → Nat → St → Hp → Prop, (∃ m, W 0 m σ H) ∧ ∀ i m σ H, W i m σ H →
      ((Itl K a).stop i H ∧ D.nx σ H) ∨ ((Itl K a).go i H ∧ ∃ N : St → Hp → Prop, (∀ σ' H', N σ' H' → ∃ m', m' < m ∧ W (i + 1) m' σ' H') ∧ ∀ x H', (Itl K a).yld i H x H' → g x σ H' fun σ2 H2 => tb { D with nx := N, ct := N, bk := D.nx } σ2 H2) := by
  refine ⟨fun i m σ H => m = xs.length - i ∧ i ≤ xs.length ∧ Pv i σ H, ⟨xs.length, by simp, Nat.zero_le _, h0⟩, ?_⟩
  rintro i m σ H ⟨rfl, hi, p⟩
  have q := hl i σ H hi p
  by_cases hlt : i < xs.length
  · refine .inr ⟨⟨xs, xs[i], q, by simp [hlt]⟩, Pv (i + 1), fun σ' H' p' => ⟨xs.length - (i + 1), by omega, rfl, hlt, p'⟩, fun x H' y => ?_⟩
    obtain ⟨e, y⟩ := y
    subst e
    exact hs i x σ _ (y xs q) p
  · have e : i = xs.length := by omega
    subst e
    exact .inl ⟨⟨xs, q, Nat.le_refl _⟩, hd σ H p⟩
theorem for_tup {K : PySem.W.Frag} {a : Addr} {xs : List V} {g : TG} {tb : TS} {D : Ends} {σ : St} {H : Hp} (Pv : Nat → St → Hp → Prop) (h0 : Pv 0 σ H) (hl : ∀ i σ H, i ≤ xs.length → Pv i σ H → SqT K H a xs)
    (hs : ∀ i x σ H, xs[i]? = some x → Pv i σ H → g x σ H fun σ2 H2 => tb { D with nx := Pv (i + 1), ct := Pv (i + 1), bk := D.nx } σ2 H2) (hd : ∀ σ H, Pv xs.length σ H → D.nx σ H) :
    ∃ W : Nat → Nat → St → Hp → Prop, (∃ m, W 0 m σ H) ∧ ∀ i m σ H, W i m σ H →
      ((Itt K a).stop i H ∧ D.nx σ H) ∨ ((Itt K a).go i H ∧ ∃ N : St → Hp → Prop, (∀ σ' H', N σ' H' → ∃ m', m' < m ∧ W (i + 1) m' σ' H') ∧ ∀ x H', (Itt K a).yld i H x H' → g x σ H' fun σ2 H2 => tb { D with nx := N, ct := N, bk := D.nx } σ2 H2) := by
  refine ⟨fun i m σ H => m = xs.length - i ∧ i ≤ xs.length ∧ Pv i σ H, ⟨xs.length, by simp, Nat.zero_le _, h0⟩, ?_⟩
  rintro i m σ H ⟨rfl, hi, p⟩
  have q := hl i σ H hi p
  by_cases hlt : i < xs.length
  · refine .inr ⟨⟨xs, xs[i], q, by simp [hlt]⟩, Pv (i + 1), fun σ' H' p' => ⟨xs.length - (i + 1), by omega, rfl, hlt, p'⟩, fun x H' y => ?_⟩
    obtain ⟨e, y⟩ := y
    subst e
    exact hs i x σ _ (y xs q) p
  · have e : i = xs.length := by omega
    subst e
    exact .inl ⟨⟨xs, q, Nat.le_refl _⟩, hd σ H p⟩
theorem for_range {lo : Int} {n : Nat} {g : TG} {tb : TS} {D : Ends} {σ : St} {H : Hp} (Pv : Nat → St → Hp → Prop) (h0 : Pv 0 σ H)
    (hs : ∀ i σ H, i < n → Pv i σ H → g (.int (lo + i)) σ H fun σ2 H2 => tb { D with nx := Pv (i + 1), ct := Pv (i + 1), bk := D.nx } σ2 H2) (hd : ∀ σ H, Pv n σ H → D.nx σ H) :
    ∃ W : Nat → Nat → St → Hp → Prop, (∃ m, W 0 m σ H) ∧ ∀ i m σ H, W i m σ H →
      ((Itr lo n).stop i H ∧ D.nx σ H) ∨ ((Itr lo n).go i H ∧ ∃ N : St → Hp → Prop, (∀ σ' H', N σ' H' → ∃ m', m' < m ∧ W (i + 1) m' σ' H') ∧ ∀ x H', (Itr lo n).yld i H x H' → g x σ H' fun σ2 H2 => tb { D with nx := N, ct := N, bk := D.nx } σ2 H2) := by
  refine ⟨fun i m σ H => m = n - i ∧ i ≤ n ∧ Pv i σ H, ⟨n, by simp, Nat.zero_le _, h0⟩, ?_⟩
  rintro i m σ H ⟨rfl, hi, p⟩
  by_cases hlt : i < n
  · refine .inr ⟨hlt, Pv (i + 1), fun σ' H' p' => ⟨n - (i + 1), by omega, rfl, hlt, p'⟩, fun x H' y => ?_⟩
    obtain ⟨e, y⟩ := y
    subst e y
    exact hs i σ _ hlt p
  · have e : i = n := by omega
    subst e
    exact .inl ⟨Nat.le_refl _, hd σ H p⟩
end L2

namespace L2
open PySem PySem.Spec PyProof.Rows

noncomputable abbrev R2 := V → V → Hp → VK → Prop
/-- a two-place operation on values: f is binaryOp op, inplaceOp op or compareOp op -/
noncomputable def OpR (X : Cx) (f : Value → Value → Sem Value) (r : R2) : Prop :=
  ∀ (pins : List (Addr × Obj)) (s : Shared) (σ : St) (H : Hp) (x y : V) (v u : Value) (Q : VK), Inv X pins σ H s → RelV x v → RelV y u → r x y H Q →
    wpAny (model X.prog X.w) X.A (f v u) (EP X pins σ Q) X.xe s
/-- a call of a value that is known (a builtin, a type) with values -/
noncomputable def CallR (X : Cx) (f : Value) (r : List V → Hp → VK → Prop) : Prop :=
  ∀ (pins : List (Addr × Obj)) (s : Shared) (σ : St) (H : Hp) (xs : List V) (us : List Value) (Q : VK), Inv X pins σ H s → Vals xs us → r xs H Q →
    wpAny (model X.prog X.w) X.A (call f us) (EP X pins σ Q) X.xe s

noncomputable def tOp (r : R2) (ta tb : TE) : TE := fun σ H Q => ta σ H fun x H1 => tb σ H1 fun y H2 => r x y H2 Q
/-- ints in, under C, and a value out -/
noncomputable def rI (C : Int → Int → Prop) (g : Int → Int → V) : R2 := fun x y H Q => ∃ i j, x = .int i ∧ y = .int j ∧ C i j ∧ Q (g i j) H
noncomputable def rI0 (g : Int → Int → V) : R2 := fun x y H Q => ∃ i j, x = .int i ∧ y = .int j ∧ Q (g i j) H

section
variable {X : Cx} {a b c : Expr} {ta tb tc : TE} {pos : Pos}

theorem binT (ha : PE X a ta) (hb : PE X b tb) {pins : List (Addr × Obj)} {s : Shared} {σ : St} {H : Hp} {R : V → V → Hp → Prop} (I : Inv X pins σ H s)
    (h : ta σ H fun x H1 => tb σ H1 fun y H2 => R x y H2) {Q : Value → Shared → Prop} {f : Value → Value → Sem Value}
    (hf : ∀ v u s2 x y H2, Inv X pins σ H2 s2 → RelV x v → RelV y u → R x y H2 → wpAny (model X.prog X.w) X.A (f v u) Q X.xe s2) :
    wpAny (model X.prog X.w) X.A (eval a X.env) (fun v s₁ => wpAny (model X.prog X.w) X.A (eval b X.env) (fun u s₂ => wpAny (model X.prog X.w) X.A (f v u) Q X.xe s₂) X.xe s₁) X.xe s := by
  refine thn (ha pins s σ H _ I h) fun v s1 ⟨x, H1, I1, r1, q1⟩ => ?_
  refine thn (hb pins s1 σ H1 _ I1 q1) fun u s2 ⟨y, H2, I2, r2, q2⟩ => ?_
  exact hf v u s2 x y H2 I2 r1 r2 q2

theorem pe_op {op : Operator} {r : R2} (ho : OpR X (binaryOp op) r) (ha : PE X a ta) (hb : PE X b tb) : PE X (.BinOp a op b pos) (tOp r ta tb) := by
  intro pins s σ H Q I h
  exact wpAny_BinOp (binT ha hb I h fun v u s2 x y H2 I2 rx ry q => ho pins s2 σ H2 x y v u Q I2 rx ry q)

/-! ### ints -/
theorem opI {f : Value → Value → Sem Value} {C : Int → Int → Prop} {g : Int → Int → Int}
    (rule : ∀ (i j : Int) (t u : Tok) (s : Shared) (Q : Value → Shared → Prop) (E : Value → Shared → Prop), C i j → Q (.int (g i j) s.toks) { s with toks := s.toks + 1 } → wpAny (model X.prog X.w) X.A (f (.int i t) (.int j u)) Q E s) :
    OpR X f (rI C fun i j => .int (g i j)) := by
  intro pins s σ H x y v u Q I rx ry h
  obtain ⟨i, j, rfl, rfl, hc, q⟩ := h
  obtain ⟨t, rfl⟩ := rx
  obtain ⟨t', rfl⟩ := ry
  exact rule i j t t' s _ _ hc ⟨.int (g i j), H, I.tok _, ⟨_, rfl⟩, q⟩
theorem opI0 {f : Value → Value → Sem Value} {g : Int → Int → Int}
    (rule : ∀ (i j : Int) (t u : Tok) (s : Shared) (Q : Value → Shared → Prop) (E : Value → Shared → Prop), Q (.int (g i j) s.toks) { s with toks := s.toks + 1 } → wpAny (model X.prog X.w) X.A (f (.int i t) (.int j u)) Q E s) :
    OpR X f (rI0 fun i j => .int (g i j)) := by
  intro pins s σ H x y v u Q I rx ry h
  obtain ⟨i, j, rfl, rfl, q⟩ := h
  obtain ⟨t, rfl⟩ := rx
  obtain ⟨t', rfl⟩ := ry
  exact rule i j t t' s _ _ ⟨.int (g i j), H, I.tok _, ⟨_, rfl⟩, q⟩
theorem opB0 {f : Value → Value → Sem Value} {g : Int → Int → Bool}
    (rule : ∀ (i j : Int) (t u : Tok) (s : Shared) (Q : Value → Shared → Prop) (E : Value → Shared → Prop), Q (.bool (g i j)) s → wpAny (model X.prog X.w) X.A (f (.int i t) (.int j u)) Q E s) :
    OpR X f (rI0 fun i j => .bl (g i j)) := by
  intro pins s σ H x y v u Q I rx ry h
  obtain ⟨i, j, rfl, rfl, q⟩ := h
  obtain ⟨t, rfl⟩ := rx
  obtain ⟨t', rfl⟩ := ry
  exact rule i j t t' s _ _ ⟨.bl (g i j), H, I, rfl, q⟩

noncomputable def CDiv (i j : Int) : Prop := 0 < j ∧ j < 1073741824
noncomputable def CPow (i j : Int) : Prop := 0 ≤ j ∧ j ≤ 1000000 ∧ i.natAbs < 2 ^ 64
noncomputable def CMul (i j : Int) : Prop := (-(2 ^ 64) < i ∧ i < 2 ^ 64) ∨ (-(2 ^ 64) < j ∧ j < 2 ^ 64)
theorem CMul.ok {i j : Int} (h : CMul i j) : IntMulOk i j := by
  rcases h with ⟨h1, h2⟩ | ⟨h1, h2⟩
  · exact .of_left (intBits_le_64 h1 h2)
  · exact .of_right (intBits_le_64 h1 h2)

theorem op_add : OpR X (binaryOp .Add) (rI0 fun i j => .int (i + j)) := opI0 fun _ _ _ _ _ _ _ q => add_int q
theorem op_sub : OpR X (binaryOp .Sub) (rI0 fun i j => .int (i - j)) := opI0 fun _ _ _ _ _ _ _ q => sub_int q
theorem op_mul : OpR X (binaryOp .Mult) (rI CMul fun i j => .int (i * j)) := opI fun _ _ _ _ _ _ _ hc q => mul_int q hc.ok
/-- // by a positive divisor -/
theorem op_fdiv : OpR X (binaryOp .FloorDiv) (rI CDiv fun i j => .int (i / j)) := opI fun i j _ _ _ _ _ hc q => by
  have h1 : (0 : Int) < j := hc.1
  have h2 : j < 1073741824 := hc.2
  exact floordiv_int (by omega) (by rw [Int.fdiv_eq_ediv_of_nonneg i (by omega)]; exact q) (.inl (PyProof.noPylong_small (by omega)))
/-- % by a positive divisor of any size -/
theorem op_mod : OpR X (binaryOp .Mod) (rI (fun _ j => 0 < j) fun i j => .int (i % j)) := opI fun i j _ _ _ _ _ hc q => by
  have h1 : (0 : Int) < j := hc
  exact mod_int' (by omega) (by rw [Int.fmod_eq_emod_of_nonneg i (by omega)]; exact q)
theorem op_pow : OpR X (binaryOp .Pow) (rI CPow fun i j => .int (i ^ j.toNat)) := opI fun _ _ _ _ _ _ _ hc q => pow_int_small hc.1 hc.2.1 hc.2.2 q



/-! ### bools among ints: n += (a < b) -/
end

/-! ### comparisons -/
/-- the scalars that == tells apart as data does -/
noncomputable def scal : V → V → Bool
  | .non, .non => true | .non, .int _ => true | .int _, .non => true | .non, .bl _ => true | .bl _, .non => true | .non, .str _ => true | .str _, .non => true
  | .int _, .int _ => true | .bl _, .bl _ => true | .str _, .str _ => true | .byt _, .byt _ => true
  | .int _, .str _ => true | .str _, .int _ => true | .bl _, .str _ => true | .str _, .bl _ => true
  | _, _ => false
noncomputable def rEq : R2 := fun x y H Q => scal x y = true ∧ Q (.bl (decide (x = y))) H
noncomputable def rNe : R2 := fun x y H Q => scal x y = true ∧ Q (.bl (!decide (x = y))) H

theorem dec_int {i j : Int} : decide (V.int i = V.int j) = (i == j) := by
  rw [Bool.eq_iff_iff]
  simp
theorem dec_bl {i j : Bool} : decide (V.bl i = V.bl j) = (i == j) := by
  rw [Bool.eq_iff_iff]
  simp
theorem dec_str {i j : Str} : decide (V.str i = V.str j) = (i == j) := by
  rw [Bool.eq_iff_iff]
  simp
theorem dec_byt {i j : Array UInt8} : decide (V.byt i = V.byt j) = (i.toList == j.toList) := by
  rw [Bool.eq_iff_iff]
  cases i
  cases j
  simp

section
variable {X : Cx} {a b c : Expr} {ta tb tc : TE} {pos : Pos}
theorem fin_bl {pins : List (Addr × Obj)} {σ : St} {H : Hp} {s : Shared} {Q : VK} {k k' : Bool} (I : Inv X pins σ H s) (q : Q (.bl k) H) (e : k = k') : EP X pins σ Q (.bool k') s := by
  subst e
  exact ⟨.bl k, H, I, rfl, q⟩
theorem op_eq : OpR X (compareOp .Eq) rEq := by
  intro pins s σ H x y v u Q I rx ry h
  obtain ⟨hs, q⟩ := h
  cases x with
  | non =>
    cases rx
    cases y with
    | non => cases ry; exact PySem.EqNone.eq_none_none (fin_bl I q (by simp))
    | bl j => cases ry; exact PySem.EqNone.eq_none_bool (fin_bl I q (by simp))
    | int j => obtain ⟨t', rfl⟩ := ry; exact PySem.EqNone.eq_none_int (fin_bl I q (by simp))
    | str j => obtain ⟨t', rfl⟩ := ry; exact PySem.EqNone.eq_none_str (fin_bl I q (by simp))
    | _ => exact absurd (show false = true from hs) Bool.false_ne_true
  | bl i =>
    cases rx
    cases y with
    | non => cases ry; exact PySem.EqNone.eq_bool_none (fin_bl I q (by simp))
    | bl j => cases ry; exact eq_bool (fin_bl I q dec_bl)
    | str j => obtain ⟨t', rfl⟩ := ry; exact PySem.EqMixed.eq_bool_str (fin_bl I q (by simp))
    | _ => exact absurd (show false = true from hs) Bool.false_ne_true
  | int i =>
    obtain ⟨t, rfl⟩ := rx
    cases y with
    | non => cases ry; exact PySem.EqNone.eq_int_none (fin_bl I q (by simp))
    | int j => obtain ⟨t', rfl⟩ := ry; exact eq_int (fin_bl I q dec_int)
    | str j => obtain ⟨t', rfl⟩ := ry; exact PySem.EqMixed.eq_int_str (fin_bl I q (by simp))
    | _ => exact absurd (show false = true from hs) Bool.false_ne_true
  | str i =>
    obtain ⟨t, rfl⟩ := rx
    cases y with
    | non => cases ry; exact PySem.EqNone.eq_str_none (fin_bl I q (by simp))
    | bl j => cases ry; exact PySem.EqMixed.eq_str_bool (fin_bl I q (by simp))
    | int j => obtain ⟨t', rfl⟩ := ry; exact PySem.EqMixed.eq_str_int (fin_bl I q (by simp))
    | str j => obtain ⟨t', rfl⟩ := ry; exact eq_str (fin_bl I q dec_str)
    | _ => exact absurd (show false = true from hs) Bool.false_ne_true
  | byt i =>
    obtain ⟨t, rfl⟩ := rx
    cases y with
    | byt j => obtain ⟨t', rfl⟩ := ry; exact PySem.W.eq_bytes (fin_bl I q dec_byt)
    | _ => exact absurd (show false = true from hs) Bool.false_ne_true
  | _ => cases y <;> exact absurd (show false = true from hs) Bool.false_ne_true
theorem op_ne : OpR X (compareOp .NotEq) rNe := by
  intro pins s σ H x y v u Q I rx ry h
  obtain ⟨hs, q⟩ := h
  cases x with
  | non =>
    cases rx
    cases y with
    | non => cases ry; exact PySem.EqNone.ne_none_none (fin_bl I q (by simp))
    | bl j => cases ry; exact PySem.EqNone.ne_none_bool (fin_bl I q (by simp))
    | int j => obtain ⟨t', rfl⟩ := ry; exact PySem.EqNone.ne_none_int (fin_bl I q (by simp))
    | str j => obtain ⟨t', rfl⟩ := ry; exact PySem.EqNone.ne_none_str (fin_bl I q (by simp))
    | _ => exact absurd (show false = true from hs) Bool.false_ne_true
  | bl i =>
    cases rx
    cases y with
    | non => cases ry; exact PySem.EqNone.ne_bool_none (fin_bl I q (by simp))
    | bl j => cases ry; exact ne_bool (fin_bl I q (congrArg not dec_bl))
    | str j => obtain ⟨t', rfl⟩ := ry; exact PySem.EqMixed.ne_bool_str (fin_bl I q (by simp))
    | _ => exact absurd (show false = true from hs) Bool.false_ne_true
  | int i =>
    obtain ⟨t, rfl⟩ := rx
    cases y with
    | non => cases ry; exact PySem.EqNone.ne_int_none (fin_bl I q (by simp))
    | int j => obtain ⟨t', rfl⟩ := ry; exact ne_int (fin_bl I q (congrArg not dec_int))
    | str j => obtain ⟨t', rfl⟩ := ry; exact PySem.EqMixed.ne_int_str (fin_bl I q (by simp))
    | _ => exact absurd (show false = true from hs) Bool.false_ne_true
  | str i =>
    obtain ⟨t, rfl⟩ := rx
    cases y with
    | non => cases ry; exact PySem.EqNone.ne_str_none (fin_bl I q (by simp))
    | bl j => cases ry; exact PySem.EqMixed.ne_str_bool (fin_bl I q (by simp))
    | int j => obtain ⟨t', rfl⟩ := ry; exact PySem.EqMixed.ne_str_int (fin_bl I q (by simp))
    | str j => obtain ⟨t', rfl⟩ := ry; exact ne_str (fin_bl I q (congrArg not dec_str))
    | _ => exact absurd (show false = true from hs) Bool.false_ne_true
  | byt i =>
    obtain ⟨t, rfl⟩ := rx
    cases y with
    | byt j => obtain ⟨t', rfl⟩ := ry; exact PySem.W.ne_bytes (fin_bl I q (congrArg not dec_byt))
    | _ => exact absurd (show false = true from hs) Bool.false_ne_true
  | _ => cases y <;> exact absurd (show false = true from hs) Bool.false_ne_true

theorem op_lt : OpR X (compareOp .Lt) (rI0 fun i j => .bl (decide (i < j))) := opB0 fun _ _ _ _ _ _ _ q => lt_int q
theorem op_le : OpR X (compareOp .LtE) (rI0 fun i j => .bl (decide (i ≤ j))) := opB0 fun _ _ _ _ _ _ _ q => le_int q
theorem op_gt : OpR X (compareOp .Gt) (rI0 fun i j => .bl (decide (j < i))) := opB0 fun _ _ _ _ _ _ _ q => gt_int q
theorem op_ge : OpR X (compareOp .GtE) (rI0 fun i j => .bl (decide (j ≤ i))) := opB0 fun _ _ _ _ _ _ _ q => ge_int q



/-- two rules for one operation: by cases -/
theorem OpR.or {f : Value → Value → Sem Value} {r r' : R2} (h : OpR X f r) (h' : OpR X f r') : OpR X f (fun x y H Q => r x y H Q ∨ r' x y H Q) := by
  intro pins s σ H x y v u Q I rx ry q
  rcases q with q | q
  · exact h pins s σ H x y v u Q I rx ry q
  · exact h' pins s σ H x y v u Q I rx ry q

theorem nomark (b : Expr) {op : CmpOp} (h : op ≠ .In := by decide) (h2 : op ≠ .NotIn := by decide) : behindInMarks op b = false := by
  have e1 : (op == CmpOp.In) = false := by cases op <;> first | rfl | exact absurd rfl h
  have e2 : (op == CmpOp.NotIn) = false := by cases op <;> first | rfl | exact absurd rfl h2
  cases b <;> simp [behindInMarks, e1, e2]
/-- a comparison as a value; hm: nomark b, or (for in, not in) by with_unfolding_all rfl -/
theorem pe_cmpR {op : CmpOp} {r : R2} (ho : OpR X (compareOp op) r) (ha : PE X a ta) (hb : PE X b tb) (hm : behindInMarks op b = false) : PE X (.Compare a [op] [b] pos) (tOp r ta tb) := by
  intro pins s σ H Q I h
  exact wpAny_Compare1 (binT ha hb I h fun v u s2 x y H2 I2 rx ry q => ho pins s2 σ H2 x y v u Q I2 rx ry q) hm
/-- a reading of a value as a test -/
noncomputable def tTest (t : TE) : TT := fun σ H Q => t σ H fun x H' => ∃ k, x = .bl k ∧ Q k H'
theorem pt_cmpR {op : CmpOp} {r : R2} (ho : OpR X (compareOp op) r) (ha : PE X a ta) (hb : PE X b tb) (hm : behindInMarks op b = false) : PT X (.Compare a [op] [b] pos) (tTest (tOp r ta tb)) := by
  intro pins s σ H Q I h
  refine wpAny_isTrue_Compare1 (thn (ha pins s σ H _ I h) fun v s1 ⟨x, H1, I1, r1, q1⟩ => thn (hb pins s1 σ H1 _ I1 q1) fun u s2 ⟨y, H2, I2, r2, q2⟩ =>
    thn (ho pins s2 σ H2 x y v u _ I2 r1 r2 q2) fun c s3 ⟨z, H3, I3, r3, k, e, q3⟩ => ?_) hm
  subst e
  cases r3
  exact wpAny_truthy_bool ⟨H3, I3, q3⟩
/-- a op1 b op2 c -/
noncomputable def tChain (r r' : R2) (ta tb tc : TE) : TE := fun σ H Q => ta σ H fun x H1 => tb σ H1 fun y H2 => r x y H2 fun z H3 => ∃ k, z = .bl k ∧
  (if k = true then tc σ H3 fun w' H4 => r' y w' H4 Q else Q (.bl false) H3)
theorem pt_chain {op op' : CmpOp} {r r' : R2} (ho : OpR X (compareOp op) r) (ho' : OpR X (compareOp op') r') (ha : PE X a ta) (hb : PE X b tb) (hc : PE X c tc)
    (hm : lastMarks [op, op'] [b, c] = false := by with_unfolding_all rfl) : PT X (.Compare a [op, op'] [b, c] pos) (tTest (tChain r r' ta tb tc)) := by
  intro pins s σ H Q I h
  refine isTrue_chain (thn (ha pins s σ H _ I h) fun v s1 ⟨x, H1, I1, r1, q1⟩ => test_link (thn (hb pins s1 σ H1 _ I1 q1) fun u s2 ⟨y, H2, I2, r2, q2⟩ =>
    thn (ho pins s2 σ H2 x y v u _ I2 r1 r2 q2) fun d s3 ⟨z, H3, I3, r3, k, e, q3⟩ => ?_)) hm
  subst e
  cases r3
  refine wpAny_truthy_bool ?_
  cases k with
  | false =>
    obtain ⟨k', e', q'⟩ := q3
    cases e'
    exact ite_ff ⟨H3, I3, q'⟩
  | true =>
    refine ite_tt (test_last (thn (hc pins s3 σ H3 _ I3 q3) fun w' s4 ⟨z', H4, I4, r4, q4⟩ => thn (ho' pins s4 σ H4 y z' u w' _ I4 r2 r4 q4) fun d' s5 ⟨z2, H5, I5, r5, k2, e2, q5⟩ => ?_))
    subst e2
    cases r5
    exact wpAny_truthy_bool ⟨H5, I5, q5⟩

/-! ### truth -/
theorem line63 : (sizeLine : Nat) < 2 ^ 63 := by rw [sizeLine_eq]; decide

/-! ### strs and bytes -/


/-! ### scalar builtins, by CallR -/
theorem vals1 {x : V} {us : List Value} (r : Vals [x] us) : ∃ u, us = [u] ∧ RelV x u := by
  cases r with
  | cons r1 r2 => cases r2; exact ⟨_, rfl, r1⟩
theorem vals2 {x y : V} {us : List Value} (r : Vals [x, y] us) : ∃ u w', us = [u, w'] ∧ RelV x u ∧ RelV y w' := by
  cases r with
  | cons r1 r2 =>
    cases r2 with
    | cons r3 r4 => cases r4; exact ⟨_, _, rfl, r1, r3⟩
theorem call_max2 (hc : X.calm = true) : CallR X (.builtin "max") (fun xs H Q => ∃ i j, xs = [.int i, .int j] ∧ Q (.int (if j > i then j else i)) H) := by
  intro pins s σ H xs us Q I r h
  obtain ⟨i, j, rfl, q⟩ := h
  obtain ⟨u, w', rfl, ⟨t, rfl⟩, ⟨t', rfl⟩⟩ := vals2 r
  refine max_two_ints (I.ok.hd hc) fun h' tk k => ⟨_, H, I.kept k, ?_, q⟩
  by_cases hj : j > i
  · rw [if_pos hj, if_pos hj]; exact ⟨_, rfl⟩
  · rw [if_neg hj, if_neg hj]; exact ⟨_, rfl⟩
theorem call_int1 : CallR X (.type "int") (fun xs H Q => (∃ i, xs = [.int i] ∧ Q (.int i) H) ∨ ∃ k, xs = [.bl k] ∧ Q (.int (if k then 1 else 0)) H) := by
  intro pins s σ H xs us Q I r h
  rcases h with ⟨i, rfl, q⟩ | ⟨k, rfl, q⟩
  · obtain ⟨u, rfl, t, rfl⟩ := vals1 r
    exact call_int_int ⟨.int i, H, I, ⟨_, rfl⟩, q⟩
  · obtain ⟨u, rfl, r1⟩ := vals1 r
    cases r1
    exact call_int_bool ⟨.int (if k then 1 else 0), H, I.tok _, ⟨_, rfl⟩, q⟩
end
end L2

namespace L2
open PySem PySem.Spec PyProof.Rows

/-! ### an instance, its attributes a map -/
structure ObjM (h : Heap) (x dx C : Addr) (mA : Str → Option Value) : Prop where
  obj : h.get? x = some (PySem.W.instObj C dx)
  ns : h.Ns1 dx mA
  ne : dx ≠ x

theorem lookIn_ns {h : Heap} {dx : Addr} {mA : Str → Option Value} (n : h.Ns1 dx mA) : ∃ od, h.get? dx = some od ∧ ∀ name, PySem.W.lookIn name od = some (mA name) := by
  obtain ⟨o, es, ep, ho, hd, hk, _, hm⟩ := n
  refine ⟨o, ho, fun name => ?_⟩
  have e := hm name
  unfold nsFind findBy at e
  rw [← Array.find?_toList] at e
  unfold PySem.W.lookIn
  rw [hd]
  dsimp only
  split
  · rename_i y q
    rw [q] at e
    exact congrArg some e
  · rename_i q
    rw [q] at e
    have a : es.toList.any (·.refKey) = false := by
      rw [List.any_eq_false]
      intro y hy
      obtain ⟨z, t, hkey⟩ := hk y (Array.mem_toList_iff.mp hy)
      simp [DictEntry.refKey, hkey]
    have a' : ¬ es.toList.any (·.refKey) = true := by rw [a]; exact Bool.false_ne_true
    rw [if_neg a']
    exact congrArg some e

theorem ObjM.look {h : Heap} {x dx C : Addr} {mA : Str → Option Value} (I : ObjM h x dx C mA) : ∃ od, PySem.W.InstAt h x (PySem.W.instObj C dx) C (some od) ∧ ∀ name, PySem.W.lookIn name od = some (mA name) :=
  let ⟨od, ho, hl⟩ := lookIn_ns I.ns
  ⟨od, ⟨I.obj, rfl, rfl, ho⟩, hl⟩

section
variable {prog : Program} {w : World} {A : Around} {E : Value → Shared → Prop} {s : Shared} {K : PySem.W.Frag} {x dx C f : Addr} {mA : Str → Option Value} {name : Str} {v : Value}





end

/-! ### the attributes as a list of pairs -/

theorem RelO.some_of {v : V} {o : Option Value} (r : RelO (some v) o) : ∃ u, o = some u ∧ RelV v u := by
  cases o with
  | none => exact (show False from r).elim
  | some u => exact ⟨u, rfl, r⟩

section
variable {P : Program} {w : World} {H H' : Hp} {h h' : Heap} {a C dx : Addr} {fs fs' : List (Str × V)}
theorem ins_get (hok : HOk P w H h) (e : H a = some (.ins C dx fs)) : ∃ mA, ObjM h a dx C mA ∧ (∀ f, RelO (fs.lookup f) (mA f)) ∧ PySem.Within mA (fs.map (·.1)) ∧ fs.length ≤ 1000 ∧ H dx = some (.own a) := by
  obtain ⟨d, z, ne, ob, mA, n, r, q⟩ := (show ObjOk P w H h a (.ins C dx fs) from hok a _ e)
  exact ⟨mA, ⟨ob, n, ne⟩, r, q, z, d⟩
end

/-! ### what of the text a class must have -/
structure Cls (K : PySem.W.Frag) (C : Addr) : Prop where
  pg : PySem.W.plainGet K C Str.empty = true
  hd : PySem.W.hasDictIn K C = true
  po : PySem.W.plainOver K C = true
  sa : PySem.W.findIn K (.ref C) "__setattr__" = some (some (.builtin "object.__setattr__"))
theorem Cls.get {K : PySem.W.Frag} {C : Addr} (c : Cls K C) (f : Str) : PySem.W.plainGet K C f = true := c.pg
/-- a constant of the class -/
structure Con (K : PySem.W.Frag) (C : Addr) (f : Str) (v : V) (u : Value) : Prop where
  at_ : PySem.W.findIn K (.ref C) f = some (some u)
  rel : RelV v u
  get : PySem.W.specialIn K u "__get__" = some none
  cp : PySem.W.copiedNames.contains f = false
/-- a method: a plain def of the class or of one above it -/
structure Meth (K : PySem.W.Frag) (C : Addr) (m : Str) (f : Addr) : Prop where
  at_ : PySem.W.findIn K (.ref C) m = some (some (.ref f))
  fn : PySem.W.isFn K (.ref f) = true
  kp : PySem.W.keepIn K (.ref f) = true

section
variable {X : Cx} {pins : List (Addr × Obj)} {σ : St} {H : Hp} {s : Shared} {a C dx : Addr} {fs : List (Str × V)} {f : Str} {v : V} {A : Around} {E : Value → Shared → Prop}





/-- a new instance, tracked, without attributes -/
theorem Inv.made (I : Inv X pins σ H s) : Inv X pins σ (upd (upd H s.heap.objs.size (.own (s.heap.objs.size + 1))) (s.heap.objs.size + 1) (.ins C s.heap.objs.size []))
    { s with heap := (s.heap.push PySem.W.emptyDict).push (PySem.W.instObj C s.heap.objs.size) } := by
  have e1 : (s.heap.push PySem.W.emptyDict).get? s.heap.objs.size = some PySem.W.emptyDict := Heap.get?_push_size s.heap rfl
  have e2 : ((s.heap.push PySem.W.emptyDict).push (PySem.W.instObj C s.heap.objs.size)).get? (s.heap.objs.size + 1) = some (PySem.W.instObj C s.heap.objs.size) := by
    have := Heap.get?_push_size (s.heap.push PySem.W.emptyDict) (o := PySem.W.instObj C s.heap.objs.size) rfl
    rwa [Heap.size_push] at this
  have e3 : (s.heap.push PySem.W.emptyDict).Ns s.heap.objs.size (fun _ => none) := ⟨PySem.W.emptyDict, #[], _, e1, rfl, (fun e he => absurd he (by simp)), fun _ => rfl⟩
  have I1 := I.laid (a := s.heap.objs.size) (o := .own (s.heap.objs.size + 1)) (h' := s.heap.push PySem.W.emptyDict) (t' := s.toks) (fun b u q => Heap.get?_push_of_some _ q) (Nat.le_refl _) ⟨_, e1⟩
  refine I1.laid (a := s.heap.objs.size + 1) (o := .ins C s.heap.objs.size []) (t' := s.toks) (fun b u q => Heap.get?_push_of_some _ q) (Nat.le_of_eq (Heap.size_push _ _)) ?_
  have ne : s.heap.objs.size ≠ s.heap.objs.size + 1 := Nat.ne_of_lt (Nat.lt_succ_self _)
  refine ⟨by rw [upd_ne ne, upd_same], Nat.zero_le _, ne, e2, fun _ => none, (Heap.Ns1.of_empty e3).at fun o q => Heap.get?_push_of_some _ q, fun _ => True.intro, fun y hy => absurd rfl hy⟩

end

/-! ### readings and rules -/

section
variable {X : Cx} {o e value : Expr} {f : Str} {pos pos' tpos : Pos} {ta tv : TE}

end

/-! ### isinstance -/
section
variable {X : Cx} {pins : List (Addr × Obj)} {σ : St} {H : Hp} {s : Shared} {A : Around} {E : Value → Shared → Prop} {Q : Value → Shared → Prop} {c : Value} {b : Bool}
/-- the type of a value, as the fragment's deciders take it; for an instance its class -/
inductive TyOf (K : PySem.W.Frag) (H : Hp) : V → Value → Prop where
  | non : TyOf K H .non (.type "NoneType")
  | bl (x : Bool) : TyOf K H (.bl x) (.type "bool")
  | int (i : Int) : TyOf K H (.int i) (.type "int")
  | str (x : Str) : TyOf K H (.str x) (.type "str")
  | flt (x : UInt64) : TyOf K H (.flt x) (.type "float")
  | lst {a : Addr} {xs : List V} (e : H a = some (.lst xs)) : TyOf K H (.ref a) (.type "list")
  | frz {a : Addr} {o : Obj} {xs : List V} (e : H a = some (.frz o (.lst xs))) : TyOf K H (.ref a) (.type "list")
  | tup {a : Addr} {xs : List V} (e : H a = some (.tup xs)) : TyOf K H (.ref a) (.type "tuple")
  | dK {a : Addr} {kvs : List (Key × V)} (e : H a = some (.dK kvs)) : TyOf K H (.ref a) (.type "dict")
  | dT {a : Addr} {kvs : List (List Key × V)} (e : H a = some (.dT kvs)) : TyOf K H (.ref a) (.type "dict")
  | ins {a C dx : Addr} {fs : List (Str × V)} (e : H a = some (.ins C dx fs)) (cl : Cls K C) (ha : PySem.W.findIn K (.ref C) "__class__" = some (some (.builtin "object.__class__")))
      (hn : PySem.W.specialIn K (.builtin "object.__class__") "__get__" = some (some (.builtin "getset_descriptor.__get__"))) (htk : PySem.W.takesIn K (.builtin "object.__class__") = some true)
      (hm : PySem.W.mroIn K C (.type "object") = some true) : TyOf K H (.ref a) (.ref C)
/-- isinstance(x, c) for one class c, a built-in or an own one: kitOne's answer -/
theorem isinst_ok {x : V} {u t : Value} (I : Inv X pins σ H s) (rx : RelV x u) (ty : TyOf X.K H x t) (e : PySem.W.kitOne X.K t c = some b) (h : ∀ tk, Q (.bool b) { s with toks := tk }) :
    wpAny (model X.prog X.w) A (call (.builtin "isinstance") [u, c]) Q E s := by
  cases ty with
  | non => cases (show u = Value.none from rx); exact PySem.W.kia_one PySem.W.kitx_none I.kIn True.intro e (fun z => nomatch z) h
  | bl y => cases (show u = Value.bool y from rx); exact PySem.W.kia_one PySem.W.kitx_bool I.kIn True.intro e (fun z => nomatch z) h
  | int i => obtain ⟨t, q⟩ := (show ∃ t, u = Value.int i t from rx); cases q; exact PySem.W.kia_one PySem.W.kitx_int I.kIn True.intro e (fun z => nomatch z) h
  | str y => obtain ⟨t, q⟩ := (show ∃ t, u = Value.str y t from rx); cases q; exact PySem.W.kia_one PySem.W.kitx_str I.kIn True.intro e (fun z => nomatch z) h
  | flt y => obtain ⟨t, q⟩ := (show ∃ t, u = Value.float y t from rx); cases q; exact PySem.W.kia_one PySem.W.kitx_float I.kIn True.intro e (fun z => nomatch z) h
  | @lst a xs ea =>
    cases (show u = Value.ref a from rx)
    obtain ⟨_, _, n, _, h1⟩ := (show ObjOk X.prog X.w H s.heap a (.lst xs) from I.hok a _ ea)
    exact PySem.W.kia_one PySem.W.kitx_list I.kIn ⟨_, h1, rfl⟩ e (fun z => nomatch z) h
  | @frz a ob xs ea =>
    cases (show u = Value.ref a from rx)
    obtain ⟨_, _, _, n, _, h1⟩ := (show ObjOk X.prog X.w H s.heap a (.frz ob (.lst xs)) from I.hok a _ ea)
    exact PySem.W.kia_one PySem.W.kitx_list I.kIn ⟨_, h1, rfl⟩ e (fun z => nomatch z) h
  | @tup a xs ea =>
    cases (show u = Value.ref a from rx)
    obtain ⟨_, _, _, p⟩ := (show ObjOk X.prog X.w H s.heap a (.tup xs) from I.hok a _ ea)
    obtain ⟨o, h1, h2, _⟩ := p
    exact PySem.W.kia_one PySem.W.kitx_tuple I.kIn ⟨o, h1, h2⟩ e (fun z => nomatch z) h
  | @dK a kvs ea =>
    cases (show u = Value.ref a from rx)
    obtain ⟨_, _, vs, _, p⟩ := (show ObjOk X.prog X.w H s.heap a (.dK kvs) from I.hok a _ ea)
    obtain ⟨o, es, ep, h1, h2, _⟩ := p
    exact PySem.W.kia_one PySem.W.kitx_dict I.kIn ⟨o, h1, h2.1⟩ e (fun z => nomatch z) h
  | @dT a kvs ea =>
    cases (show u = Value.ref a from rx)
    obtain ⟨_, _, xs, _, o, es, ep, h1, h2, _⟩ := (show ObjOk X.prog X.w H s.heap a (.dT kvs) from I.hok a _ ea)
    exact PySem.W.kia_one PySem.W.kitx_dict I.kIn ⟨o, h1, h2.1⟩ e (fun z => nomatch z) h
  | @ins a C dx fs ea cl ha hn htk hm =>
    cases (show u = Value.ref a from rx)
    obtain ⟨mA, O, _⟩ := ins_get I.hok ea
    obtain ⟨od, J, _⟩ := O.look
    exact PySem.W.kia_one (PySem.W.kitx_own (cl.get _) cl.hd ha hn htk hm) I.kIn J e (fun z => nomatch z) h
end
end L2

namespace L2
open PySem PySem.Spec PyProof.Rows

/-! ### room -/
structure Room (k : Nat) (A : Around) : Prop where
  hd : A.handled = none
  dp : A.depth + 3 * k + 5 < recursionLimit
  un : A.units + 16 * k + 200 < cLine
  gd : A.guards = some []
theorem Room.mono {j k : Nat} {A : Around} (r : Room k A) (h : j ≤ k) : Room j A := ⟨r.hd, by have := r.dp; omega, by have := r.un; omega, r.gd⟩
theorem Room.deeper {k : Nat} {A : Around} (r : Room (k + 1) A) (env : Env) : Room k (A.deeper env) :=
  ⟨r.hd, by have := r.dp; show A.depth + 1 + 3 * k + 5 < _; omega, by have := r.un; show A.units + 3 + 16 * k + 200 < _; omega, r.gd⟩
theorem Room.in1 {k : Nat} {A : Around} (r : Room (k + 1) A) : Room k A.in1 :=
  ⟨r.hd, by have := r.dp; show A.depth + 3 * k + 5 < _; omega, by have := r.un; show A.units + 1 + 16 * k + 200 < _; omega, r.gd⟩
theorem Room.depth {k : Nat} {A : Around} (r : Room k A) : A.depth < recursionLimit := by have := r.dp; omega
theorem Room.units {k : Nat} {A : Around} (r : Room k A) : A.units + 64 < cLine := by have := r.un; omega

/-! ### argument lists and displays -/
noncomputable def tNil : TA := fun _ H Q => Q [] H
noncomputable def tCons (ta : TE) (tr : TA) : TA := fun σ H Q => ta σ H fun x H1 => tr σ H1 fun xs H2 => Q (x :: xs) H2
section
variable {X : Cx} {e : Expr} {es : List Expr} {te : TE} {t : TA} {pos : Pos}
theorem pa_nil : PA X [] tNil := fun _ _ _ _ H Q I h => Calls.spliced_nil ⟨[], H, I, .nil, h⟩
theorem pa_cons (ha : PE X e te) (hr : PA X es t) (hs : starEach (e :: es) X.env = (false, eval e X.env) :: starEach es X.env := by rfl) : PA X (e :: es) (tCons te t) := by
  intro pos pins s σ H Q I h
  rw [hs]
  show wpAny _ _ (spliced ((false, eval e X.env) :: backTo pos (starEach es X.env))) _ _ s
  refine Calls.spliced_cons (thn (ha pins s σ H _ I h) fun u s1 ⟨x, H1, I1, r1, q1⟩ => ?_)
  exact thn (hr pos pins s1 σ H1 _ I1 q1) fun us s2 ⟨xs, H2, I2, r2, q2⟩ => ⟨x :: xs, H2, I2, .cons r1 r2, q2⟩

/-- a tuple, a list of written items -/
noncomputable def tTup (t : TA) : TE := fun σ H Q => t σ H fun xs H1 => xs.length ≤ sizeLine ∧ ∀ p, H1 p = none → Q (.ref p) (upd H1 p (.tup xs))
noncomputable def tLst (t : TA) : TE := fun σ H Q => t σ H fun xs H1 => xs.length ≤ sizeLine ∧ ∀ p, H1 p = none → Q (.ref p) (upd H1 p (.lst xs))
theorem pe_tup {x1} (h : PA X es t) : PE X (.Tuple es x1 pos) (tTup t) := by
  intro pins s σ H Q I hq
  refine wpAny_Tuple_spliced (thn (h pos pins s σ H _ I hq) fun us s1 ⟨xs, H1, I1, r, z, q⟩ => ⟨by rw [← r.length]; exact z, ?_⟩)
  have hf : H1 s1.heap.objs.size = none := I1.hok.fresh (Nat.le_refl _)
  refine ⟨.ref s1.heap.objs.size, upd H1 s1.heap.objs.size (.tup xs), I1.laid (t' := s1.toks) (fun b u e => Heap.get?_push_of_some _ e) (Nat.le_refl _) ?_, rfl, q _ hf⟩
  exact ⟨z, us, r, ⟨_, Heap.get?_push_size _ rfl, rfl, _, rfl⟩⟩
theorem pe_lst (h : PA X es t) : PE X (.List es pos) (tLst t) := by
  intro pins s σ H Q I hq
  refine wpAny_List_spliced (thn (h pos pins s σ H _ I hq) fun us s1 ⟨xs, H1, I1, r, z, q⟩ => ⟨by rw [← r.length]; exact z, ?_⟩)
  have hf : H1 s1.heap.objs.size = none := I1.hok.fresh (Nat.le_refl _)
  refine ⟨.ref s1.heap.objs.size, upd H1 s1.heap.objs.size (.lst xs), I1.laid (t' := s1.toks) (fun b u e => Heap.get?_push_of_some _ e) (Nat.le_refl _) ?_, rfl, q _ hf⟩
  exact ⟨z, us, 0, r, Heap.get?_push_size _ rfl⟩
end

/-! ### what a def promises -/
/-- a def's promise: the bound arguments in the parameters' order, the heap, the wanted end, the wanted exception -/
noncomputable abbrev Sp := List V → Hp → VK → XK → Prop
/-- how an exception lies behind a call (file 08 gives it): the callers' frames, abstract heap and state ahead of the call, the wish, the exception, the state -/
noncomputable abbrev CXT := List Env → Hp → Shared → XK → Value → Shared → Prop

/-- the state at a call -/
structure Env0 (P : Program) (w : World) (K : PySem.W.Frag) (mg : Str → Option Value) (base : Heap) (A : Around) (outer : List Env) (s : Shared) (H : Hp) : Prop where
  frames : A.frames = some outer
  mod : Mod K mg base
  bs : ∀ b o, base.get? b = some o → s.heap.get? b = some o ∧ H b = none
  bsz : base.objs.size ≤ s.heap.objs.size
  funs : s.heap.FunFrames base outer
  frf : ∀ b ∈ frs outer, H b = none
  hok : HOk P w H s.heap
  bare : AllBare s.gens
/-- a call's end -/
noncomputable def CE (outer : List Env) (P : Program) (w : World) (H : Hp) (s : Shared) (Q : VK) (u : Value) (s' : Shared) : Prop :=
  ∃ v H', s'.os = s.os ∧ AllBare s'.gens ∧ Un (frs outer) [] H H' s.heap s'.heap ∧ HOk P w H' s'.heap ∧ RelV v u ∧ Q v H'
noncomputable def CR (CX : CXT) (outer : List Env) (P : Program) (w : World) (H : Hp) (s : Shared) (Q : VK) (E : XK) (r : Result) (s' : Shared) : Prop :=
  match r with
  | .ok (.ret u) => CE outer P w H s Q u s'
  | .ok _ => False
  | .error e => CX outer H s E e s'
structure FnOk (P : Program) (w : World) (K : PySem.W.Frag) (mg : Str → Option Value) (base : Heap) (CX : CXT) (k : Nat) (f : Addr) (fd : FuncData) (ps : List Str) (sp : Sp) : Prop where
  len : ∀ vs H Q E, sp vs H Q E → vs.length = ps.length
  run : ∀ (A : Around) (outer : List Env) (s : Shared) (H : Hp) (args : Args) (us : List Value) (vs : List V) (Q : VK) (E : XK), Room k A → Env0 P w K mg base A outer s H → BindsTo s fd args (ps.zip us) → Vals vs us → sp vs H Q E →
    codeAny (model P w) A (.call (.ref f) args) (CR CX outer P w H s Q E) s
theorem FnOk.mono {P : Program} {w : World} {K : PySem.W.Frag} {mg : Str → Option Value} {base : Heap} {CX : CXT} {j k : Nat} {f : Addr} {fd : FuncData} {ps : List Str} {sp : Sp} (F : FnOk P w K mg base CX j f fd ps sp) (h : j ≤ k) :
    FnOk P w K mg base CX k f fd ps sp := ⟨F.len, fun A outer s H args us vs Q E hr => F.run A outer s H args us vs Q E (hr.mono h)⟩
/-- a weaker promise -/
theorem FnOk.imp {P : Program} {w : World} {K : PySem.W.Frag} {mg : Str → Option Value} {base : Heap} {CX : CXT} {k : Nat} {f : Addr} {fd : FuncData} {ps : List Str} {sp sp' : Sp} (F : FnOk P w K mg base CX k f fd ps sp)
    (h : ∀ vs H Q E, sp' vs H Q E → sp vs H Q E) : FnOk P w K mg base CX k f fd ps sp' :=
  ⟨fun vs H Q E q => F.len vs H Q E (h _ _ _ _ q), fun A outer s H args us vs Q E hr he hb hv hs => F.run A outer s H args us vs Q E hr he hb hv (h _ _ _ _ hs)⟩

theorem Env0.in1 {P : Program} {w : World} {K : PySem.W.Frag} {mg : Str → Option Value} {base : Heap} {A : Around} {outer : List Env} {s : Shared} {H : Hp} (e : Env0 P w K mg base A outer s H) :
    Env0 P w K mg base A.in1 outer s H := ⟨e.frames, e.mod, e.bs, e.bsz, e.funs, e.frf, e.hok, e.bare⟩

section
variable {X : Cx} {pins : List (Addr × Obj)} {σ : St} {H : Hp} {s s' : Shared}
/-- from a body: what a callee wants -/
theorem Inv.env0 (I : Inv X pins σ H s) : Env0 X.prog X.w X.K X.mg X.base X.A X.stack s H :=
  ⟨I.ok.frames, I.ok.mod, I.bs, Nat.le_trans I.ok.bsz I.sz, I.stack, I.stkFree, I.hok, I.bare⟩
/-- behind a call -/
theorem Inv.after {Q : VK} {u : Value} (I : Inv X pins σ H s) (h : CE X.stack X.prog X.w H s Q u s') : EP X pins σ Q u s' := by
  obtain ⟨v, H', os, bare, un, hok, r, q⟩ := h
  obtain ⟨hh, g, d, t, os'⟩ := s'
  obtain rfl : os' = s.os := os
  exact ⟨v, H', I.call (h' := hh) (g' := g) (d' := d) (t' := t) (ch := []) un hok bare (fun b z => absurd z (by simp)), r, q⟩
end

/-! ### calls -/
/-- f(..): the written arguments, then the defaults dvs; E: what is wanted of an exception -/
noncomputable def tCall (sp : Sp) (dvs : List V) (E : XK) (t : TA) : TE := fun σ H Q => t σ H fun vs H1 => sp (vs ++ dvs) H1 Q E

/-- how the parameters are bound: us the positional arguments, kw the keywords' values by name, ds the defaults that fill up -/
noncomputable def Binds (K : PySem.W.Frag) (fd : FuncData) (ps : List Str) (ds : List Value) : Prop :=
  ∀ (s : Shared) (us : List Value), K.In s.heap → (us ++ ds).length = ps.length → BindsTo s fd ⟨us, []⟩ (ps.zip (us ++ ds))
/-- every parameter is given -/
theorem Binds.all {K : PySem.W.Frag} {fd : FuncData} {ps : List Str} (h : ∀ us : List Value, us.length = ps.length → bindArgs fd ⟨us, []⟩ = pure (ps.zip us)) : Binds K fd ps [] := fun s us _ hl => by
  rw [List.append_nil] at hl ⊢
  exact .of_eq (h us hl)

/-- an exception of a callee reaches what this body wants of exceptions -/
noncomputable def Passes (CX : CXT) (X : Cx) (E : XK) : Prop := ∀ (pins : List (Addr × Obj)) (σ : St) (H : Hp) (s : Shared) (e : Value) (s' : Shared), Inv X pins σ H s → CX X.stack H s E e s' → X.xe e s'

section
variable {X : Cx} {CX : CXT} {k : Nat} {f C : Addr} {fd : FuncData} {ps : List Str} {sp : Sp} {dvs : List V} {ds : List Value} {E : XK} {x m : Str} {p pos apos : Pos} {e o : Expr} {es : List Expr} {ta : TE} {t : TA}

/-- the callee runs -/
theorem run_fn {pins : List (Addr × Obj)} {σ : St} {H : Hp} {s : Shared} {Q : VK} {us : List Value} {vs : List V} (F : FnOk X.prog X.w X.K X.mg X.base CX k f fd ps sp) (hr : Room k X.A) (hb : Binds X.K fd ps ds) (hd : Vals dvs ds) (hx : Passes CX X E)
    (I : Inv X pins σ H s) (r : Vals vs us) (h : sp (vs ++ dvs) H Q E) : wpAny (model X.prog X.w) X.A (call (.ref f) us) (EP X pins σ Q) X.xe s := by
  have r2 : Vals (vs ++ dvs) (us ++ ds) := r.append hd
  have hl : (us ++ ds).length = ps.length := by rw [← r2.length]; exact F.len _ _ _ _ h
  refine wpAny_call (codeAny_mono (F.run X.A X.stack s H ⟨us, []⟩ (us ++ ds) (vs ++ dvs) Q E hr I.env0 (hb s us I.kIn hl) r2 h) fun r s' hq => ?_)
  cases r with
  | error e => exact hx pins σ H s e s' I hq
  | ok fl =>
    cases fl with
    | ret u => exact I.after hq
    | next => exact False.elim hq
    | brk => exact False.elim hq
    | cont => exact False.elim hq

theorem pe_call (F : FnOk X.prog X.w X.K X.mg X.base CX k f fd ps sp) (hr : Room k X.A) (hg : Gl X x) (hm : X.mg x = some (.ref f)) (hk : PySem.W.keepIn X.K (.ref f) = true) (hb : Binds X.K fd ps ds) (hd : Vals dvs ds) (hx : Passes CX X E)
    (ha : PA X (e :: es) t) (hdb : (x == ("__debug__" : Str)) = false := by decide) (he : starEach (e :: es) X.env = (false, eval e X.env) :: starEach es X.env := by rfl) (hpl : (backTo pos (starEach es X.env)).any (·.1) = false := by rfl) :
    PE X (.Call (.Name x p) (e :: es) [] pos) (tCall sp dvs E t) := by
  intro pins s σ H Q I h
  refine wpAny_Call_Name_kw (ld_glob I hg hm ?_ hdb)
  refine PySem.W.callWith_K (h₀ := X.base) I.ok.mod.kin hk (thn (ha pos pins s σ H _ I h) fun us s1 ⟨vs, H1, I1, r, q⟩ => ⟨I1.kIn, ?_⟩) he hpl
  exact run_fn F hr hb hd hx I1 r q


/-- what a class must have to be made -/
structure Mk (K : PySem.W.Frag) (C f : Addr) : Prop where
  makes : PySem.W.makesIn K C = true
  init : PySem.W.findIn K (.ref C) "__init__" = some (some (.ref f))
  fn : PySem.W.isFn K (.ref f) = true
  kp : PySem.W.keepIn K (.ref C) = true

end

/-! ### keywords -/
section
variable {X : Cx} {CX : CXT} {k : Nat} {f C : Addr} {fd : FuncData} {ps ks : List Str} {sp : Sp} {E : XK} {x m : Str} {p pos apos kpos : Pos} {e o : Expr} {es : List Expr} {kws : List Keyword} {te ta : TE} {t tk : TA} {nm : Option Str}

/-- how a call with keywords binds: g puts the positional values us and the keywords' values ws (names ks) in the parameters' order, defaults among them -/
structure KBinds (K : PySem.W.Frag) (fd : FuncData) (ps ks : List Str) (g : List Value → List Value → List Value) (gV : List V → List V → List V) : Prop where
  to : ∀ (s : Shared) (us ws : List Value), K.In s.heap → (g us ws).length = ps.length → BindsTo s fd ⟨us, ks.zip ws⟩ (ps.zip (g us ws))
  rel : ∀ {vs : List V} {us : List Value} {zs : List V} {ws : List Value}, Vals vs us → Vals zs ws → Vals (gV vs zs) (g us ws)
variable {g : List Value → List Value → List Value} {gV : List V → List V → List V}
end

/-! ### a def's body keeps its promise -/
/-- names: the parameters first -/
structure FnScope (N P : List Str) (sc : Scope) : Prop where
  kind : sc.kind = .function
  co : sc.isCoroutine = false
  gen : sc.isGenerator = false
  nd : N.Nodup
  pre : N.take P.length = P
  par : ∀ x ∈ P, sc.names.lookup x = some .local ∨ sc.names.lookup x = some .cell
  nofree : ∀ y ∈ sc.names, y.2 ≠ .free

theorem bindL_out {kindOf : Str → Option NameKind} {x : Str} : ∀ {binds : List (Str × Value)} {m : Str → Option Value}, (∀ v, (x, v) ∉ binds) → bindL kindOf binds m x = m x
  | [], _, _ => rfl
  | (n, v) :: r, m, h => by
    unfold bindL
    rw [bindL_out fun w hw => h w (List.mem_cons_of_mem _ hw)]
    split
    · have : x ≠ n := by rintro rfl; exact h v List.mem_cons_self
      simp [this]
    · rfl
theorem bindC_out {kindOf : Str → Option NameKind} {x : Str} : ∀ {binds : List (Str × Value)} {m : Str → Option Value}, (∀ v, (x, v) ∉ binds) → bindC kindOf binds m x = m x
  | [], _, _ => rfl
  | (n, v) :: r, m, h => by
    unfold bindC
    rw [bindC_out fun w hw => h w (List.mem_cons_of_mem _ hw)]
    split
    · rfl
    · have : x ≠ n := by rintro rfl; exact h v List.mem_cons_self
      simp [this]
theorem bindL_get {kindOf : Str → Option NameKind} {x : Str} {v : Value} : ∀ {P : List Str} {vs : List Value} {i : Nat} {m : Str → Option Value}, P.Nodup → P[i]? = some x → vs[i]? = some v → kindOf x = some .local →
    bindL kindOf (P.zip vs) m x = some v
  | [], _, _, _, _, h, _, _ => by simp at h
  | _ :: _, [], _, _, _, _, h, _ => by simp at h
  | p :: P, w :: vs, 0, m, nd, h1, h2, hk => by
    simp at h1 h2; subst h1; subst h2
    show bindL kindOf ((p, w) :: P.zip vs) m p = _
    unfold bindL
    rw [bindL_out fun v hv => (List.nodup_cons.mp nd).1 (List.of_mem_zip hv).1, if_pos hk]
    simp
  | p :: P, w :: vs, i + 1, m, nd, h1, h2, hk => by
    show bindL kindOf ((p, w) :: P.zip vs) m x = _
    unfold bindL
    exact bindL_get (i := i) (List.nodup_cons.mp nd).2 (by simpa using h1) (by simpa using h2) hk
theorem bindC_get {kindOf : Str → Option NameKind} {x : Str} {v : Value} : ∀ {P : List Str} {vs : List Value} {i : Nat} {m : Str → Option Value}, P.Nodup → P[i]? = some x → vs[i]? = some v → kindOf x ≠ some .local →
    bindC kindOf (P.zip vs) m x = some v
  | [], _, _, _, _, h, _, _ => by simp at h
  | _ :: _, [], _, _, _, _, h, _ => by simp at h
  | p :: P, w :: vs, 0, m, nd, h1, h2, hk => by
    simp at h1 h2; subst h1; subst h2
    show bindC kindOf ((p, w) :: P.zip vs) m p = _
    unfold bindC
    rw [bindC_out fun v hv => (List.nodup_cons.mp nd).1 (List.of_mem_zip hv).1, if_neg hk]
    simp
  | p :: P, w :: vs, i + 1, m, nd, h1, h2, hk => by
    show bindC kindOf ((p, w) :: P.zip vs) m x = _
    unfold bindC
    exact bindC_get (i := i) (List.nodup_cons.mp nd).2 (by simpa using h1) (by simpa using h2) hk

/-- the names' values at the entry -/
noncomputable def start (N : List Str) (vs : List V) : St := vs.map some ++ List.replicate (N.length - vs.length) none

/-- the context of a def's body, at its entry; an exception leaves the frame, then lies as CX says -/
noncomputable def cxOf (CX : CXT) (P : Program) (w : World) (K : PySem.W.Frag) (mg : Str → Option Value) (base : Heap) (N : List Str) (qual : Str) (scope : Scope) (f : Addr) (cd : Value) (A : Around) (outer : List Env) (s : Shared) (H : Hp) (E : XK) : Cx where
  prog := P
  w := w
  K := K
  mg := mg
  base := base
  A := A.deeper (envOfC qual scope s.heap.objs.size f cd)
  N := N
  s₀ := s
  H₀ := H
  env := envOfC qual scope s.heap.objs.size f cd
  outer := outer
  stack := envOfC qual scope s.heap.objs.size f cd :: outer
  ex := []
  calm := true
  fn := fun _ => true
  pn := []
  xe := fun e s' => wpAny (model P w) (A.deeper (envOfC qual scope s.heap.objs.size f cd)) (leaving (envOfC qual scope s.heap.objs.size f cd) e) (fun _ s'' => CX outer H s E e s'') (fun e' s'' => CX outer H s E e' s'') s'

theorem cell_has {sc : Scope} {n : Nat} {x : Str} (h : sc.names.lookup x = some .cell) : ∃ c, (cellsFrom n sc.names []).lookup x = some c := by
  have q := PySem.W.cellsFrom_some sc.names n [] (.inl h)
  exact Option.isSome_iff_exists.mp q

theorem inv_start {CX : CXT} {P : Program} {w : World} {K : PySem.W.Frag} {mg : Str → Option Value} {base : Heap} {N ps : List Str} {qual : Str} {scope : Scope} {f : Addr} {cd : Value} {A : Around} {outer : List Env} {s s1 : Shared} {H : Hp} {E : XK} {us : List Value} {vs : List V}
    (S : FnScope N ps scope) (hd : A.handled = none) (e0 : Env0 P w K mg base A outer s H) (hl : vs.length = ps.length) (r : Vals vs us)
    (x : InCallC s s.heap.objs.size (bindL (envOfC qual scope s.heap.objs.size f cd).kindOf (ps.zip us) fun _ => none) (cellsFrom (s.heap.objs.size + 1) scope.names []) (bindC (envOfC qual scope s.heap.objs.size f cd).kindOf (ps.zip us) fun _ => none) s1) :
    Inv (cxOf CX P w K mg base N qual scope f cd A outer s H E) [] (start N vs) H s1 := by
  have hpl : ps.length ≤ N.length := by have := congrArg List.length S.pre; rw [List.length_take] at this; omega
  obtain ⟨h1, tk, rfl, hk⟩ := x.done
  have noA : ∀ b : Addr, b ∉ (cxOf CX P w K mg base N qual scope f cd A outer s H E).ex := fun b z => absurd (show b ∈ ([] : List Addr) from z) (by simp)
  refine ⟨⟨e0.mod, S.kind, rfl, rfl, Nat.le_refl _, fun y z c h1 h2 => ?_, fun y hy => ?_, fun y c _ h => ?_, fun _ => hd, Around.frames_deeper e0.frames, .inr ⟨rfl, rfl⟩, fun b z => absurd z (noA b), e0.bs, e0.bsz, fun b _ _ => noA b, fun b z => absurd z (noA b), e0.funs, e0.frf⟩,
    rfl, e0.bare, Un.kept hk, ⟨_, x.toInCall.ns, fun i y v h1 h2 h3 => ?_⟩, fun y c h => ⟨_, x.cell y c h⟩, e0.hok.fresh (Nat.le_refl _), fun y c h => ?_, fun p hp => absurd (show p ∈ ([] : List (Addr × Obj)) from hp) (by simp), e0.hok.kept hk, ?_⟩
  · exact name_of_addr x.apart (PySem.mem_of_lookup h1) (PySem.mem_of_lookup h2)
  · have hy : scope.names.lookup y = some .cell ∨ scope.names.lookup y = some .free := hy
    rcases hy with hy | hy
    · exact cell_has hy
    · exact absurd rfl (S.nofree _ (PySem.mem_of_lookup hy))
  · exact Nat.le_of_lt (x.above y c (PySem.mem_of_lookup h))
  · have hi : i < vs.length := by
      unfold start at h2
      by_cases hi : i < vs.length
      · exact hi
      · rw [List.getElem?_append_right (by simpa using hi)] at h2
        rw [List.getElem?_replicate] at h2
        split at h2 <;> cases h2
    have ha : vs[i]? = some v := by
      unfold start at h2
      rw [List.getElem?_append_left (by simpa using hi), List.getElem?_map] at h2
      cases e : vs[i]? with
      | none => rw [e] at h2; cases h2
      | some a => rw [e] at h2; cases h2; rfl
    obtain ⟨u, hu, rv⟩ := r.get ha
    have hp : ps[i]? = some y := by
      rw [← S.pre, List.getElem?_take_of_lt (by omega)]; exact h1
    have ndP : ps.Nodup := by rw [← S.pre]; exact S.nd.sublist (List.take_sublist _ _)
    refine ⟨u, rv, ?_⟩
    rcases S.par y (List.mem_of_getElem? hp) with k | k
    · exact .inl ⟨k, bindL_get ndP hp hu k⟩
    · obtain ⟨c, e⟩ := cell_has (n := s.heap.objs.size + 1) k
      refine .inr ⟨.inl k, c, e, ?_⟩
      have q := x.cell y c e
      rw [bindC_get ndP hp hu (by show scope.names.lookup y ≠ _; rw [k]; decide)] at q
      exact q
  · exact e0.hok.fresh (Nat.le_of_lt (x.above y c (PySem.mem_of_lookup h)))
  · unfold start
    show _ = N.length
    rw [List.length_append, List.length_map, List.length_replicate]
    omega

/-- THE RULE: a def (or a method) of the text, by its body. The body's reading t is chosen for each entry; it is run at the parameters' values -/
theorem fn_of {CX : CXT} {P : Program} {w : World} {K : PySem.W.Frag} {mg : Str → Option Value} {base : Heap} {k : Nat} {f : Addr} {name qual : Str} {params : Arguments} {body : List Stmt} {scope : Scope} {dV kV doc pm cdv ct oc : Value} {an od : Option Addr}
    {osl : Array (Option Value)} {N ps : List Str} {sp : Sp} (lk : K.lookup f = some ⟨oc, od, .func (PySem.W.fnOf name qual params body scope dV kV doc pm an cdv ct), osl⟩) (hcd : PySem.W.codeIn K cdv qual = true) (S : FnScope N ps scope)
    (len : ∀ vs H Q E, sp vs H Q E → vs.length = ps.length)
    (hbody : ∀ (A : Around) (outer : List Env) (s : Shared) (H : Hp) (vs : List V) (Q : VK) (E : XK), Room k (A.deeper (envOfC qual scope s.heap.objs.size f cdv)) → sp vs H Q E →
      ∃ t, PSs (cxOf CX P w K mg base N qual scope f cdv A outer s H E) body t ∧ t { nx := fun _ H' => Q .non H', rt := Q } (start N vs) H) :
    FnOk P w K mg base CX (k + 1) f (PySem.W.fnOf name qual params body scope dV kV doc pm an cdv ct) ps sp := by
  refine ⟨len, fun A outer s H args us vs Q E hr e0 hb r hsp => ?_⟩
  have hl := len _ _ _ _ hsp
  have KX : K.In s.heap := e0.mod.kin.keeps fun b o e => (e0.bs b o e).1
  have lim : s.heap.NoLimit := e0.mod.nolimit.keeps fun b o e => (e0.bs b o e).1
  have hkind : ∀ y ∈ ps.zip us, scope.names.lookup y.1 = some .local ∨ (scope.names.lookup y.1 = some .cell ∧ ((cellsFrom (s.heap.objs.size + 1) scope.names []).lookup y.1).isSome = true) := fun ⟨n, v⟩ hy => by
    rcases S.par n (List.of_mem_zip hy).1 with q | q
    · exact .inl q
    · exact .inr ⟨q, PySem.W.cellsFrom_some _ _ _ (.inl q)⟩
  refine codeAny_call_function hr.depth (KX _ _ lk) rfl S.co S.gen rfl (PySem.W.codeRec_of KX hcd) (hb _ _ _ _ ?_)
  refine wpAny_newFunctionEnv_cells S.kind hkind fun env he s1 x => ?_
  subst he
  refine ⟨lim.keeps x.toInCall.keep, codeAny_func ?_⟩
  obtain ⟨t, ht, hq⟩ := hbody A outer s H vs Q E (hr.deeper _) hsp
  have I : Inv (cxOf CX P w K mg base N qual scope f cdv A outer s H E) [] (start N vs) H s1 := inv_start S hr.hd e0 hl r x
  refine wpAny_mono (ht [] s1 (start N vs) H _ I hq) (fun fl s' hs => ?_) fun e s' hs => hs
  have fin : ∀ {σ' : St} {H' : Hp} {v : V} {u : Value}, Inv (cxOf CX P w K mg base N qual scope f cdv A outer s H E) [] σ' H' s' → RelV v u → Q v H' → CE outer P w H s Q u s' :=
    fun {σ' H' v u} J rv q => ⟨v, H', J.os, J.bare, J.base, J.hok, rv, q⟩
  cases fl with
  | ret u =>
    obtain ⟨v, σ', H', J, rv, q⟩ := hs
    exact fin J rv q
  | next =>
    obtain ⟨σ', H', J, q⟩ := hs
    exact fin (v := V.non) (u := Value.none) J rfl q
  | brk =>
    obtain ⟨_, _, _, q⟩ := hs
    exact False.elim q
  | cont =>
    obtain ⟨_, _, _, q⟩ := hs
    exact False.elim q
end L2

namespace L2
open PySem PySem.Spec PyProof.Rows
section
variable {X : Cx} {x : Str} {p pos : Pos} {e : Expr} {es : List Expr} {t : TA} {id T : String} {r : List V → Hp → VK → Prop}

noncomputable def tCB (r : List V → Hp → VK → Prop) (t : TA) : TE := fun σ H Q => t σ H fun vs H1 => r vs H1 Q
/-- f(e, ..), f a built-in function -/
theorem pe_callB (hc : CallR X (.builtin id) r) (hg : Gl X x) (hm : X.mg x = none) (hv : bootBuiltins x = some (.builtin id)) (ha : PA X (e :: es) t) (hn : x ≠ "__name__" := by decide) (hdb : (x == ("__debug__" : Str)) = false := by decide)
    (he : starEach (e :: es) X.env = (false, eval e X.env) :: starEach es X.env := by rfl) (hpl : (backTo pos (starEach es X.env)).any (·.1) = false := by rfl) : PE X (.Call (.Name x p) (e :: es) [] pos) (tCB r t) := by
  intro pins s σ H Q I h
  refine wpAny_Call_Name_kw (ld_blt I hg hm hv ?_ hn hdb)
  exact PyProof.Rows.callWith_builtin1 (thn (ha pos pins s σ H _ I h) fun us s1 ⟨vs, H1, I1, r1, q1⟩ => hc pins s1 σ H1 vs us Q I1 r1 q1) he hpl
/-- T(e, ..), T a built-in type -/
theorem pe_callTy (hc : CallR X (.type T) r) (hg : Gl X x) (hm : X.mg x = none) (hv : bootBuiltins x = some (.type T)) (ha : PA X (e :: es) t) (hn : x ≠ "__name__" := by decide) (hdb : (x == ("__debug__" : Str)) = false := by decide)
    (he : starEach (e :: es) X.env = (false, eval e X.env) :: starEach es X.env := by rfl) (hpl : (backTo pos (starEach es X.env)).any (·.1) = false := by rfl) : PE X (.Call (.Name x p) (e :: es) [] pos) (tCB r t) := by
  intro pins s σ H Q I h
  refine wpAny_Call_Name_kw (ld_blt I hg hm hv ?_ hn hdb)
  exact PyProof.Rows.callWith_type1 (thn (ha pos pins s σ H _ I h) fun us s1 ⟨vs, H1, I1, r1, q1⟩ => hc pins s1 σ H1 vs us Q I1 r1 q1) he hpl
end
end L2

namespace HT
open PySem PyProof.Rows



section
open PySem.SeqAt
open PySem.AutoSeq1 (wpAny_loadPart')
open PySem.MeetsSeq PySem.MeetsSeq2 PySem.MeetsSeq3

end

section
variable {prog : Program} {w : World} {A : Around} {E : Value → Shared → Prop} {s : Shared}


/-- t + u, t not empty -/
theorem cat_tup {t b : Addr} {vs ws : List Value} {Q : Value → Shared → Prop} (ht : IsTup s.heap t vs.toArray) (hb : IsTup s.heap b ws.toArray) (hv : vs ≠ [])
    (h1 : ws = [] → Q (.ref t) s) (h2 : ws ≠ [] → Q (.ref s.heap.objs.size) { s with heap := s.heap.push { cls := .type "tuple", data := .seq (vs ++ ws).toArray } })
    (hsz : vs.length + ws.length ≤ sizeLine) : wpAny (model prog w) A (binaryOp .Add (.ref t) (.ref b)) Q E s := by
  obtain ⟨⟨cls, dd, data, sl⟩, ho, hc, n, hd⟩ := id ht
  obtain ⟨⟨cls2, dd2, data2, sl2⟩, ho2, hc2, n2, hd2⟩ := id hb
  simp only at hc hd hc2 hd2
  subst hc hd hc2 hd2
  have e : vs.toArray ++ ws.toArray = (vs ++ ws).toArray := by simp
  by_cases hw : ws = []
  · exact concat_meets ⟨_, ho, rfl⟩ ⟨_, ho2, rfl⟩ noFill_tuple_add seq_tuple_add PySem.F.slot_tuple_add PySem.F.entry_tuple_add (PySem.F.args_tuple_add_2 _ _)
      (tuple_addW1 t b vs.toArray ws.toArray n n2 dd dd2 sl sl2 (by simpa using hv) (by simp [hw])) ⟨ho, ho2, h1 hw⟩
  · refine concat_meets ⟨_, ho, rfl⟩ ⟨_, ho2, rfl⟩ noFill_tuple_add seq_tuple_add PySem.F.slot_tuple_add PySem.F.entry_tuple_add (PySem.F.args_tuple_add_2 _ _)
      (tuple_addW2 t b vs.toArray ws.toArray n n2 dd dd2 sl sl2 (by simpa using hv) (by simpa using hw) (by rw [List.size_toArray, List.size_toArray]; exact hsz)) ⟨ho, ho2, ?_⟩
    rw [e]
    exact h2 hw

/-! ### t[a:b], not the whole -/
/-- a slice's bound as a place among n (d where it is left out) -/
noncomputable def sIx (n d : Nat) : Option Int → Nat
  | none => d
  | some v => if v < 0 then (v + (n : Int)).toNat else min v.toNat n
theorem sIx_nat (n d k : Nat) : sIx n d (some (k : Int)) = min k n := by
  show (if (k : Int) < 0 then ((k : Int) + (n : Int)).toNat else min (k : Int).toNat n) = min k n
  rw [if_neg (by omega), Int.toNat_natCast]
theorem sIx_le (n d : Nat) (hd : d ≤ n) (o : Option Int) : sIx n d o ≤ n := by
  cases o with
  | none => exact hd
  | some v =>
    show (if v < 0 then (v + (n : Int)).toNat else min v.toNat n) ≤ n
    by_cases hv : v < 0
    · rw [if_pos hv]; omega
    · rw [if_neg hv]; exact Nat.min_le_right _ _
theorem clip_eq (v : Int) (n d : Nat) : (if v < 0 then max (v + (n : Int)) 0 else min v (n : Int)) = ((sIx n d (some v) : Nat) : Int) := by
  show (if v < 0 then max (v + (n : Int)) 0 else min v (n : Int)) = (((if v < 0 then (v + (n : Int)).toNat else min v.toNat n) : Nat) : Int)
  by_cases hv : v < 0
  · simp only [if_pos hv]; omega
  · simp only [if_neg hv]; omega
theorem adjust_gen (lo hi : Option Int) (n : Nat) : Builtin.Slice.sliceAdjust lo hi 1 (n : Int) = (((sIx n 0 lo : Nat) : Int), ((sIx n n hi : Nat) : Int)) := by
  have h1 : ¬ ((1 : Int) < 0) := by omega
  unfold Builtin.Slice.sliceAdjust
  simp only [h1, if_false]
  refine Prod.ext ?_ ?_
  · cases lo with
    | none => rfl
    | some v => exact clip_eq v n 0
  · cases hi with
    | none => rfl
    | some v => exact clip_eq v n n
theorem places_gen (i j : Nat) : Builtin.Slice.slicePlaces (i : Int) (j : Int) 1 = j - i := by
  unfold Builtin.Slice.slicePlaces
  have h1 : (1 : Int) > 0 := by omega
  simp only [h1, if_true, Int.ediv_one]
  split <;> omega
theorem slicePart_ {v : Value} {o : Option Int} {Q : Option Int → Shared → Prop} (p : IsPart v o) (h : Q o s) : wpAny (model prog w) A (Builtin.Slice.slicePartIndex v) Q E s := by
  cases p with
  | none => exact slicePart_none h
  | int i t => exact slicePart_int h
theorem sliceApplied_gen {sl : Addr} {vl vu : Value} {lo hi : Option Int} {n : Nat} {Q : Int × Int × Nat → Shared → Prop} (hs : s.heap.IsSliceOf sl vl vu .none) (pl : IsPart vl lo) (pu : IsPart vu hi)
    (h : Q (((sIx n 0 lo : Nat) : Int), 1, sIx n n hi - sIx n 0 lo) s) : wpAny (model prog w) A (Builtin.Slice.sliceApplied (.ref sl) (pure (n : Int))) Q E s := by
  obtain ⟨os, hos, hcs, hds⟩ := id hs
  unfold Builtin.Slice.sliceApplied Builtin.Slice.sliceFields
  refine wpAny_bind (wpAny_bind (wpAny_field hos hds (x := vl) rfl (wpAny_bind (wpAny_field hos hds (x := vu) rfl (wpAny_bind (wpAny_field hos hds (x := .none) rfl (wpAny_pure ?_)))))))
  refine wpAny_bind (slicePart_none ?_)
  show wpAny _ _ (if ((1 : Int) == 0) = true then _ else _) _ _ s
  rw [if_neg (by decide)]
  refine wpAny_bind (slicePart_ pl (wpAny_bind (slicePart_ pu (wpAny_bind (wpAny_pure ?_)))))
  show wpAny _ _ (match Builtin.Slice.sliceAdjust lo hi 1 (n : Int) with | (lo, hi) => pure (lo, (1 : Int), Builtin.Slice.slicePlaces lo hi 1)) _ _ s
  rw [adjust_gen lo hi n]
  show wpAny _ _ (pure (((sIx n 0 lo : Nat) : Int), (1 : Int), Builtin.Slice.slicePlaces ((sIx n 0 lo : Nat) : Int) ((sIx n n hi : Nat) : Int) 1)) _ _ s
  rw [places_gen]
  exact wpAny_pure h
theorem pick_gen (xs : Array Value) (i k : Nat) : ((List.range k).filterMap fun (m : Nat) => xs[((i : Int) + (m : Int) * 1).toNat]?).toArray = ((xs.toList.drop i).take k).toArray := by
  have e : (fun (m : Nat) => xs[((i : Int) + (m : Int) * 1).toNat]?) = fun m => xs[i + m]? := by
    funext m
    have : ((i : Int) + (m : Int) * 1).toNat = i + m := by omega
    rw [this]
  rw [e]
  have := pick_run xs i k
  rw [List.filterMap_map] at this
  have e2 : ((fun x => xs[x]?) ∘ fun x => i + x) = fun m => xs[i + m]? := rfl
  rw [e2] at this
  rw [this]

theorem getItem_tuple_cut {t sl : Addr} {items : Array Value} {vl vu : Value} {lo hi : Option Int} {Q : Value → Shared → Prop} (ht : IsTup s.heap t items) (hs : s.heap.IsSliceOf sl vl vu .none) (pl : IsPart vl lo) (pu : IsPart vu hi)
    (hw : ¬ (sIx items.size 0 lo = 0 ∧ sIx items.size items.size hi = items.size))
    (h : Q (.ref s.heap.objs.size) { s with heap := s.heap.push { cls := .type "tuple", data := .seq ((items.toList.drop (sIx items.size 0 lo)).take (sIx items.size items.size hi - sIx items.size 0 lo)).toArray } })
    (hsz : items.size ≤ sizeLine) : wpAny (model prog w) A (getItem (.ref t) (.ref sl)) Q E s := by
  have htake : sizeOk (.seq ((items.toList.drop (sIx items.size 0 lo)).take (sIx items.size items.size hi - sIx items.size 0 lo)).toArray) := by
    show ((items.toList.drop (sIx items.size 0 lo)).take (sIx items.size items.size hi - sIx items.size 0 lo)).toArray.size ≤ sizeLine
    rw [List.size_toArray, List.length_take, List.length_drop, Array.length_toList]
    omega
  have hj : sIx items.size items.size hi ≤ items.size := sIx_le _ _ (Nat.le_refl _) hi
  obtain ⟨os, hos, hcs, hds⟩ := id hs
  have hTs : s.TypeIs (.ref sl) "slice" := ⟨os, hos, hcs⟩
  unfold getItem
  try with_reducible refine wpAny_holding ?_
  first | refine wpAny_bind (wpAny_pure ?_) | skip
  refine wpAny_bind (wpAny_sequenceKey ht.typeIs (by decide) ?_)
  refine wpAny_bind (wpAny_callSpecial?_slot (name := Str.ofString "__getitem__") ht.typeIs PyProof.Rows.slot_tuple_getitem
    (wpAny_call_entry PyProof.Rows.slot_tuple_getitem ht.typeIs entry_tuple_getitem ?_ (args_tuple_getitem _ _)))
  show wpAny _ _ (Builtin.Tuple.tupleItemsOf (.ref t) >>= _) _ _ s
  refine wpAny_bind (tupleItemsOf_ ht ?_)
  refine wpAny_bind (wpAny_typeOf hTs ?_)
  rw [if_pos (by decide)]
  refine wpAny_bind (sliceApplied_gen hs pl pu ?_)
  have hno : ¬ ((((sIx items.size 0 lo : Nat) : Int) == 0 && (1 : Int) == 1 && (sIx items.size items.size hi - sIx items.size 0 lo) == items.size) = true) := by
    intro q
    rw [Bool.and_eq_true, Bool.and_eq_true] at q
    have q1 : ((sIx items.size 0 lo : Nat) : Int) = 0 := eq_of_beq q.1.1
    have q2 : sIx items.size items.size hi - sIx items.size 0 lo = items.size := eq_of_beq q.2
    exact hw ⟨by omega, by omega⟩
  show wpAny _ _ (if (((sIx items.size 0 lo : Nat) : Int) == 0 && (1 : Int) == 1 && (sIx items.size items.size hi - sIx items.size 0 lo) == items.size) = true then _ else _) _ _ s
  rw [if_neg hno, pick_gen]
  first
    | exact wpAny_bind (m := Builtin.Tuple.tupleExact _) (wpAny_newObj_type (wpAny_pure ⟨_, rfl, wpAny_pure h⟩) htake)
    | exact wpAny_bind (m := Builtin.Tuple.tupleExact _) (wpAny_newObj_type (wpAny_bind (wpAny_pure (wpAny_pure ⟨_, rfl, wpAny_pure h⟩))) htake)
    | exact wpAny_bind (wpAny_bind (m := Builtin.Tuple.tupleExact _) (wpAny_newObj_type (wpAny_pure (wpAny_pure ⟨_, rfl, wpAny_pure h⟩)) htake))
    | exact wpAny_bind (wpAny_bind (m := Builtin.Tuple.tupleExact _) (wpAny_newObj_type (wpAny_pure ⟨_, rfl, wpAny_pure h⟩) htake))
end
end HT

namespace L2
open PySem PySem.Spec PyProof.Rows

/-! ### the parts of a slice -/
noncomputable abbrev TO := St → Hp → (Option Int → Hp → Prop) → Prop
/-- a slice's part (left out, or an int) -/
noncomputable def PO (X : Cx) (e : Option Expr) (t : TO) : Prop :=
  ∀ (pins : List (Addr × Obj)) (s : Shared) (σ : St) (H : Hp) (Q : Option Int → Hp → Prop), Inv X pins σ H s → t σ H Q →
    wpAny (model X.prog X.w) X.A (evalPart e X.env) (fun u s' => ∃ o H', Inv X pins σ H' s' ∧ IsPart u o ∧ Q o H') X.xe s
noncomputable def tNoPart : TO := fun _ H Q => Q none H
noncomputable def tPart (t : TE) : TO := fun σ H Q => t σ H fun x H1 => ∃ i, x = .int i ∧ Q (some i) H1


section
variable {X : Cx} {e : Expr} {te : TE} {lo hi : Option Expr} {tl th : TO} {pos p2 : Pos}

theorem po_none : PO X none tNoPart := by
  intro pins s σ H Q I h
  rw [evalPart_none]
  exact wpAny_pure ⟨none, H, I, .none, h⟩
theorem po_some (h : PE X e te) : PO X (some e) (tPart te) := by
  intro pins s σ H Q I hw
  rw [evalPart_some]
  refine thn (h pins s σ H _ I hw) fun u s1 ⟨x, H1, I1, r1, q1⟩ => ?_
  obtain ⟨i, rfl, q⟩ := q1
  obtain ⟨t, rfl⟩ := r1
  exact ⟨some i, H1, I1, .int i t, q⟩

/-- what a slice of a value is, by values: the slice object stands at sl -/
noncomputable def SlR (X : Cx) (r : V → Option Int → Option Int → Hp → VK → Prop) : Prop :=
  ∀ (pins : List (Addr × Obj)) (s : Shared) (σ : St) (H : Hp) (x : V) (v vl vu : Value) (lo hi : Option Int) (sl : Addr) (Q : VK), Inv X pins σ H s → RelV x v → s.heap.IsSliceOf sl vl vu .none → IsPart vl lo → IsPart vu hi → r x lo hi H Q →
    ∃ T id, typeLookup (.type T) "__getitem__" = pure (some (.builtin id)) ∧ s.TypeIs v T ∧ wpAny (model X.prog X.w) X.A (getItem v (.ref sl)) (EP X pins σ Q) X.xe s
theorem SlR.or {r r' : V → Option Int → Option Int → Hp → VK → Prop} (h : SlR X r) (h' : SlR X r') : SlR X (fun x lo hi H Q => r x lo hi H Q ∨ r' x lo hi H Q) := by
  intro pins s σ H x v vl vu lo hi sl Q I rx hs pl pu q
  rcases q with q | q
  · exact h pins s σ H x v vl vu lo hi sl Q I rx hs pl pu q
  · exact h' pins s σ H x v vl vu lo hi sl Q I rx hs pl pu q
noncomputable def tSl (r : V → Option Int → Option Int → Hp → VK → Prop) (te : TE) (tl th : TO) : TE := fun σ H Q => te σ H fun x H1 => tl σ H1 fun l H2 => th σ H2 fun u H3 => r x l u H3 Q
/-- a[lo:hi], any a -/
theorem pe_slice {r : V → Option Int → Option Int → Hp → VK → Prop} (hr : SlR X r) (he : PE X e te) (hl : PO X lo tl) (hu : PO X hi th) : PE X (.Subscript e (.Slice lo hi none p2) pos) (tSl r te tl th) := by
  intro pins s σ H Q I h
  refine Subscript_ (thn (he pins s σ H _ I h) fun v s1 ⟨x, H1, I1, r1, q1⟩ => ?_)
  refine wpAny_Slice (thn (hl pins s1 σ H1 _ I1 q1) fun vl s2 ⟨l, H2, I2, pl, q2⟩ => thn (hu pins s2 σ H2 _ I2 q2) fun vu s3 ⟨u, H3, I3, pu, q3⟩ => ?_)
  rw [evalPart_none]
  refine wpAny_pure ?_
  have I4 : Inv X pins σ H3 { s3 with heap := s3.heap.push { cls := .type "slice", data := .fields #[vl, vu, .none] } } := I3.kept (t' := s3.toks) fun b ob q => Heap.get?_push_of_some _ q
  obtain ⟨T, id, hT, ht, hg⟩ := hr pins { s3 with heap := s3.heap.push { cls := .type "slice", data := .fields #[vl, vu, .none] } } σ H3 x v vl vu l u s3.heap.objs.size Q I4 r1 (Heap.IsSliceOf.new ..) pl pu q3
  show wpAny (model X.prog X.w) X.A (subscriptTail e (.Slice lo hi none p2) v (.ref s3.heap.objs.size)) (EP X pins σ Q) X.xe { s3 with heap := s3.heap.push { cls := .type "slice", data := .fields #[vl, vu, .none] } }
  exact tail_any (ops := [.ref s3.heap.objs.size, v]) ht hT hg (by with_unfolding_all rfl)

/-- the items of xs[lo:hi] -/
noncomputable def cutV (xs : List V) (lo hi : Option Int) : List V := (xs.drop (HT.sIx xs.length 0 lo)).take (HT.sIx xs.length xs.length hi - HT.sIx xs.length 0 lo)
theorem cutV_length (xs : List V) (lo hi : Option Int) : (cutV xs lo hi).length ≤ xs.length := by
  unfold cutV
  rw [List.length_take, List.length_drop]
  omega
/-- t[lo:hi], not the whole of it (the whole would be t itself) -/
noncomputable def rSlT (K : PySem.W.Frag) : V → Option Int → Option Int → Hp → VK → Prop := fun x lo hi H Q => ∃ a xs, x = .ref a ∧ SqT K H a xs ∧
  ¬ (HT.sIx xs.length 0 lo = 0 ∧ HT.sIx xs.length xs.length hi = xs.length) ∧ ∀ p, H p = none → Q (.ref p) (upd H p (.tup (cutV xs lo hi)))
theorem sl_tup : SlR X (rSlT X.K) := by
  intro pins s σ H x v vl vu lo hi sl Q I rx hs pl pu h
  obtain ⟨a, xs, rfl, hx, hw, q⟩ := h
  cases rx
  obtain ⟨its, r, ht, hz⟩ := I.tuple hx
  have hlen : its.toArray.size = xs.length := by rw [List.size_toArray]; exact r.length.symm
  refine ⟨"tuple", _, PyProof.Rows.slot_tuple_getitem.lookup, ht.typeIs, ?_⟩
  refine HT.getItem_tuple_cut ht hs pl pu (by rw [hlen]; exact hw) ?_ (by rw [hlen]; exact hz)
  rw [hlen]
  refine ⟨.ref s.heap.objs.size, _, I.laid (t' := s.toks) (o := .tup (cutV xs lo hi)) (fun b ob q => Heap.get?_push_of_some _ q) (Nat.le_refl _) ?_, rfl, q _ (I.hok.fresh (Nat.le_refl _))⟩
  exact ⟨Nat.le_trans (cutV_length xs lo hi) hz, _, (r.drop (HT.sIx xs.length 0 lo)).take (HT.sIx xs.length xs.length hi - HT.sIx xs.length 0 lo), IsTup.new _ _⟩

/-! ### t < u, t + u -/
/-- t + u, t not empty: u empty gives t itself -/
noncomputable def rCatT (K : PySem.W.Frag) : R2 := fun x y H Q => ∃ a b xs ys, x = .ref a ∧ y = .ref b ∧ SqT K H a xs ∧ SqT K H b ys ∧ xs ≠ [] ∧ xs.length + ys.length ≤ sizeLine ∧
  (ys = [] → Q (.ref a) H) ∧ (ys ≠ [] → ∀ p, H p = none → Q (.ref p) (upd H p (.tup (xs ++ ys))))
theorem Vals.nil_iff {xs : List V} {us : List Value} (r : Vals xs us) : us = [] ↔ xs = [] := by
  cases r with
  | nil => simp
  | cons _ _ => simp
theorem op_catT : OpR X (binaryOp .Add) (rCatT X.K) := by
  intro pins s σ H x y v u Q I rx ry h
  obtain ⟨a, b, xs, ys, rfl, rfl, ha, hb, hx, hz, q1, q2⟩ := h
  cases rx
  cases ry
  obtain ⟨its, r1, p1, _⟩ := I.tuple ha
  obtain ⟨its2, r2, p2, _⟩ := I.tuple hb
  refine HT.cat_tup p1 p2 (fun z => hx (r1.nil_iff.mp z)) (fun z => ⟨.ref a, H, I, rfl, q1 (r2.nil_iff.mp z)⟩) (fun z => ?_) (by rw [← r1.length, ← r2.length]; exact hz)
  refine ⟨.ref s.heap.objs.size, _, I.laid (t' := s.toks) (o := .tup (xs ++ ys)) (fun b ob q => Heap.get?_push_of_some _ q) (Nat.le_refl _) ?_, rfl, q2 (fun w => z (r2.nil_iff.mpr w)) _ (I.hok.fresh (Nat.le_refl _))⟩
  exact ⟨by rw [List.length_append]; exact hz, _, r1.append r2, IsTup.new _ _⟩
end
end L2

namespace L2
open PySem PySem.Spec PyProof.Rows

/-! ### places -/
/-- the place that an index of any sign means -/
noncomputable def ixN (n : Nat) (i : Int) : Option Nat := if 0 ≤ i then (if i < n then some i.toNat else none) else if -(n : Int) ≤ i then some (i + n).toNat else none
noncomputable def atI {α : Type} (xs : List α) (i : Int) : Option α := (ixN xs.length i).bind fun j => xs[j]?
theorem ixN_seq {n : Nat} {i : Int} {j : Nat} (h : ixN n i = some j) : seqIndex? i n = some j ∧ j < n ∧ -(n : Int) ≤ i ∧ i < n := by
  unfold ixN at h
  by_cases h0 : 0 ≤ i
  · rw [if_pos h0] at h
    by_cases h1 : i < n
    · rw [if_pos h1] at h
      have e : i.toNat = j := Option.some.inj h
      exact ⟨by rw [seqIndex_of h0 h1, e], by omega, by omega, h1⟩
    · rw [if_neg h1] at h; cases h
  · rw [if_neg h0] at h
    by_cases h1 : -(n : Int) ≤ i
    · rw [if_pos h1] at h
      have e : (i + n).toNat = j := Option.some.inj h
      exact ⟨by rw [seqIndex_neg (by omega) h1, e], by omega, h1, by omega⟩
    · rw [if_neg h1] at h; cases h
theorem atI_get {α : Type} {xs : List α} {i : Int} {v : α} (h : atI xs i = some v) : ∃ j, seqIndex? i xs.length = some j ∧ xs[j]? = some v ∧ j < xs.length ∧ -(xs.length : Int) ≤ i ∧ i < xs.length := by
  unfold atI at h
  cases e : ixN xs.length i with
  | none => rw [e] at h; cases h
  | some j =>
    rw [e] at h
    obtain ⟨h1, h2, h3, h4⟩ := ixN_seq e
    exact ⟨j, h1, h, h2, h3, h4⟩
theorem atI_nat {α : Type} {xs : List α} {j : Nat} {v : α} (h : xs[j]? = some v) : atI xs (j : Int) = some v := by
  have hj : j < xs.length := (List.getElem?_eq_some_iff.mp h).1
  have e : ixN xs.length (j : Int) = some j := by
    unfold ixN
    rw [if_pos (by omega), if_pos (by omega)]; simp
  unfold atI; rw [e]; exact h

/-! ### what may be subscripted -/
/-- what stands as an index of a plain subscript -/
noncomputable def PlainIx (b : Expr) : Prop := ∀ o i, subscripted b false o i = operate [o, i] (getItem o i)
/-- a subscript by values -/
noncomputable def IxR (X : Cx) (r : R2) : Prop :=
  ∀ (value slice : Expr) (pins : List (Addr × Obj)) (s : Shared) (σ : St) (H : Hp) (x y : V) (v u : Value) (Q : VK), Inv X pins σ H s → RelV x v → RelV y u → r x y H Q →
    subscripted slice false v u = operate [v, u] (getItem v u) → wpAny (model X.prog X.w) X.A (subscriptTail value slice v u) (EP X pins σ Q) X.xe s
/-- a call of a builtin's method by values: the receiver, the arguments -/
noncomputable def MtR (X : Cx) (id : String) (r : V → List V → Hp → VK → Prop) : Prop :=
  ∀ (pins : List (Addr × Obj)) (s : Shared) (σ : St) (H : Hp) (x : V) (xs : List V) (v : Value) (us : List Value) (Q : VK), Inv X pins σ H s → RelV x v → Vals xs us → r x xs H Q →
    wpAny (model X.prog X.w) X.A (call (.builtin id) (v :: us)) (EP X pins σ Q) X.xe s
section
variable {X : Cx} {a b : Expr} {ta tb : TE} {pos : Pos}
theorem IxR.or {r r' : R2} (h : IxR X r) (h' : IxR X r') : IxR X (fun x y H Q => r x y H Q ∨ r' x y H Q) := by
  intro value slice pins s σ H x y v u Q I rx ry q hs
  rcases q with q | q
  · exact h value slice pins s σ H x y v u Q I rx ry q hs
  · exact h' value slice pins s σ H x y v u Q I rx ry q hs
theorem MtR.or {id : String} {r r' : V → List V → Hp → VK → Prop} (h : MtR X id r) (h' : MtR X id r') : MtR X id (fun x xs H Q => r x xs H Q ∨ r' x xs H Q) := by
  intro pins s σ H x xs v us Q I rx rs q
  rcases q with q | q
  · exact h pins s σ H x xs v us Q I rx rs q
  · exact h' pins s σ H x xs v us Q I rx rs q
/-- a[b] -/
theorem pe_ix {r : R2} (hr : IxR X r) (ha : PE X a ta) (hb : PE X b tb) (hs : PlainIx b) : PE X (.Subscript a b pos) (tOp r ta tb) := by
  intro pins s σ H Q I h
  exact Subscript_ (binT ha hb I h fun v u s2 x y H2 I2 rx ry q => hr a b pins s2 σ H2 x y v u Q I2 rx ry q (hs _ _))

noncomputable def rIxL (K : PySem.W.Frag) : R2 := fun x y H Q => ∃ p xs i v, x = .ref p ∧ y = .int i ∧ SqL K H p xs ∧ atI xs i = some v ∧ Q v H
noncomputable def rIxT (K : PySem.W.Frag) : R2 := fun x y H Q => ∃ p xs i v, x = .ref p ∧ y = .int i ∧ SqT K H p xs ∧ atI xs i = some v ∧ Q v H
noncomputable def rIxS : R2 := fun x y H Q => ∃ z i c, x = .str z ∧ y = .int i ∧ z.length ≤ sizeLine ∧ atI z.cps.toList i = some c ∧ Q (.str ⟨#[c]⟩) H
theorem ix_list : IxR X (rIxL X.K) := by
  intro value slice pins s σ H x y v u Q I rx ry h hs
  obtain ⟨p, xs, i, z, rfl, rfl, hq, he, q⟩ := h
  cases rx
  obtain ⟨t, rfl⟩ := ry
  obtain ⟨its, r, pl, hz⟩ := I.list hq
  obtain ⟨j, h1, h2, h3, h4, h5⟩ := atI_get he
  obtain ⟨w, ew, rw'⟩ := r.get h2
  have hl := r.length
  have hn := line63
  have fin : EP X pins σ Q w s := ⟨z, H, I, rw', q⟩
  by_cases h0 : 0 ≤ i
  · have hj : i.toNat = j := by
      rw [seqIndex_of h0 h5] at h1
      exact Option.some.inj h1
    exact item_listR pl.isList h0 (by omega) (by rw [hj]; simpa using ew) fin hs
  · have hj : (i + (its.toArray.size : Int)).toNat = j := by
      rw [seqIndex_neg (by omega) h4] at h1
      rw [List.size_toArray, ← hl]
      exact Option.some.inj h1
    exact subscriptTail_builtinR (x := w) pl.isList.typeIs slot_list_getitem.lookup
      (wpAny_getItem_list_neg (Q := fun r s' => r = w ∧ EP X pins σ Q r s') pl.isList (by omega) (by rw [List.size_toArray] <;> omega) (by omega) (by rw [hj]; simpa using ew) ⟨rfl, fin⟩) hs
theorem ix_tup : IxR X (rIxT X.K) := by
  intro value slice pins s σ H x y v u Q I rx ry h hs
  obtain ⟨p, xs, i, z, rfl, rfl, hq, he, q⟩ := h
  cases rx
  obtain ⟨t, rfl⟩ := ry
  obtain ⟨its, r, pl, hz⟩ := I.tuple hq
  obtain ⟨j, h1, h2, h3, h4, h5⟩ := atI_get he
  obtain ⟨w, ew, rw'⟩ := r.get h2
  have hl := r.length
  have hn := line63
  have fin : EP X pins σ Q w s := ⟨z, H, I, rw', q⟩
  exact subscriptTail_builtinR (x := w) pl.typeIs slot_tuple_getitem.lookup
    (getItem_tuple (j := j) (Q := fun r s' => r = w ∧ EP X pins σ Q r s') pl (by omega) (by omega) (by rw [List.size_toArray, ← hl]; exact h1) (by simpa using ew) ⟨rfl, fin⟩) hs
theorem ix_str : IxR X rIxS := by
  intro value slice pins s σ H x y v u Q I rx ry h hs
  obtain ⟨z, i, c, rfl, rfl, hz, he, q⟩ := h
  obtain ⟨t, rfl⟩ := rx
  obtain ⟨t', rfl⟩ := ry
  obtain ⟨j, h1, h2, h3, h4, h5⟩ := atI_get he
  have hl : z.cps.toList.length = z.length := by simp [Str.length]
  rw [hl] at h1 h4 h5
  have hn := line63
  exact tail_any (typeIs_str s z t) slot_str_getitem.lookup (getItem_str (c := c) (by
    have e1 : decide (i < -(2 ^ 63 : Int)) = false := decide_eq_false (by omega)
    have e2 : decide (i ≥ 2 ^ 63) = false := decide_eq_false (by omega)
    rw [e1, e2, Bool.or_false]) (by rw [h1]; simpa using h2) ⟨.str ⟨#[c]⟩, H, I.tok _, ⟨_, rfl⟩, q⟩) hs

/-! ### xs[i] = v, any sign -/
/-- the list's object behind a store -/
theorem mapSeq_set (its : List Value) (n j : Nat) (u : Value) : Obj.mapSeq (·.setIfInBounds j u) { cls := .type "list", data := .seq its.toArray n } = { cls := .type "list", data := .seq (its.set j u).toArray n } := by
  simp [Obj.mapSeq]
theorem Inv.lst {pins : List (Addr × Obj)} {σ : St} {H : Hp} {s : Shared} {p : Addr} {xs : List V} (I : Inv X pins σ H s) (h : H p = some (.lst xs)) :
    ∃ (its : List Value) (n : Nat), Vals xs its ∧ s.heap.get? p = some { cls := .type "list", data := .seq its.toArray n } ∧ xs.length ≤ sizeLine := by
  obtain ⟨z, its, n, r, e⟩ := I.hok p _ h
  exact ⟨its, n, r, e, z⟩
/-- the list at p is written by an update of its object -/
theorem Inv.lstUpd {pins : List (Addr × Obj)} {σ : St} {H : Hp} {s : Shared} {p : Addr} {xs ys : List V} {its its' : List Value} {n n' : Nat} {f : Obj → Obj} (I : Inv X pins σ H s) (h : H p = some (.lst xs))
    (ho : s.heap.get? p = some { cls := .type "list", data := .seq its.toArray n }) (hf : f { cls := .type "list", data := .seq its.toArray n } = { cls := .type "list", data := .seq its'.toArray n' }) (r : Vals ys its') (hz : ys.length ≤ sizeLine) (t : Nat) :
    Inv X pins σ (upd H p (.lst ys)) { s with heap := s.heap.update p f, toks := t } := by
  have e : (s.heap.update p f).get? p = some { cls := .type "list", data := .seq its'.toArray n' } := by
    rw [Heap.get?_update_self f ho (by rw [hf] <;> rfl), hf]
  refine I.write (x := p) (e := p) (by rw [h]; trivial) (.inl rfl) (fun b u hb q => (Heap.get?_update_other _ _ (Ne.symm hb)).trans q) ⟨_, e⟩ ?_
  exact ⟨hz, its', n', r, e⟩
noncomputable def rSetL : V → V → V → Hp → (Hp → Prop) → Prop := fun o i v H Q => ∃ p xs k j, o = .ref p ∧ i = .int k ∧ H p = some (.lst xs) ∧ ixN xs.length k = some j ∧ Q (upd H p (.lst (xs.set j v)))
theorem set_list : PSet X rSetL := by
  intro pins s σ H o i v ov iv u Q I ro ri rv h
  obtain ⟨p, xs, k, j, rfl, rfl, hp, hj, q⟩ := h
  cases ro
  obtain ⟨t, rfl⟩ := ri
  obtain ⟨its, n, r, ho, hz⟩ := I.lst hp
  obtain ⟨h1, h2, h3, h4⟩ := ixN_seq hj
  have hl := r.length
  have hn := line63
  have I' : Inv X pins σ (upd H p (.lst (xs.set j v))) { s with heap := s.heap.update p (Obj.mapSeq (·.setIfInBounds j u)) } :=
    I.lstUpd hp ho (mapSeq_set its n j u) (r.set rv j) (by rw [List.length_set]; exact hz) s.toks
  by_cases h0 : 0 ≤ k
  · have hk : k.toNat = j := by
      rw [seqIndex_of h0 h4] at h1
      exact Option.some.inj h1
    exact PySem.W.ki_setAt ho h0 (by omega) (by rw [List.size_toArray, ← hl]; exact h4) (by rw [hk]; exact ⟨_, I', q⟩)
  · have hk : (k + (its.toArray.size : Int)).toNat = j := by
      rw [seqIndex_neg (by omega) h3] at h1
      rw [List.size_toArray, ← hl]
      exact Option.some.inj h1
    exact PySem.W.ki_setBack ho (by omega) (by rw [List.size_toArray, ← hl]; exact h3) (by omega) (by rw [hk]; exact ⟨_, I', q⟩)

/-! ### slices -/
theorem slice_bounds (lo hi : Option Int) (n : Nat) : (sliceBounds lo hi none n).1 = ((HT.sIx n 0 lo : Nat) : Int) ∧ (sliceBounds lo hi none n).2.1 = ((HT.sIx n n hi : Nat) : Int) ∧ (sliceBounds lo hi none n).2.2 = 1 := by
  refine ⟨?_, ?_, rfl⟩
  · cases lo with
    | none => simp [sliceBounds, HT.sIx]
    | some i =>
      simp only [sliceBounds, HT.sIx, Option.getD_none, show (1 : Int) > 0 by decide, if_true]
      by_cases h : i < 0
      · simp only [h, if_true] <;> omega
      · simp only [h, if_false] <;> omega
  · cases hi with
    | none => simp [sliceBounds, HT.sIx]
    | some i =>
      simp only [sliceBounds, HT.sIx, Option.getD_none, show (1 : Int) > 0 by decide, if_true]
      by_cases h : i < 0
      · simp only [h, if_true] <;> omega
      · simp only [h, if_false] <;> omega
theorem slicePick_cut (its : List Value) (lo hi : Option Int) : slicePick its.toArray lo hi none = ((its.drop (HT.sIx its.length 0 lo)).take (HT.sIx its.length its.length hi - HT.sIx its.length 0 lo)).toArray := by
  obtain ⟨h1, h2, h3⟩ := slice_bounds lo hi its.toArray.size
  unfold slicePick
  rw [h1, h2, h3]
  simp only [sliceRange_one, pick_run, List.size_toArray] <;> rfl
/-- xs[lo:hi] of a list: a new list -/
noncomputable def rSlL (K : PySem.W.Frag) : V → Option Int → Option Int → Hp → VK → Prop := fun x lo hi H Q => ∃ a xs, x = .ref a ∧ SqL K H a xs ∧ ∀ p, H p = none → Q (.ref p) (upd H p (.lst (cutV xs lo hi)))
theorem sl_list : SlR X (rSlL X.K) := by
  intro pins s σ H x v vl vu lo hi sl Q I rx hs pl pu h
  obtain ⟨a, xs, rfl, hx, q⟩ := h
  cases rx
  obtain ⟨its, r, ht, hz⟩ := I.list hx
  have hlen := r.length
  refine ⟨"list", _, slot_list_getitem.lookup, ht.isList.typeIs, ?_⟩
  refine wpAny_getItem_list_slice ht.isList hs pl pu .none (by simp) ?_ (by rw [List.size_toArray] <;> omega)
  rw [slicePick_cut, ← hlen]
  refine ⟨.ref s.heap.objs.size, _, I.laid (t' := s.toks) (o := .lst (cutV xs lo hi)) (fun b ob q => Heap.get?_push_of_some _ q) (Nat.le_refl _) ?_, rfl, q _ (I.hok.fresh (Nat.le_refl _))⟩
  exact ⟨Nat.le_trans (cutV_length xs lo hi) hz, _, 0, (r.drop (HT.sIx xs.length 0 lo)).take (HT.sIx xs.length xs.length hi - HT.sIx xs.length 0 lo), Heap.get?_push_size _ rfl⟩

/-! ### in, not in: flat items -/

/-! ### len, list(x), tuple(x) of any list or tuple that is read -/
theorem call_len_seq : CallR X (.builtin "len") (fun xs H Q => ∃ p ys, xs = [.ref p] ∧ (SqL X.K H p ys ∨ SqT X.K H p ys) ∧ Q (.int ys.length) H) := by
  intro pins s σ H xs us Q I r h
  obtain ⟨p, ys, rfl, hq, q⟩ := h
  obtain ⟨u, rfl, rx⟩ := vals1 r
  cases rx
  have hn := line63
  rcases hq with hq | hq
  · obtain ⟨its, r', pl, hz⟩ := I.list hq
    have hlen := r'.length
    exact Calls.call_len_list pl.isList (by simp only [List.size_toArray] <;> omega) ⟨.int ys.length, H, I.tok _, ⟨s.toks + 1, by rw [List.size_toArray, hlen]⟩, q⟩
  · obtain ⟨its, r', pl, hz⟩ := I.tuple hq
    have hlen := r'.length
    exact len_tuple pl (by simp only [List.size_toArray] <;> omega) ⟨.int ys.length, H, I.tok _, ⟨s.toks + 1, by rw [List.size_toArray, hlen]⟩, q⟩
theorem call_len_str : CallR X (.builtin "len") (fun xs H Q => ∃ z, xs = [.str z] ∧ z.length ≤ sizeLine ∧ Q (.int z.length) H) := by
  intro pins s σ H xs us Q I r h
  obtain ⟨z, rfl, hz, q⟩ := h
  obtain ⟨u, rfl, t, rfl⟩ := vals1 r
  have hn := line63
  exact len_str (by omega) ⟨.int z.length, H, I.tok _, ⟨_, rfl⟩, q⟩
theorem CallR.or {f : Value} {r r' : List V → Hp → VK → Prop} (h : CallR X f r) (h' : CallR X f r') : CallR X f (fun xs H Q => r xs H Q ∨ r' xs H Q) := by
  intro pins s σ H xs us Q I rs q
  rcases q with q | q
  · exact h pins s σ H xs us Q I rs q
  · exact h' pins s σ H xs us Q I rs q
theorem call_list_of : CallR X (.type "list") (fun xs H Q => ∃ p ys, xs = [.ref p] ∧ (SqL X.K H p ys ∨ SqT X.K H p ys) ∧ ∀ l, H l = none → Q (.ref l) (upd H l (.lst ys))) := by
  intro pins s σ H xs us Q I r h
  obtain ⟨p, ys, rfl, hq, q⟩ := h
  obtain ⟨u, rfl, rx⟩ := vals1 r
  cases rx
  have fin : ∀ (its : List Value), Vals ys its → ys.length ≤ sizeLine → ∀ (h' : Heap) (c' : Nat), (∀ b o', s.heap.get? b = some o' → h'.get? b = some o') →
      h'.get? s.heap.objs.size = some { cls := .type "list", dict := none, data := .seq its.toArray c', slots := #[] } → EP X pins σ Q (.ref s.heap.objs.size) { s with heap := h' } := fun its r' hz h' c' kp e =>
    ⟨.ref s.heap.objs.size, _, I.laid (t' := s.toks) kp (Nat.le_refl _) (show ObjOk X.prog X.w _ h' _ (.lst ys) from ⟨hz, its, c', r', e⟩), rfl, q _ (I.hok.fresh (Nat.le_refl _))⟩
  rcases hq with hq | hq
  · obtain ⟨its, r', pl, hz⟩ := I.list hq
    have hlen := r'.length
    obtain ⟨o, ho, hc, n, hd⟩ := pl.isList
    exact call_list_seq p (.inl rfl) ho hc hd (fun h' c' kp e => fin its r' hz h' c' kp e) (by simp only [List.size_toArray] <;> omega)
  · obtain ⟨its, r', pl, hz⟩ := I.tuple hq
    have hlen := r'.length
    obtain ⟨o, ho, hc, n, hd⟩ := pl
    exact call_list_seq p (.inr rfl) ho hc hd (fun h' c' kp e => fin its r' hz h' c' kp e) (by simp only [List.size_toArray] <;> omega)
theorem call_tuple_of : CallR X (.type "tuple") (fun xs H Q => ∃ p ys, xs = [.ref p] ∧ ((SqL X.K H p ys ∧ ∀ l, H l = none → Q (.ref l) (upd H l (.tup ys))) ∨ (SqT X.K H p ys ∧ Q (.ref p) H))) := by
  intro pins s σ H xs us Q I r h
  obtain ⟨p, ys, rfl, h⟩ := h
  obtain ⟨u, rfl, rx⟩ := vals1 r
  cases rx
  rcases h with ⟨hq, q⟩ | ⟨hq, q⟩
  · obtain ⟨its, r', pl, hz⟩ := I.list hq
    have hlen := r'.length
    refine call_tuple_list pl.isList (fun h' kp => ?_) (by simp only [List.size_toArray] <;> omega)
    have I1 : Inv X pins σ H { s with heap := h' } := I.kept (t' := s.toks) kp
    have I2 : Inv X pins σ (upd H h'.objs.size (.tup ys)) { s with heap := h'.push { cls := .type "tuple", data := .seq its.toArray } } :=
      I1.laid (t' := s.toks) (fun b o e => Heap.get?_push_of_some _ e) (Nat.le_refl _) (show ObjOk X.prog X.w _ _ _ (.tup ys) from ⟨hz, its, r', IsTup.new _ _⟩)
    exact ⟨.ref h'.objs.size, _, I2, rfl, q _ (I1.hok.fresh (Nat.le_refl _))⟩
  · obtain ⟨its, r', pl, hz⟩ := I.tuple hq
    exact call_tuple_same pl ⟨.ref p, H, I, rfl, q⟩

/-! ### the call of a builtin's method: o.m(..) -/
/-- the value is of that builtin type -/
noncomputable def tyV (K : PySem.W.Frag) (T : String) (x : V) (H : Hp) : Prop := match x with
  | .str _ => T = "str"
  | .int _ => T = "int"
  | .ref p => (T = "list" ∧ ∃ xs, SqL K H p xs) ∨ (T = "tuple" ∧ ∃ o, K.lookup p = some o ∧ o.cls = .type "tuple" ∧ o.dict = none) ∨
      (T = "dict" ∧ ((∃ kvs, H p = some (.dK kvs)) ∨ ∃ kvs, H p = some (.dT kvs))) ∨ (T = "set" ∧ ∃ S n, H p = some (.set S n))
  | _ => False
theorem tyV_is {pins : List (Addr × Obj)} {σ : St} {H : Hp} {s : Shared} {T : String} {x : V} {v : Value} (I : Inv X pins σ H s) (r : RelV x v) (ty : tyV X.K T x H) :
    s.TypeIs v T ∧ ∀ a, v = .ref a → ∃ ob, s.heap.get? a = some ob ∧ ob.dict = none := by
  cases x with
  | str z =>
    obtain ⟨t, rfl⟩ := r
    cases (show T = "str" from ty)
    exact ⟨typeIs_str s z t, fun _ e => nomatch e⟩
  | int i =>
    obtain ⟨t, rfl⟩ := r
    cases (show T = "int" from ty)
    exact ⟨typeIs_int s i t, fun _ e => nomatch e⟩
  | ref p =>
    cases r
    rcases ty with ⟨rfl, xs, hq⟩ | ⟨rfl, o, hk, hc, hd⟩ | ⟨rfl, hk⟩ | ⟨rfl, S, n, hk⟩
    · obtain ⟨its, _, pl, _⟩ := I.list hq
      refine ⟨pl.isList.typeIs, fun a e => ?_⟩
      cases e
      obtain ⟨o, n, e, c, hd, _⟩ := pl
      exact ⟨o, e, hd⟩
    · refine ⟨⟨o, I.kIn p o hk, hc⟩, fun a e => ?_⟩
      cases e
      exact ⟨o, I.kIn _ o hk, hd⟩
    · have z : ∃ o, s.heap.get? p = some o ∧ o.ExactDict := by
        rcases hk with ⟨kvs, hk⟩ | ⟨kvs, hk⟩
        · obtain ⟨_, _, _, _, o, _, _, e, ex, _⟩ := I.hok p _ hk
          exact ⟨o, e, ex⟩
        · obtain ⟨_, _, _, _, o, _, _, e, ex, _⟩ := I.hok p _ hk
          exact ⟨o, e, ex⟩
      obtain ⟨o, e, ex⟩ := z
      refine ⟨⟨o, e, ex.1⟩, fun a e2 => ?_⟩
      cases e2
      exact ⟨o, e, ex.2.1⟩
    · obtain ⟨o, _, _, _, e, ex, _⟩ := I.hok p _ hk
      refine ⟨⟨o, e, ex.1⟩, fun a e2 => ?_⟩
      cases e2
      exact ⟨o, e, ex.2.1⟩
  | _ => exact False.elim ty
noncomputable def tBM (K : PySem.W.Frag) (T : String) (r : V → List V → Hp → VK → Prop) (to : TE) (t : TA) : TE := fun σ H Q => to σ H fun x H1 => tyV K T x H1 ∧ t σ H1 fun xs H2 => r x xs H2 Q
variable {o e : Expr} {es : List Expr} {to : TE} {t : TA} {name : Str} {apos cpos : Pos} {T id : String} {r : V → List V → Hp → VK → Prop}
theorem pe_bm (pa : PlainAttrs T) (slot : Slot T name id) (hty : typeOf (.builtin id) = pure (.type "method_descriptor")) (hm : MtR X id r) (ho : PE X o to) (ha : PA X (e :: es) t)
    (hbase : attributeBase o name X.env (eval o X.env) = eval o X.env := by rfl)
    (hfew : ((backTo cpos (starEach (e :: es) X.env)).all (fun x => !x.1) && (backToKw cpos (keywordEach [] X.env)).all (fun x => x.1.isSome)
      && decide ((e :: es).length + ([] : List Keyword).length + (if ([] : List Keyword).isEmpty then 0 else 1) < 30)) = true := by rfl)
    (hline : (apos.endLine == cpos.line) = true := by rfl) (hs : starEach (e :: es) X.env = (false, eval e X.env) :: starEach es X.env := by rfl) (hplain : (backTo cpos (starEach es X.env)).any (·.1) = false := by rfl) :
    PE X (.Call (.Attribute o name apos) (e :: es) [] cpos) (tBM X.K T r to t) := by
  intro pins s σ H Q I h
  refine wpAny_Call_method_late hbase hfew hline rfl (thn (ho pins s σ H _ I h) fun v s1 ⟨x, H1, I1, r1, ty, q1⟩ => ?_)
  obtain ⟨h1, h2⟩ := tyV_is I1 r1 ty
  refine ⟨T, id, pa, slot, hty, h1, h2, ?_⟩
  have hA := ha cpos pins s1 σ H1 _ I1 q1
  rw [hs] at hA ⊢
  refine Calls.callWith_builtin (by show (false || (backTo cpos (starEach es X.env)).any (·.1)) = false; rw [hplain] <;> rfl) (Calls.evalArgs_plain ?_)
  exact thn hA fun us s2 ⟨vs, H2, I2, r2, q2⟩ => hm pins s2 σ H2 x vs v us Q I2 r1 r2 q2
/- xs.append(e), list.index on a module's tuple .. are MtR facts of 06m -/
end
end L2

namespace L2
open PySem PySem.Spec PyProof.Rows

noncomputable def MtM (X : Cx) (id : String) (r : V → List V → Hp → VK → Prop) : Prop :=
  ∀ (pins : List (Addr × Obj)) (s : Shared) (σ : St) (H : Hp) (x : V) (xs : List V) (v : Value) (us : List Value) (Q : VK), Inv X pins σ H s → RelV x v → Vals xs us → r x xs H Q →
    wpAny (model X.prog X.w) X.A (call (.builtin id) (v :: us)) (EP X pins σ Q) X.xe s

/-! ### lists of values -/
theorem Vals.one : ∀ {x : V} {us : List Value}, Vals [x] us → ∃ u, us = [u] ∧ RelV x u
  | _, _, .cons r .nil => ⟨_, rfl, r⟩
theorem Vals.two : ∀ {x y : V} {us : List Value}, Vals [x, y] us → ∃ u v, us = [u, v] ∧ RelV x u ∧ RelV y v
  | _, _, _, .cons r (.cons q .nil) => ⟨_, _, rfl, r, q⟩
theorem Vals.zero : ∀ {us : List Value}, Vals [] us → us = []
  | _, .nil => rfl
theorem Vals.dropLast {xs : List V} {us : List Value} (h : Vals xs us) : Vals xs.dropLast us.dropLast := by
  induction h with
  | nil => exact .nil
  | cons r t ih =>
    cases t with
    | nil => exact .nil
    | cons q t' => exact .cons r ih
theorem Vals.eraseIdx : ∀ {xs : List V} {us : List Value} (i : Nat), Vals xs us → Vals (xs.eraseIdx i) (us.eraseIdx i)
  | _, _, _, .nil => .nil
  | _, _, 0, .cons _ t => t
  | _, _, i + 1, .cons r t => .cons r (Vals.eraseIdx i t)
theorem Vals.rep {xs : List V} {us : List Value} (h : Vals xs us) : ∀ k : Nat, Vals (List.replicate k xs).flatten (List.replicate k us).flatten
  | 0 => .nil
  | k + 1 => by
    rw [List.replicate_succ, List.replicate_succ, List.flatten_cons, List.flatten_cons]
    exact Vals.append h (Vals.rep h k)
theorem foldl_rep (its : List Value) : ∀ (k : Nat) (acc : List Value),
    List.foldl (fun x1 x2 => x1 ++ x2) acc.toArray (List.replicate k its.toArray) = (acc ++ (List.replicate k its).flatten).toArray
  | 0, acc => by simp
  | k + 1, acc => by
    have e : acc.toArray ++ its.toArray = (acc ++ its).toArray := by simp
    have e2 : (acc ++ its) ++ (List.replicate k its).flatten = acc ++ (List.replicate (k + 1) its).flatten := by
      rw [List.replicate_succ, List.flatten_cons, List.append_assoc]
    rw [← e2, ← foldl_rep its k (acc ++ its), ← e, List.replicate_succ, List.foldl_cons]

section
variable {X : Cx} {pins : List (Addr × Obj)} {σ : St} {H : Hp} {s : Shared} {l b : Addr} {xs ys zs : List V}

/-! ### the two steps: a tracked list is rewritten, a new list is laid -/
theorem Inv.lset {its its' : List Value} {n : Nat} {f : Array Value → Array Value} {t' : Nat} (I : Inv X pins σ H s) (hH : H l = some (.lst xs))
    (e : s.heap.get? l = some { cls := .type "list", data := .seq its.toArray n }) (hf : f its.toArray = its'.toArray) (hv : Vals ys its') (hz : ys.length ≤ sizeLine) :
    Inv X pins σ (upd H l (.lst ys)) { s with heap := s.heap.update l (Obj.mapSeq f), toks := t' } := by
  have q := PySem.IsL.update e f
  rw [hf] at q
  refine I.write (x := l) (e := l) (by rw [hH]; exact trivial) (.inl rfl) (fun b' u hb hu => (Heap.get?_update_other s.heap (Obj.mapSeq f) (Ne.symm hb)).trans hu) ⟨_, q⟩ ?_
  exact ⟨hz, its', _, hv, q⟩
theorem Inv.lnew {its : List Value} {t' : Nat} (I : Inv X pins σ H s) (hv : Vals ys its) (hz : ys.length ≤ sizeLine) :
    Inv X pins σ (upd H s.heap.objs.size (.lst ys)) { s with heap := s.heap.push { cls := .type "list", data := .seq its.toArray }, toks := t' } :=
  I.laid (fun _ _ q => Heap.get?_push_of_some _ q) (Nat.le_refl _) ⟨hz, its, 0, hv, Heap.get?_push_size _ rfl⟩
theorem Inv.fresh (I : Inv X pins σ H s) : H s.heap.objs.size = none := I.hok.fresh (Nat.le_refl _)
theorem Inv.lstM (I : Inv X pins σ H s) (hH : H l = some (.lst xs)) : xs.length ≤ sizeLine ∧ ∃ (its : List Value) (n : Nat), Vals xs its ∧ xs.length = its.length ∧ s.heap.get? l = some { cls := .type "list", data := .seq its.toArray n } := by
  obtain ⟨z, its, n, r, e⟩ := I.hok l _ hH
  exact ⟨z, its, n, r, r.length, e⟩

theorem notLongL {n : Nat} (h : n ≤ sizeLine) : Builtin.List.listTooLong n = false := by
  unfold Builtin.List.listTooLong
  exact decide_eq_false (by omega)
end

section
variable {X : Cx}

/-! ### methods -/
noncomputable def rAppend : V → List V → Hp → VK → Prop := fun x vs H Q => ∃ l xs y, x = .ref l ∧ vs = [y] ∧ H l = some (.lst xs) ∧ xs.length < sizeLine ∧ Q .non (upd H l (.lst (xs ++ [y])))
theorem mt_append : MtM X "list.append" rAppend := by
  intro pins s σ H x vs v us Q I rx rv h
  obtain ⟨l, xs, y, rfl, rfl, hH, hz, q⟩ := h
  cases rx
  obtain ⟨u, rfl, ru⟩ := rv.one
  obtain ⟨z, its, n, r, hl, e⟩ := I.lstM hH
  refine call_meets F.slot_list_append ⟨_, e, rfl⟩ F.entry_list_append (F.args_list_append_2 _ _) (PySem.list_append l its.toArray n u (by rw [List.size_toArray]; omega)) ⟨e, ?_⟩
  refine ⟨.non, _, I.lset (its' := its ++ [u]) hH e (by simp) (r.append (.cons ru .nil)) ?_, rfl, q⟩
  rw [List.length_append, List.length_singleton]
  omega

noncomputable def rExtend : V → List V → Hp → VK → Prop := fun x vs H Q => ∃ l b xs zs, x = .ref l ∧ vs = [.ref b] ∧ H l = some (.lst xs) ∧ H b = some (.lst zs) ∧ xs.length + zs.length ≤ sizeLine ∧ Q .non (upd H l (.lst (xs ++ zs)))
theorem mt_extend : MtM X "list.extend" rExtend := by
  intro pins s σ H x vs v us Q I rx rv h
  obtain ⟨l, b, xs, zs, rfl, rfl, hH, hB, hz, q⟩ := h
  cases rx
  obtain ⟨u, rfl, ru⟩ := rv.one
  cases ru
  obtain ⟨z, its, n, r, hl, e⟩ := I.lstM hH
  obtain ⟨z2, its2, n2, r2, hl2, e2⟩ := I.lstM hB
  have hsz : its.toArray.size + its2.toArray.size ≤ sizeLine := by rw [List.size_toArray, List.size_toArray]; omega
  have hlong : ¬ (!its.toArray.isEmpty && Builtin.List.listTooLong (its.toArray.size + its2.toArray.size)) = true := by
    rw [notLongL hsz, Bool.and_false]
    exact Bool.false_ne_true
  refine call_meets F.slot_list_extend ⟨_, e, rfl⟩ F.entry_list_extend (F.args_list_extend_2 _ _)
    (AutoSeq1.list_extend_list_list_0 l its.toArray n b its2.toArray n2 hlong (by rw [List.size_toArray]; omega) (by omega)) ⟨e, e2, ?_⟩
  refine ⟨.non, _, I.lset (its' := its ++ its2) hH e (by simp) (r.append r2) ?_, rfl, q⟩
  rw [List.length_append]
  omega





/-! ### list + list, list += list, list * int -/
noncomputable def rCat : R2 := fun x y H Q => ∃ l b xs zs, x = .ref l ∧ y = .ref b ∧ H l = some (.lst xs) ∧ H b = some (.lst zs) ∧ xs.length + zs.length ≤ sizeLine ∧ ∀ p, H p = none → Q (.ref p) (upd H p (.lst (xs ++ zs)))
theorem op_cat : OpR X (binaryOp .Add) rCat := by
  intro pins s σ H x y v u Q I rx ry h
  obtain ⟨l, b, xs, zs, rfl, rfl, hH, hB, hz, q⟩ := h
  cases rx
  cases ry
  obtain ⟨z, its, n, r, hl, e⟩ := I.lstM hH
  obtain ⟨z2, its2, n2, r2, hl2, e2⟩ := I.lstM hB
  refine PySem.P.add_list e e2 ?_ (by rw [List.size_toArray, List.size_toArray]; omega)
  have ea : its.toArray ++ its2.toArray = (its ++ its2).toArray := by simp
  rw [ea]
  exact ⟨.ref _, _, I.lnew (t' := s.toks) (r.append r2) (by rw [List.length_append]; omega), rfl, q _ I.fresh⟩
/-- a list times an int (a negative one is nothing) -/
noncomputable def rRep : R2 := fun x y H Q => ∃ l k xs, x = .ref l ∧ y = .int k ∧ H l = some (.lst xs) ∧ -(2 ^ 63) ≤ k ∧ k < 2 ^ 63 ∧ xs.length * k.toNat ≤ sizeLine ∧
  ∀ p, H p = none → Q (.ref p) (upd H p (.lst (List.replicate k.toNat xs).flatten))
theorem len_rep {α : Type} (xs : List α) (k : Nat) : (List.replicate k xs).flatten.length = k * xs.length := by
  induction k with
  | zero => simp
  | succ k ih => rw [List.replicate_succ, List.flatten_cons, List.length_append, ih, Nat.succ_mul, Nat.add_comm]
theorem op_rep : OpR X (binaryOp .Mult) rRep := by
  intro pins s σ H x y v u Q I rx ry h
  obtain ⟨l, k, xs, rfl, rfl, hH, h1, h2, hz, q⟩ := h
  cases rx
  obtain ⟨t, rfl⟩ := ry
  obtain ⟨z, its, n, r, hl, e⟩ := I.lstM hH
  have hlen : its.toArray.size * k.toNat ≤ sizeLine := by rw [List.size_toArray, ← hl]; exact hz
  have hcap : ¬ its.toArray.size * k.toNat > (2 ^ 63 - 1) / 8 := by
    have : (sizeLine : Nat) ≤ (2 ^ 63 - 1) / 8 := by decide
    omega
  have hfit : ¬ (!Builtin.List.listFitsIndex k) = true := by
    rw [fitsIndex_both h1 h2]
    exact Bool.false_ne_true
  have hlong : ¬ Builtin.List.listTooLong (its.toArray.size * k.toNat) = true := by
    rw [notLongL hlen]
    exact Bool.false_ne_true
  have hnew : List.foldl (fun x1 x2 => x1 ++ x2) #[] (List.replicate (if its.toArray.isEmpty = true then 0 else k.toNat) its.toArray) = (List.replicate k.toNat its).flatten.toArray := by
    have f0 : ∀ m : Nat, List.foldl (fun x1 x2 => x1 ++ x2) #[] (List.replicate m its.toArray) = (List.replicate m its).flatten.toArray := fun m => by
      have := foldl_rep its m []
      rw [List.nil_append] at this
      exact this
    rw [f0]
    cases its with
    | nil => simp
    | cons a r' => rw [if_neg (by simp)]
  refine wpAny_binaryOp_repeat_ref (T := "list") (U := "int") (by decide) ⟨_, e, rfl⟩ (fun s' => typeIs_int s' k t) noFill_list_mul F.fills_int_mul F.slot_int_rmul repeat_list F.slot_int_index.lookup
    (call_meets F.slot_int_rmul (typeIs_int s k t) F.entry_int_rmul (F.args_int_rmul_2 _ _) (int___rmul___int_list k t l its.toArray n)
      ⟨e, rfl, ⟨_, e, rfl⟩, call_meets F.slot_list_mul ⟨_, e, rfl⟩ F.entry_list_mul (F.args_list_mul_2 _ _) (AutoListH.list___mul___list_int_3 l its.toArray n k t hfit hcap hlong) ⟨e, ?_⟩⟩)
  rw [hnew]
  exact ⟨.ref _, _, I.lnew (t' := s.toks) (r.rep k.toNat) (by rw [len_rep, Nat.mul_comm]; exact hz), rfl, q _ I.fresh⟩

/-! ### del xs[i] -/
end

/-! ### xs[a:b] = ys -/
section
variable {prog : Program} {w : World} {A : Around} {E : Value → Shared → Prop} {s : Shared}
set_option maxRecDepth 100000 in
end

section
variable {X : Cx}
end
end L2


namespace L2
open PySem PySem.Spec PyProof.Rows

/-! ### lists of pairs as tables -/
section
variable {κ : Type} [DecidableEq κ]
noncomputable def valV (kvs : List (κ × V)) (k : κ) : Option V := (kvs.find? fun kv => decide (kv.1 = k)).map (·.2)
/-- in its place, or at the end -/
noncomputable def putK (kvs : List (κ × V)) (k : κ) (v : V) : List (κ × V) :=
  if (kvs.any fun kv => decide (kv.1 = k)) = true then kvs.map (fun kv => if kv.1 = k then (kv.1, v) else kv) else kvs ++ [(k, v)]
noncomputable def dropK (kvs : List (κ × V)) (k : κ) : List (κ × V) := kvs.filter fun kv => decide (kv.1 ≠ k)

theorem valV_pos {p : κ × V} {r : List (κ × V)} {k : κ} (e : p.1 = k) : valV (p :: r) k = some p.2 := by simp [valV, List.find?_cons, e]
theorem valV_neg {p : κ × V} {r : List (κ × V)} {k : κ} (e : ¬ p.1 = k) : valV (p :: r) k = valV r k := by simp [valV, List.find?_cons, e]
theorem valV_any (k : κ) : ∀ kvs : List (κ × V), (kvs.any fun kv => decide (kv.1 = k)) = (valV kvs k).isSome
  | [] => rfl
  | p :: r => by
    rw [List.any_cons]
    by_cases e : p.1 = k
    · simp only [valV_pos e, decide_eq_true e, Bool.true_or, Option.isSome_some]
    · rw [valV_neg e, decide_eq_false e, Bool.false_or]; exact valV_any k r
theorem length_putK (kvs : List (κ × V)) (k : κ) (v : V) : (putK kvs k v).length ≤ kvs.length + 1 := by
  unfold putK
  split
  · rw [List.length_map]; omega
  · rw [List.length_append, List.length_cons, List.length_nil]; omega

theorem RelO.isSome_eq {o : Option V} {u : Option Value} (r : RelO o u) : o.isSome = u.isSome := by
  cases o with
  | none => cases u with
    | none => rfl
    | some _ => exact (show False from r).elim
  | some _ => cases u with
    | none => exact (show False from r).elim
    | some _ => rfl
theorem RelO.getD {o : Option V} {u : Option Value} {d : V} {d' : Value} (r : RelO o u) (rd : RelV d d') : RelV (o.getD d) (u.getD d') := by
  cases o with
  | none => cases u with
    | none => exact rd
    | some _ => exact (show False from r).elim
  | some _ => cases u with
    | none => exact (show False from r).elim
    | some _ => exact r

/-- raw tables of the same keys -/
theorem KV.val {kvs : List (κ × V)} {vs : List (κ × Value)} (r : KV kvs vs) (k : κ) : RelO (valV kvs k) (valueAt vs k) := by
  unfold KV at r
  induction r with
  | nil => exact True.intro
  | @cons p q ps qs h t ih =>
    obtain ⟨h1, h2⟩ := h
    by_cases e : p.1 = k
    · have e' : q.1 = k := h1.symm.trans e
      have b : valueAt (q :: qs) k = some q.2 := by simp [valueAt, List.find?_cons, e']
      rw [valV_pos e, b]; exact h2
    · have e' : ¬ q.1 = k := fun z => e (h1.trans z)
      have b : valueAt (q :: qs) k = valueAt qs k := by simp [valueAt, List.find?_cons, e']
      rw [valV_neg e, b]; exact ih
theorem KV.any {kvs : List (κ × V)} {vs : List (κ × Value)} (r : KV kvs vs) (k : κ) : (kvs.any fun kv => decide (kv.1 = k)) = vs.any fun kv => decide (kv.1 = k) := by
  unfold KV at r
  induction r with
  | nil => rfl
  | cons h t ih => rw [List.any_cons, List.any_cons, ih, h.1]
theorem KV.repl {kvs : List (κ × V)} {vs : List (κ × Value)} (r : KV kvs vs) (k : κ) {y : V} {u : Value} (ry : RelV y u) :
    KV (kvs.map fun kv => if kv.1 = k then (kv.1, y) else kv) (vs.map fun kv => if kv.1 = k then (kv.1, u) else kv) := by
  unfold KV at r ⊢
  induction r with
  | nil => exact .nil
  | @cons p q ps qs h t ih =>
    rw [List.map_cons, List.map_cons]
    refine .cons ?_ ih
    obtain ⟨h1, h2⟩ := h
    by_cases e : p.1 = k
    · rw [if_pos e, if_pos (h1.symm.trans e)]; exact ⟨h1, ry⟩
    · rw [if_neg e, if_neg (fun z => e (h1.trans z))]; exact ⟨h1, h2⟩
theorem KV.put {kvs : List (κ × V)} {vs : List (κ × Value)} (r : KV kvs vs) (k : κ) {y : V} {u : Value} (ry : RelV y u) : KV (putK kvs k y) (stored vs k u) := by
  unfold putK stored
  rw [r.any k]
  by_cases e : (vs.any fun kv => decide (kv.1 = k)) = true
  · rw [if_pos e, if_pos e]; exact r.repl k ry
  · rw [if_neg e, if_neg e]; exact Paired.snoc r ⟨rfl, ry⟩
theorem KV.drop {kvs : List (κ × V)} {vs : List (κ × Value)} (r : KV kvs vs) (k : κ) : KV (dropK kvs k) (without vs k) := by
  unfold KV at r ⊢
  unfold dropK without
  induction r with
  | nil => exact .nil
  | @cons p q ps qs h t ih =>
    obtain ⟨h1, h2⟩ := h
    rw [List.filter_cons, List.filter_cons]
    by_cases e : p.1 = k
    · have a : ¬ decide (p.1 ≠ k) = true := by simp [e]
      have b : ¬ decide (q.1 ≠ k) = true := by simp [h1.symm.trans e]
      rw [if_neg a, if_neg b]; exact ih
    · have e' : ¬ q.1 = k := fun z => e (h1.trans z)
      have a : decide (p.1 ≠ k) = true := by simp [e]
      have b : decide (q.1 ≠ k) = true := by simp [e']
      rw [if_pos a, if_pos b]; exact .cons ⟨h1, h2⟩ ih
theorem KV.keys {kvs : List (κ × V)} {vs : List (κ × Value)} (r : KV kvs vs) : kvs.map (·.1) = vs.map (·.1) := by
  unfold KV at r
  induction r with
  | nil => rfl
  | cons h t ih => rw [List.map_cons, List.map_cons, ih, h.1]
theorem KV.length {kvs : List (κ × V)} {vs : List (κ × Value)} (r : KV kvs vs) : kvs.length = vs.length := Paired.length r
end


/-! ### a tracked dict, its keys ints and texts or tuples of these -/
theorem kV_is {P : Program} {w : World} {k : Key} {u : Value} (r : RelV (kV k) u) : (mixKind P w).is k u = true := by
  cases k with
  | inl i => obtain ⟨t, e⟩ := (show ∃ t, u = Value.int i t from r); subst e; exact mixKind_int P w i t
  | inr x => obtain ⟨t, e⟩ := (show ∃ t, u = Value.str x t from r); subst e; exact mixKind_str P w x t
theorem items_are {P : Program} {w : World} : ∀ {ks : List Key} {us : List Value}, Vals (ks.map kV) us → ItemsAre (mixKind P w) ks us
  | [], _, r => by rw [List.map_nil] at r; cases r; exact .nil
  | k :: ks, _, r => by
    rw [List.map_cons] at r
    cases r with
    | cons h t => exact .cons (kV_is h) (items_are t)

/-- raw entries of a dict with tuple keys -/
noncomputable abbrev KT (H : Hp) : List (List Key × V) → List (List Key × Addr × Value) → Prop := Paired fun p q => p.1 = q.1 ∧ H q.2.1 = some (.tup (p.1.map kV)) ∧ RelV p.2 q.2.2
theorem KT.val {H : Hp} {kvs : List (List Key × V)} {xs : List (List Key × Addr × Value)} (r : KT H kvs xs) (k : List Key) : RelO (valV kvs k) ((atKey xs k).map (·.2)) := by
  induction r with
  | nil => exact True.intro
  | @cons p q ps qs h t ih =>
    obtain ⟨h1, _, h2⟩ := h
    by_cases e : p.1 = k
    · have e' : q.1 = k := h1.symm.trans e
      have b : atKey (q :: qs) k = some q.2 := by simp [atKey, List.find?_cons, e']
      rw [valV_pos e, b]; exact h2
    · have e' : ¬ q.1 = k := fun z => e (h1.trans z)
      have b : atKey (q :: qs) k = atKey qs k := by simp [atKey, List.find?_cons, e']
      rw [valV_neg e, b]; exact ih
theorem KT.repl {H : Hp} {kvs : List (List Key × V)} {xs : List (List Key × Addr × Value)} (r : KT H kvs xs) (k : List Key) {y : V} {u : Value} (ry : RelV y u) :
    KT H (kvs.map fun kv => if kv.1 = k then (kv.1, y) else kv) (xs.map (putAt k u)) := by
  induction r with
  | nil => exact .nil
  | @cons p q ps qs h t ih =>
    rw [List.map_cons, List.map_cons]
    refine .cons ?_ ih
    obtain ⟨h1, h2, h3⟩ := h
    unfold putAt
    by_cases e : p.1 = k
    · rw [if_pos e, if_pos (h1.symm.trans e)]; exact ⟨h1, h2, ry⟩
    · rw [if_neg e, if_neg (fun z => e (h1.trans z))]; exact ⟨h1, h2, h3⟩
theorem KT.put {H : Hp} {kvs : List (List Key × V)} {xs : List (List Key × Addr × Value)} (r : KT H kvs xs) (k : List Key) {b : Addr} {y : V} {u : Value} (hb : H b = some (.tup (k.map kV))) (ry : RelV y u) :
    KT H (putK kvs k y) (storedH xs k b u) := by
  have e : (kvs.any fun kv => decide (kv.1 = k)) = (atKey xs k).isSome := by
    rw [valV_any, (r.val k).isSome_eq, Option.isSome_map]
  unfold putK storedH
  rw [e]
  by_cases q : (atKey xs k).isSome = true
  · rw [if_pos q, if_pos q]; exact r.repl k ry
  · rw [if_neg q, if_neg q]; exact Paired.snoc r ⟨rfl, hb, ry⟩
theorem KT.keeps {H H' : Hp} {kvs : List (List Key × V)} {xs : List (List Key × Addr × Value)} (r : KT H kvs xs) (ht : ∀ b ys, H b = some (.tup ys) → H' b = some (.tup ys)) : KT H' kvs xs :=
  Paired.mapP r fun _ _ z => ⟨z.1, ht _ _ z.2.1, z.2.2⟩

section
variable {P : Program} {w : World} {H : Hp} {h : Heap} {a : Addr}
theorem rd_of {u : HO} (ok : HOk P w H h) (e : Rd H a u) : ObjOk P w H h a u := e.ok ok
theorem dk_rd {kvs : List (Key × V)} (ok : HOk P w H h) (e : Rd H a (.dK kvs)) : kvs.length ≤ sizeLine ∧ (a == sysModules) = false ∧ ∃ vs, KV kvs vs ∧ h.DictOf (mixKind P w) a vs :=
  show ObjOk P w H h a (.dK kvs) from rd_of ok e
theorem dk_of {kvs : List (Key × V)} (ok : HOk P w H h) (e : H a = some (.dK kvs)) : kvs.length ≤ sizeLine ∧ (a == sysModules) = false ∧ ∃ vs, KV kvs vs ∧ h.DictOf (mixKind P w) a vs := dk_rd ok (.inl e)
/-- a tracked tuple of ints and texts is a key -/
theorem key_of {ks : List Key} (ok : HOk P w H h) (e : H a = some (.tup (ks.map kV))) : (tupleKind (mixKind P w)).is h ks a := by
  obtain ⟨_, its, r, o, h1, h2, n, h3⟩ := (show ObjOk P w H h a (.tup (ks.map kV)) from ok a _ e)
  exact ⟨o, its.toArray, n, h1, h2, h3, by simpa using items_are r⟩
theorem dt_rd {kvs : List (List Key × V)} (ok : HOk P w H h) (e : Rd H a (.dT kvs)) : kvs.length ≤ sizeLine ∧ (a == sysModules) = false ∧
    ∃ xs, KT H kvs xs ∧ h.DictOfH (tupleKind (mixKind P w)) a xs := by
  obtain ⟨z, y, xs, r, o, es, ep, h1, h2, h3, h4, h5⟩ := (show ObjOk P w H h a (.dT kvs) from rd_of ok e)
  refine ⟨z, y, xs, r, o, es, ep, h1, h2, h3, h4, fun x hx => ?_, h5⟩
  have all : ∀ {l : List (List Key × V)} {m : List (List Key × Addr × Value)}, KT H l m → ∀ x ∈ m, (tupleKind (mixKind P w)).is h x.1 x.2.1 := by
    intro l m q
    induction q with
    | nil => intro x hx; exact nomatch hx
    | @cons p q ps qs hq t ih =>
      intro x hx
      rcases List.mem_cons.mp hx with e | hx
      · subst e
        exact key_of ok (by rw [← hq.1]; exact hq.2.1)
      · exact ih x hx
  exact all r x hx
end

/-- what the dict at a holds at the key y -/
noncomputable def DGet (H : Hp) (a : Addr) (y : V) (r : Option V) : Prop :=
  (∃ kvs k, Rd H a (.dK kvs) ∧ y = kV k ∧ r = valV kvs k) ∨ ∃ kvs k b, Rd H a (.dT kvs) ∧ y = .ref b ∧ H b = some (.tup (k.map kV)) ∧ r = valV kvs k
/-- the heap behind a[y] = v -/
noncomputable def DPut (H : Hp) (a : Addr) (y v : V) (H' : Hp) : Prop :=
  (∃ kvs k, H a = some (.dK kvs) ∧ y = kV k ∧ kvs.length < sizeLine ∧ H' = upd H a (.dK (putK kvs k v))) ∨
  ∃ kvs k b, H a = some (.dT kvs) ∧ y = .ref b ∧ H b = some (.tup (k.map kV)) ∧ kvs.length < sizeLine ∧ H' = upd H a (.dT (putK kvs k v))
theorem DGet.k {H : Hp} {a : Addr} {kvs : List (Key × V)} {k : Key} (e : H a = some (.dK kvs)) : DGet H a (kV k) (valV kvs k) := .inl ⟨kvs, k, .inl e, rfl, rfl⟩
theorem DGet.t {H : Hp} {a b : Addr} {kvs : List (List Key × V)} {k : List Key} (e : H a = some (.dT kvs)) (eb : H b = some (.tup (k.map kV))) : DGet H a (.ref b) (valV kvs k) := .inr ⟨kvs, k, b, .inl e, rfl, eb, rfl⟩
theorem DPut.k {H : Hp} {a : Addr} {kvs : List (Key × V)} {k : Key} {v : V} (e : H a = some (.dK kvs)) (hl : kvs.length < sizeLine) : DPut H a (kV k) v (upd H a (.dK (putK kvs k v))) := .inl ⟨kvs, k, e, rfl, hl, rfl⟩
theorem DPut.t {H : Hp} {a b : Addr} {kvs : List (List Key × V)} {k : List Key} {v : V} (e : H a = some (.dT kvs)) (eb : H b = some (.tup (k.map kV))) (hl : kvs.length < sizeLine) :
    DPut H a (.ref b) v (upd H a (.dT (putK kvs k v))) := .inr ⟨kvs, k, b, e, rfl, eb, hl, rfl⟩


section
variable {X : Cx} {pins : List (Addr × Obj)} {σ : St} {H : Hp} {s : Shared} {a : Addr} {y v : V} {u r : Value} {o : Option V} {A : Around} {E : Value → Shared → Prop}

theorem Inv.big (I : Inv X pins σ H s) : sysModules < s.heap.objs.size := by
  have h : mainGlobals < s.heap.objs.size := (I.mod.glob.keeps I.bk).lt
  exact Nat.lt_trans (by decide) h

/-- d[y], there -/
theorem d_getItem {Q : Value → Shared → Prop} (hu : A.units + 1 < cLine) (I : Inv X pins σ H s) (g : DGet H a y (some v)) (ry : RelV y u) (h : ∀ w' s', Inv X pins σ H s' → RelV v w' → Q w' s') :
    wpAny (model X.prog X.w) A (getItem (.ref a) u) Q E s := by
  rcases g with ⟨kvs, k, e, ey, l⟩ | ⟨kvs, k, b, e, ey, eb, l⟩
  · subst ey
    obtain ⟨z, hd, vs, rel, dd⟩ := dk_rd I.hok e
    obtain ⟨w', hw, rw'⟩ := RelO.some_of (v := v) (o := valueAt vs k) (by rw [l]; exact rel.val k)
    exact wpAny_getItem_of (kV_is ry) dd.mapOf hw (h w' _ (I.tok _) rw')
  · subst ey
    cases (show u = Value.ref b from ry)
    obtain ⟨z, hd, xs, rel, dd⟩ := dt_rd I.hok e
    obtain ⟨w', hw, rw'⟩ := RelO.some_of (v := v) (o := (atKey xs k).map (·.2)) (by rw [l]; exact rel.val k)
    obtain ⟨p, hp, hp2⟩ := Option.map_eq_some_iff.mp hw
    refine wpAny_getItem_heap (tupleKind_room_in1 hu) (key_of I.hok eb) dd hp ?_
    rw [hp2]
    exact h w' _ (I.tok _) rw'
theorem d_notIn {Q : Value → Shared → Prop} (hu : A.units + 1 < cLine) (I : Inv X pins σ H s) (g : DGet H a y o) (ry : RelV y u) (h : ∀ s', Inv X pins σ H s' → Q (.bool (!o.isSome)) s') :
    wpAny (model X.prog X.w) A (compareOp .NotIn u (.ref a)) Q E s := by
  rcases g with ⟨kvs, k, e, ey, l⟩ | ⟨kvs, k, b, e, ey, eb, l⟩
  · subst ey
    obtain ⟨z, hd, vs, rel, dd⟩ := dk_rd I.hok e
    refine wpAny_notIn_of (kV_is ry) hd dd.mapOf ?_
    rw [← (rel.val k).isSome_eq, ← l]
    exact h _ (I.tok _)
  · subst ey
    cases (show u = Value.ref b from ry)
    obtain ⟨z, hd, xs, rel, dd⟩ := dt_rd I.hok e
    refine wpAny_notIn_heap (tupleKind_room_in1 hu) (key_of I.hok eb) hd dd ?_
    have q := (rel.val k).isSome_eq
    rw [Option.isSome_map] at q
    rw [← q, ← l]
    exact h _ (I.tok _)
/-- a dict's object is replaced -/
theorem d_write {h' : Heap} {t' : Nat} {ob : HO} (I : Inv X pins σ H s) (mu : Mut (H a)) (hs : Heap.SameBut a s.heap h') (he : ∃ q, h'.get? a = some q) (new : ObjOk X.prog X.w (upd H a ob) h' a ob) :
    Inv X pins σ (upd H a ob) { s with heap := h', toks := t' } :=
  I.write (x := a) (e := a) mu (.inl rfl) (fun b q hb z => (hs.2 b hb).trans z) he new
theorem dk_new {P : Program} {w : World} {H' : Hp} {h' : Heap} {kvs : List (Key × V)} {vs : List (Key × Value)} (z : kvs.length ≤ sizeLine) (hd : (a == sysModules) = false) (rel : KV kvs vs) (dd : h'.DictOf (mixKind P w) a vs) :
    ObjOk P w H' h' a (.dK kvs) := ⟨z, hd, vs, rel, dd⟩
end

section
variable {X : Cx} {pins : List (Addr × Obj)} {σ : St} {H : Hp} {s : Shared} {a : Addr} {kvs : List (Key × V)} {k : Key} {u : Value} {A : Around} {E : Value → Shared → Prop}
end


/-! ### readings and rules -/
/-- the element of a subscription, not a slice -/
noncomputable def NoSl (i : Expr) : Prop := ∀ ov iv, subscripted i false ov iv = operate [ov, iv] (getItem ov iv)
theorem subD_of {prog : Program} {w : World} {A : Around} {E : Value → Shared → Prop} {s : Shared} {env : Env} {value slice : Expr} {pos : Pos} {T id : String} {Q : Value → Shared → Prop}
    (hl : typeLookup (.type T) "__getitem__" = pure (some (.builtin id))) (hs : NoSl slice)
    (h : wpAny (model prog w) A (eval value env) (fun o s₁ => wpAny (model prog w) A (eval slice env) (fun i s₂ => s₂.TypeIs o T ∧ wpAny (model prog w) A (getItem o i) Q E s₂) E s₁) E s) :
    wpAny (model prog w) A (eval (.Subscript value slice pos) env) Q E s := by
  refine Subscript_ (wpAny_mono h (fun o s₁ h₁ => wpAny_mono h₁ (fun i s₂ h₂ => ?_) fun _ _ x => x) fun _ _ x => x)
  obtain ⟨hT, h₂⟩ := h₂
  unfold subscriptTail
  refine wpAny_bind ?_
  rw [getitemInPython_of_ne hT.not_modules]
  refine wpAny_bind (wpAny_specialOf hT hl ?_)
  have fin : wpAny (model prog w) A (subscripted slice false o i) (fun r s₃ => wpAny (model prog w) A (letTemporaryGo value o r >>= fun _ => pure r) Q E s₃) E s₂ := by
    rw [hs o i]
    exact wpAny_operating (wpAny_mono h₂ (fun r s₃ h₃ => wpAny_bind (wpAny_letTemporaryGo (wpAny_pure h₃))) fun _ _ x => x)
  first
    | exact wpAny_pure (wpAny_bind fin)
    | exact wpAny_bind (wpAny_pure (wpAny_bind fin))
    | exact wpAny_bind fin

theorem dict_typeIs {X : Cx} {pins : List (Addr × Obj)} {σ : St} {H : Hp} {s : Shared} {a : Addr} {y : V} {o : Option V} (I : Inv X pins σ H s) (g : DGet H a y o) : s.TypeIs (.ref a) "dict" := by
  rcases g with ⟨kvs, k, e, _, _⟩ | ⟨kvs, k, b, e, _, _, _⟩
  · obtain ⟨_, _, vs, _, dd⟩ := dk_rd I.hok e
    exact dd.typeIs
  · obtain ⟨_, _, xs, _, dd⟩ := dt_rd I.hok e
    exact dd.typeIs

/-- d[y] -/
noncomputable def tDGet (td ty : TE) : TE := fun σ H Q => td σ H fun x H1 => ty σ H1 fun y H2 => ∃ a v, x = .ref a ∧ DGet H2 a y (some v) ∧ Q v H2
noncomputable def tDNotIn (ty td : TE) : TE := fun σ H Q => ty σ H fun y H1 => td σ H1 fun x H2 => ∃ a o, x = .ref a ∧ DGet H2 a y o ∧ Q (.bl (!o.isSome)) H2

section
variable {X : Cx} {o i e value : Expr} {pos pos' tpos : Pos} {td ty tv : TE}
theorem pe_dget (hu : X.A.units + 1 < cLine) (ho : PE X o td) (hi : PE X i ty) (hs : NoSl i) : PE X (.Subscript o i pos) (tDGet td ty) := by
  intro pins s σ H Q I h
  refine subD_of PySem.F.slot_dict_getitem.lookup hs (thn (ho pins s σ H _ I h) fun u s1 ⟨x, H1, I1, rx, q1⟩ => thn (hi pins s1 σ H1 _ I1 q1) fun iv s2 ⟨y, H2, I2, ry, a, v, ex, g, q2⟩ => ?_)
  subst ex
  obtain rfl : u = Value.ref a := rx
  exact ⟨dict_typeIs I2 g, d_getItem hu I2 g ry fun w' s3 I3 rw' => ⟨v, H2, I3, rw', q2⟩⟩
theorem pc_dnotin (hu : X.A.units + 1 < cLine) (hi : PE X i ty) (ho : PE X o td) : PC X .NotIn i o (tDNotIn ty td) := by
  intro pins s σ H Q I h
  refine thn (hi pins s σ H _ I h) fun iv s1 ⟨y, H1, I1, ry, q1⟩ => thn (ho pins s1 σ H1 _ I1 q1) fun u s2 ⟨x, H2, I2, rx, a, ov, ex, g, q2⟩ => ?_
  subst ex
  obtain rfl : u = Value.ref a := rx
  exact d_notIn hu I2 g ry fun s3 I3 => ⟨.bl (!ov.isSome), H2, I3, rfl, q2⟩
end


/-! ### displays -/
theorem dk_empty {P : Program} {w : World} {H : Hp} (h : Heap) (hb : sysModules < h.objs.size) : ObjOk P w H (h.push { cls := .type "dict", data := .dict #[] }) h.objs.size (.dK []) :=
  ⟨Nat.zero_le _, beq_eq_false_iff_ne.mpr (Ne.symm (Nat.ne_of_lt hb)), [], .nil, Heap.DictOf.new h⟩
section
variable {X : Cx} {pos : Pos}
end

/-- the pairs of a display, from the left -/
noncomputable def tPairs : List (TE × TE) → St → Hp → (List (V × V) → Hp → Prop) → Prop
  | [], _, H, Q => Q [] H
  | (tk, tv) :: r, σ, H, Q => tk σ H fun x H1 => tv σ H1 fun y H2 => tPairs r σ H2 fun ps H3 => Q ((x, y) :: ps) H3
noncomputable abbrev VV : List (V × V) → List (Value × Value) → Prop := Paired fun p q => RelV p.1 q.1 ∧ RelV p.2 q.2
noncomputable def PPs (X : Cx) (pos : Pos) (keys : List (Option Expr)) (values : List Expr) (trs : List (TE × TE)) : Prop :=
  ∀ (pins : List (Addr × Obj)) (s : Shared) (σ : St) (H : Hp) (Q : List (V × V) → Hp → Prop), Inv X pins σ H s → tPairs trs σ H Q →
    wpAny (model X.prog X.w) X.A (evalPairs (pairTrees keys values X.env pos)) (fun vs s' => ∃ ps H', Inv X pins σ H' s' ∧ VV ps vs ∧ Q ps H') X.xe s
theorem pps_nil {X : Cx} {pos : Pos} : PPs X pos [] [] [] := fun pins s σ H Q I h => pairTrees_nil_walk ⟨[], H, I, .nil, h⟩
theorem pps_cons {X : Cx} {pos : Pos} {k v : Expr} {ks : List (Option Expr)} {vs : List Expr} {tk tv : TE} {trs : List (TE × TE)} (hk : PE X k tk) (hv : PE X v tv) (hr : PPs X pos ks vs trs) :
    PPs X pos (some k :: ks) (v :: vs) ((tk, tv) :: trs) := fun pins s σ H Q I h =>
  pairTrees_cons_walk (thn (hk pins s σ H _ I h) fun u s1 ⟨x, H1, I1, rx, q1⟩ => thn (hv pins s1 σ H1 _ I1 q1) fun w2 s2 ⟨y, H2, I2, ry, q2⟩ =>
    thn (hr pins s2 σ H2 _ I2 q2) fun ws s3 ⟨ps, H3, I3, rel, q3⟩ => ⟨(x, y) :: ps, H3, I3, .cons ⟨rx, ry⟩ rel, q3⟩)

noncomputable def mergeK (kvs more : List (Key × V)) : List (Key × V) := more.foldl (fun acc kv => putK acc kv.1 kv.2) kvs
theorem KV.merge : ∀ {more : List (Key × V)} {rs : List (Key × Value)} {kvs : List (Key × V)} {vs : List (Key × Value)}, KV more rs → KV kvs vs → KV (mergeK kvs more) (merged vs rs) := by
  intro more rs kvs vs r
  unfold KV at r
  induction r generalizing kvs vs with
  | nil => intro q; exact q
  | @cons p q ps qs h t ih =>
    intro r0
    have e : KV (putK kvs p.1 p.2) (stored vs q.1 q.2) := by
      have := r0.put p.1 h.2
      rw [← h.1]; exact this
    exact ih e
theorem length_mergeK : ∀ (more kvs : List (Key × V)), (mergeK kvs more).length ≤ kvs.length + more.length
  | [], kvs => by show kvs.length ≤ kvs.length + 0; omega
  | p :: r, kvs => by
    have h1 := length_mergeK r (putK kvs p.1 p.2)
    have h2 := length_putK kvs p.1 p.2
    show (mergeK (putK kvs p.1 p.2) r).length ≤ _
    rw [List.length_cons]; omega
theorem carries_of {P : Program} {w : World} : ∀ {kvs : List (Key × V)} {ws : List (Value × Value)}, VV (kvs.map fun kv => (kV kv.1, kv.2)) ws → ∃ rs, Carries (mixKind P w) ws rs ∧ KV kvs rs
  | [], _, r => by rw [List.map_nil] at r; cases r; exact ⟨[], True.intro, .nil⟩
  | p :: kvs, _, r => by
    rw [List.map_cons] at r
    cases r with
    | @cons a b as bs h t =>
      obtain ⟨rs, c, q⟩ := carries_of (P := P) (w := w) t
      obtain ⟨b1, b2⟩ := b
      exact ⟨(p.1, b2) :: rs, ⟨kV_is h.1, rfl, c⟩, .cons ⟨rfl, h.2⟩ q⟩
/-- {k: v, ..} with keys ints and texts; the new dict stands empty while the pairs are made -/
noncomputable def tDisp (trs : List (TE × TE)) : TE := fun σ H Q => ∀ p, H p = none → tPairs trs σ (upd H p (.dK [])) fun ps H2 => H2 p = some (.dK []) ∧ ∃ kvs : List (Key × V), ps = kvs.map (fun kv => (kV kv.1, kv.2)) ∧ kvs.length ≤ 15 ∧ Q (.ref p) (upd H2 p (.dK (mergeK [] kvs)))
theorem pe_disp {X : Cx} {pos : Pos} {keys : List (Option Expr)} {values : List Expr} {trs : List (TE × TE)} (h : PPs X pos keys values trs) (hall : keys.all (·.isSome) = true) (hl : keys.length = values.length) (h0 : keys ≠ [])
    (h15 : keys.length ≤ 15) : PE X (.Dict keys values pos) (tDisp trs) := by
  intro pins s σ H Q I q
  have hn := I.hok.fresh (Nat.le_refl s.heap.objs.size)
  have I1 := I.laid (a := s.heap.objs.size) (o := .dK []) (h' := s.heap.push { cls := .type "dict", data := .dict #[] }) (t' := s.toks) (fun _ _ q => Heap.get?_push_of_some _ q) (Nat.le_refl _) (dk_empty s.heap I.big)
  refine wpAny_Dict_walk (knd := mixKind X.prog X.w) hall hl h0 h15 (thn (h pins _ σ _ _ I1 (q _ hn)) fun ws s2 ⟨ps, H2, I2, rel, e, kvs, ep, lk, q2⟩ => ?_)
  subst ep
  obtain ⟨rs, c, rk⟩ := carries_of (P := X.prog) (w := X.w) rel
  obtain ⟨z, hd, vs0, r0, dd⟩ := dk_of I2.hok e
  cases r0
  refine ⟨rs, c, dd, fun h' dd' hs => ⟨.ref s.heap.objs.size, _, ?_, rfl, q2⟩⟩
  have hz : (mergeK [] kvs).length ≤ sizeLine := by
    have h1 := length_mergeK kvs []
    rw [List.length_nil] at h1
    rw [sizeLine_eq]; omega
  have he : ∃ q, h'.get? s.heap.objs.size = some q := let ⟨q, _, _, hq, _⟩ := dd'; ⟨q, hq⟩
  exact d_write I2 (by rw [e]; exact True.intro) hs he (dk_new hz hd (rk.merge .nil) dd')


/-! ### methods -/
/-- a method call o.m(e) of a built-in, with one argument: what must be seen of the text -/
structure M1 (X : Cx) (o : Expr) (m : Str) (apos : Pos) (e : Expr) (cpos : Pos) : Prop where
  base : attributeBase o m X.env (eval o X.env) = eval o X.env
  few : ((backTo cpos (starEach [e] X.env)).all (fun x => !x.1) && (backToKw cpos (keywordEach [] X.env)).all (fun x => x.1.isSome)
    && decide (([e] : List Expr).length + ([] : List Keyword).length + (if ([] : List Keyword).isEmpty then 0 else 1) < 30)) = true
  line : (apos.endLine == cpos.line) = true
  trees : backTo cpos (starEach [e] X.env) = [(false, eval e X.env)]
structure M2 (X : Cx) (o : Expr) (m : Str) (apos : Pos) (e f : Expr) (cpos : Pos) : Prop where
  base : attributeBase o m X.env (eval o X.env) = eval o X.env
  few : ((backTo cpos (starEach [e, f] X.env)).all (fun x => !x.1) && (backToKw cpos (keywordEach [] X.env)).all (fun x => x.1.isSome)
    && decide (([e, f] : List Expr).length + ([] : List Keyword).length + (if ([] : List Keyword).isEmpty then 0 else 1) < 30)) = true
  line : (apos.endLine == cpos.line) = true
  trees : backTo cpos (starEach [e, f] X.env) = [(false, eval e X.env), (false, eval f X.env)]


section
variable {X : Cx} {pins : List (Addr × Obj)} {σ : St} {H : Hp} {s : Shared} {a : Addr} {y d : V} {u r : Value} {o : Option V} {A : Around} {E : Value → Shared → Prop}
end

section
variable {X : Cx} {o e f : Expr} {apos cpos : Pos} {td ty tx : TE}
end

/-! ### dict(d): a copy -/
section
variable {X : Cx} {pins : List (Addr × Obj)} {σ : St} {H : Hp} {s : Shared} {a : Addr} {kvs : List (Key × V)} {A : Around} {E : Value → Shared → Prop}
end


section
variable {X : Cx} {pins : List (Addr × Obj)} {σ : St} {H : Hp} {s : Shared} {a : Addr} {y : V} {u : Value} {A : Around} {E : Value → Shared → Prop}
end
end L2

namespace Att
open PySem PySem.W PySem.Calls PyProof.Rows

/-! ### the script -/
theorem ints_of_wellAll {P : Params} {h : Heap} : ∀ (ns : List Int) (vs : List Value), WellAll P h vs (ns.map WData.int) → IntsAre vs ns := by
  intro ns
  induction ns with
  | nil =>
    intro vs w
    rw [List.map_nil] at w
    cases w
    exact .nil
  | cons n ns ih =>
    intro vs w
    rw [List.map_cons] at w
    cases w with
    | cons a b =>
      cases a
      exact .cons _ _ (ih _ b)

theorem script_of {l : OpenLaw} {n : Nat} (hn : l.most = some n) {P : Params} {h : Heap} {args : List WData} {vals : List Value}
    (hpre : l.row.toRowW.claim.pre args = true) (hwl : WellAll P h vals args) :
    ∃ a vs ns, vals = [Value.ref a] ∧ args = [WData.list (ns.map WData.int)] ∧ h.get? a = some { cls := .type "list", data := .seq vs.toArray } ∧ IntsAre vs ns ∧ ns.length ≤ n := by
  have hsh : WShape.hasAll [] args [.list .int] = true := (pre_splitW hpre).1
  have hc : l.pre.holds [] { args := args } = true := (pre_splitW hpre).2
  obtain ⟨d, r, rfl, h1, h2⟩ := hasAllW_cons hsh
  obtain rfl := hasAllW_nil h2
  obtain ⟨xs, rfl, h3⟩ := hasW_list h1
  obtain ⟨ns, rfl⟩ := items_int h3
  have hlen : ns.length ≤ n := by
    unfold OpenLaw.pre at hc
    have h4 : (WTm.not (.lt (.lit (.int (n : Int))) (.len (.arg 0)))).holds [] { args := [.list (ns.map .int)] } = true := by
      have h4 := (holds_andW hc).1
      rw [hn] at h4
      exact h4
    have h5 := condW_of h4 (w_not (w_lt w_lit (w_len_list (w_arg rfl))))
    rw [List.length_map] at h5
    refine Nat.le_of_not_lt fun q => ?_
    have q' : (n : Int) < ((ns.length : Nat) : Int) := by omega
    first
      | (rw [decide_eq_true q'] at h5; exact absurd h5 (by decide))
      | (simp at h5; omega)
  cases hwl with
  | cons w1 w2 =>
    cases w2
    cases w1 with
    | list ho hall => exact ⟨_, _, ns, rfl, rfl, ho, ints_of_wellAll ns _ hall, hlen⟩

theorem post_true (l : OpenLaw) (args : List WData) : l.row.toRowW.claim.post args (.bool true) args = true :=
  postW_of (r := l.row.toRowW) (X := (true == true))
    (show WShape.has [] (.bool true) .bool = true by first | rfl | decide | simp [WShape.has, WShape.arms, WShape.armsAll])
    (show (WTm.eq .res (.lit (.bool true))).value [] { args := args, res := some (.bool true), after := args } = some (.bool (true == true)) from w_eq_bool (w_res rfl) w_lit) rfl

/-! ### the attachment: holds_open's last premise (the goal 'hc' behind k_head) from a wpAny of the law's body -/

/-- the same from a codeAny of the CALL (for a layer whose function contracts speak of calls) -/
theorem attach_call {l : OpenLaw} {n : Nat} {q : Program} {loose : List Str} {XP : (Str → Option Value) → Heap → Prop} {YP : World → Heap → Prop} {d : DefRec}
    (hn : l.most = some n) (hdf : d.params.defaults = [])
    (call : ∀ (w : World) (s₀ s₁ : Shared) (mg mb : Str → Option Value) (fa : Addr) (o : Obj) (pm cd doc : Value) (a : Addr) (vs : List Value) (ns : List Int),
      Ground q loose [] XP w s₀ mg mb s₁.heap → YP w s₁.heap →
      s₁.heap.get? fa = some o → o.data = .func (docDef d.name d.params d.body d.scope pm cd doc) → s₁.heap.CodeRec cd d.name → mg d.name = some (.ref fa) →
      s₁.heap.get? a = some { cls := .type "list", data := .seq vs.toArray } → IntsAre vs ns → ns.length ≤ n → s₁.gens = #[] →
      codeAny (model l.prog w) callerA (.call (.ref fa) ⟨[.ref a], []⟩) (fun r s' => r = .ok (.ret (.bool true)) ∧ OldK s₁.heap s'.heap ∧ s'.os = s₁.os ∧ AllBare s'.gens) s₁) :
    WalkO q loose XP YP l.row.toRowW d [] (fun f vs => PySem.call f vs) := by
  intro w s₀ s₁ mg mb G Y fa o pm cd doc dV kV ho hd hcd hD hmg hg args vals as hpre hlay hrd hwl hlo
  obtain rfl : dV = .none := Dflts.none hD hdf
  obtain rfl : kV = .none := Dflts.noKw hD
  obtain ⟨a, vs, ns, rfl, rfl, hobj, hints, hlen⟩ := script_of hn hpre hwl
  refine enter_call (codeAny_mono (call w s₀ s₁ mg mb fa o pm cd doc a vs ns G Y ho (fd_plain hd) hcd hmg hobj hints hlen hg) fun r s' hq => ?_)
  obtain ⟨rfl, h2, h3, h4⟩ := hq
  exact ⟨.inl ⟨.bool true, .bool true, [], rfl, fun _ => rfl, .bool true, post_true l _, fun _ => ⟨List.Pairwise.nil, fun _ hm => (nomatch hm)⟩⟩, h2, h3, h4⟩


/-! ### rules over ANY heap (no ledger) from facts about the written part K: the library's own take a ledger (News) for what they write -/
section
variable {prog : Program} {w : World} {A : Around} {E : Value → Shared → Prop} {s : Shared} {K : Frag}





/-! the whole heap as the ledger: makes every rule that writes through a ledger a rule over any heap -/
noncomputable def ledger (h : Heap) (L d : Addr) : List (Addr × Obj) := (List.range h.objs.size).filterMap fun a => if a = L ∨ a = d then none else (h.get? a).map fun o => (a, o)

end
end Att

namespace L2
open PySem PySem.Spec PyProof.Rows

theorem vals_ints : ∀ {vs : List Value} {ns : List Int}, IntsAre vs ns → Vals (ns.map V.int) vs
  | _, _, .nil => .nil
  | _, _, .cons n t h => .cons ⟨t, rfl⟩ (vals_ints h)

/-- nothing is tracked but the script, known to the object (or it is an object of the module) -/
noncomputable def Only (H : Hp) : Prop := ∀ b, H b = none ∨ ∃ o xs, H b = some (.frz o (.lst xs))

/-- THE HEAD: the law's promise, at the heap behind the top. F, the promise of the law's def, may use that base is part of the heap (so K.In base, base.Ns mainGlobals mg stand in Mod) -/
theorem law_call {P : Program} {w : World} {K : PySem.W.Frag} {mg mb : Str → Option Value} {CX : CXT} {k : Nat} {fa a : Addr} {fd : FuncData} {x : Str} {sp : Sp} {s₁ : Shared} {vs : List Value} {ns : List Int}
    (KX : K.In s₁.heap) (hns : s₁.heap.Ns mainGlobals mg) (hb : s₁.heap.Ns builtinsNs mb) (hbb : ∀ x : Str, x ≠ "__name__" → mb x = bootBuiltins x) (hlim : s₁.heap.NoLimit) (hg : s₁.gens = #[])
    (ha : s₁.heap.get? a = some { cls := .type "list", data := .seq vs.toArray }) (hi : IntsAre vs ns) (hl : ns.length ≤ sizeLine) (hr : Room k callerA)
    (F : ∀ base : Heap, K.In base → base.Ns mainGlobals mg → FnOk P w K mg base CX k fa fd [x] sp) (hbind : ∀ (s : Shared) (u : Value), BindsTo s fd ⟨[u], []⟩ [(x, u)])
    (hsp : ∀ H : Hp, Only H → SqL K H a (ns.map V.int) → sp [.ref a] H (fun v _ => v = .bl true) fun _ _ _ => False)
    (hCX : ∀ H e s', CX [] H s₁ (fun _ _ _ => False) e s' → False) :
    codeAny (model P w) callerA (.call (.ref fa) ⟨[.ref a], []⟩) (fun r s' => r = .ok (.ret (.bool true)) ∧ OldK s₁.heap s'.heap ∧ s'.os = s₁.os ∧ AllBare s'.gens) s₁ := by
  have rv := vals_ints hi
  have lenV := hi.length
  -- from an abstract heap in which nothing but the script may be tracked
  have core : ∀ H : Hp, Only H → SqL K H a (ns.map V.int) → HOk P w H s₁.heap → (∀ b, H b ≠ none → b = a) → (H a ≠ none → K.lookup a = none) →
      codeAny (model P w) callerA (.call (.ref fa) ⟨[.ref a], []⟩) (fun r s' => r = .ok (.ret (.bool true)) ∧ OldK s₁.heap s'.heap ∧ s'.os = s₁.os ∧ AllBare s'.gens) s₁ := by
    intro H hO hS hok hA hK
    have base_of : ∀ {b : Addr} {o : Obj}, s₁.heap.get? b = some o → H b = none → (hidT s₁.heap H).get? b = some o := fun e n => hidT_get e n
    have noA : ∀ {b : Addr} {o : Obj} {es : Array DictEntry} {ep : Nat}, s₁.heap.get? b = some o → o.data = .dict es ep → H b = none := fun {b o es ep} e d => by
      cases q : H b with
      | none => rfl
      | some u =>
        have e' : b = a := hA b (by rw [q]; simp)
        subst e'
        rw [ha] at e; cases e
        have d' : Data.seq vs.toArray _ = Data.dict es ep := d
        cases d'
    have nsK : ∀ {b : Addr} {m : Str → Option Value}, s₁.heap.Ns b m → (hidT s₁.heap H).Ns b m := fun {b m} ⟨o, es, ep, e, d, r⟩ => ⟨o, es, ep, base_of e (noA e d), d, r⟩
    have hKb : K.In (hidT s₁.heap H) := fun b o e => base_of (KX b o e) (by
      cases q : H b with
      | none => rfl
      | some u =>
        have e' : b = a := hA b (by rw [q]; simp)
        subst e'
        rw [hK (by rw [q]; simp)] at e; cases e)
    have hM : Mod K mg (hidT s₁.heap H) := ⟨hKb, nsK hns, ⟨mb, nsK hb, hbb⟩, let ⟨mc, h1, h2⟩ := hlim; ⟨mc, nsK h1, h2⟩⟩
    have e0 : Env0 P w K mg (hidT s₁.heap H) callerA [] s₁ H := ⟨rfl, hM, fun b o e => of_hidT e, Nat.le_of_eq (hidT_size _ _), trivial, fun b hb => absurd (show b ∈ ([] : List Addr) from hb) (by simp), hok, .of_eq hg⟩
    refine codeAny_mono ((F _ hKb (nsK hns)).run callerA [] s₁ H ⟨[.ref a], []⟩ [.ref a] [.ref a] _ _ hr e0 (hbind s₁ (.ref a)) (.cons rfl .nil) (hsp H hO hS)) fun r s' h => ?_
    cases r with
    | error e => exact (hCX H e s' h).elim
    | ok fl =>
      cases fl with
      | next => exact False.elim h
      | brk => exact False.elim h
      | cont => exact False.elim h
      | ret u =>
        obtain ⟨v, H', os, bare, un, hok', r', q⟩ := h
        have q' : v = .bl true := q
        subst q'
        obtain rfl : u = Value.bool true := r'
        refine ⟨rfl, OldK.of_keep fun b o e => ?_, os, bare⟩
        cases q : H b with
        | none => exact un.keep b o e q (by intro z; exact absurd (show b ∈ ([] : List Addr) from z) (by simp)) (by simp)
        | some u =>
          rcases hO b with z | ⟨ob, xs, z⟩
          · rw [q] at z; cases z
          · have z2 := un.frzs b ob _ z
            obtain ⟨e1, _⟩ := hok b _ z
            obtain ⟨e2, _⟩ := hok' b _ z2
            rw [e] at e1; cases e1
            exact e2
  cases hk : K.lookup a with
  | some o =>
    -- the script is one of the module's own objects
    have e := KX a o hk
    rw [ha] at e
    cases e
    refine core (fun _ => none) (fun _ => .inl rfl) (.inr ⟨_, vs.toArray, _, hk, rfl, rfl, rfl, by rw [List.size_toArray, lenV]; exact hl, by simpa using rv⟩) (fun b u z => by have z' : (none : Option HO) = some u := z; cases z') (fun b z => absurd rfl z) fun z => absurd rfl z
  | none =>
    refine core (fun b => if b = a then some (.frz { cls := .type "list", data := .seq vs.toArray } (.lst (ns.map V.int))) else none) (fun b => ?_) (.inl (.inr ⟨{ cls := .type "list", data := .seq vs.toArray }, if_pos rfl⟩)) (fun b u z => ?_) (fun b z => ?_) fun _ => hk
    · by_cases hb : b = a
      · exact .inr ⟨_, _, if_pos hb⟩
      · exact .inl (if_neg hb)
    · by_cases hb : b = a
      · have z' := (if_pos hb).symm.trans z
        cases z'
        subst hb
        exact ⟨ha, by rw [List.length_map]; exact hl, vs, _, rv, ha⟩
      · have z' := (if_neg hb).symm.trans z
        cases z'
    · by_cases hb : b = a
      · exact hb
      · exact absurd (if_neg hb) z
end L2

namespace L2
open PySem PySem.Spec PyProof.Rows

noncomputable abbrev KOf {K : PySem.W.Frag} {h : Heap} (_ : K.In h) : PySem.W.Frag := K

/-- the goal that k_head leaves (case hc), from the law's promise. F gives the function object fd (K's own) once, then the promise over every base -/
theorem walk_of {l : PySem.W.OpenLaw} {n k : Nat} {q : Program} {loose : List Str} {XP : (Str → Option Value) → Heap → Prop} {YP : World → Heap → Prop} {d : DefRec} {K : Params → PySem.W.Frag} {CX : World → CXT} {sp : World → Sp} {x : Str}
    (hn : l.most = some n) (hn2 : n ≤ sizeLine) (hdf : d.params.defaults = []) (hr : Room k callerA)
    (hY : ∀ (w : World) (h : Heap), YP w h → (K w.params).In h)
    (F : ∀ (w : World) (mg : Str → Option Value) (fa : Addr) (h : Heap), (K w.params).In h → h.Ns mainGlobals mg → mg d.name = some (.ref fa) →
      ∃ fd : FuncData, (∀ (s : Shared) (u : Value), BindsTo s fd ⟨[u], []⟩ [(x, u)]) ∧
        ∀ base : Heap, (K w.params).In base → base.Ns mainGlobals mg → FnOk l.prog w (K w.params) mg base (CX w) k fa fd [x] (sp w))
    (hsp : ∀ (w : World) (H : Hp) (a : Addr) (ns : List Int), ns.length ≤ n → Only H → SqL (K w.params) H a (ns.map V.int) → sp w [.ref a] H (fun v _ => v = .bl true) fun _ _ _ => False)
    (hCX : ∀ (w : World) (H : Hp) (s : Shared) (e : Value) (s' : Shared), CX w [] H s (fun _ _ _ => False) e s' → False) :
    PySem.W.WalkO q loose XP YP l.row.toRowW d [] (fun f vs => PySem.call f vs) := by
  refine Att.attach_call hn hdf fun w s₀ s₁ mg mb fa o pm cd doc a vs ns G Y ho hd hcd hmg hobj hints hlen hg => ?_
  have KX := hY w _ Y
  obtain ⟨fd, hb, hF⟩ := F w mg fa _ KX G.T.g hmg
  exact law_call KX G.T.g G.T.b G.T.builtins G.T.nolimit hg hobj hints (Nat.le_trans hlen hn2) hr hF hb (fun H hO hS => hsp w H a ns hlen hO hS) fun H e s' => hCX w H s₁ e s'
end L2

/- THE LAST THEOREM (shape; LID, My.* are yours):
   My.Adr: a structure of the addresses that your layer names (classes, functions); My.Txt K t: a structure (Prop) of the equations over K;
   My.txt_mk : {K} {implicit addresses ..} (e1 : nsIn K mainGlobals "law" = some (some (.ref f))) (e2 : K.lookup f = some ⟨oc, od, .func (fnOf "law" "law" params body scope dV kV doc pm an cdv ct), sl⟩) (e3 : codeIn K cdv "law" = true) .. : ∃ t, My.Txt K t

set_option maxRecDepth 100000 in
set_option maxHeartbeats 0 in
theorem PySem.Challenge.cw_LID_holds : PySem.Challenge.rw_LID.Holds := by
  w_on; o_law; k_head; (case hw => w_witness2)
  k_fill
  refine L2.walk_of (l := PySem.Challenge.rw_LID) (n := 63) (k := 40) (x := "script") (CX := fun w => ..) (sp := fun _ => My.sp_law) rfl (by decide) rfl ⟨rfl, by decide, by decide⟩ (fun w h Y => PySem.W.kIn_of Y) ?F ?S ?C
  case F =>
    intro w mg fa h KX G hmg
    have T : ∃ t, My.Txt (L2.KOf KX) t := by
      dsimp only [L2.KOf]                          -- K must stand as «<heap const> w.params» for k_is
      refine' My.txt_mk ?e1 ?e2 ?e3 ..
      (case e1 => PySem.W.k_is)                    -- in the order: a name -> its address -> its object -> its parts
      (case e2 => PySem.W.k_is)
      ..
    obtain ⟨t, T⟩ := T
    have e0 := hmg.symm.trans (PySem.W.mg_of KX G T.law)
    cases e0                                       -- fa is the law's own address
    exact ⟨_, fun s u => .of_eq rfl, fun base kb nb => My.law_fn T kb nb⟩     -- if «.of_eq rfl» comes too early: refine' ⟨_, ?b, fun base kb nb => My.law_fn T kb nb⟩; exact fun s u => .of_eq rfl
  case S => exact fun w H a ns hl hO hS => ..
  case C => exact ..
(the tactic k_is has no namespace: write k_is) -/

/-! SHORT WORDS over the layer: a def of the text, its body, what a loop and a test want. -/
namespace L2
open PySem PySem.Spec PyProof.Rows

/-! ### the text by places -/
noncomputable def defArgs (s : Stmt) : Arguments := match s with
  | .FunctionDef _ a _ _ _ _ _ _ _ _ => a
  | _ => { posonlyargs := [], args := [], vararg := none, kwonlyargs := [], kw_defaults := [], kwarg := none, defaults := [] }
noncomputable def defBody (s : Stmt) : List Stmt := match s with
  | .FunctionDef _ _ b _ _ _ _ _ _ _ => b
  | _ => []
noncomputable def defScope (s : Stmt) : Scope := match s with
  | .FunctionDef _ _ _ _ _ _ sc _ _ _ => sc
  | _ => { kind := .function, names := [], isGenerator := false, isCoroutine := false }

/-! ### no exception leaves a def -/
noncomputable abbrev CX0 : CXT := fun _ _ _ _ _ _ => False
noncomputable abbrev E0 : XK := fun _ _ _ => False
theorem pass0 {X : Cx} : Passes CX0 X E0 := fun _ _ _ _ _ _ _ h => h.elim

/-! ### a def (or method) of the text as it stands behind the top -/
structure Fun (K : PySem.W.Frag) (x qual : Str) (st : Stmt) (f : Addr) (fd : FuncData) : Prop where
  ex : ∃ (oc : Value) (od : Option Addr) (kV doc pm : Value) (an : Option Addr) (cdv ct : Value) (osl : Array (Option Value)),
    fd = PySem.W.fnOf x qual (defArgs st) (defBody st) (defScope st) .none kV doc pm an cdv ct ∧ K.lookup f = some ⟨oc, od, .func fd, osl⟩ ∧ PySem.W.codeIn K cdv qual = true
  kp : PySem.W.keepIn K (.ref f) = true
section
variable {P : Program} {w : World} {K : PySem.W.Frag} {mg : Str → Option Value} {base : Heap}
/-- THE RULE for a def: its body as a term of rules, and the reading of that term -/
theorem Fun.ok {x qual : Str} {st : Stmt} {f : Addr} {fd : FuncData} {N ps : List Str} {k : Nat} {sp : Sp} (F : Fun K x qual st f fd) (S : FnScope N ps (defScope st)) (len : ∀ vs H Q E, sp vs H Q E → vs.length = ps.length)
    (hbody : ∀ (cdv : Value) (A : Around) (outer : List Env) (s : Shared) (H : Hp) (vs : List V) (Q : VK) (E : XK), Room k (A.deeper (envOfC qual (defScope st) s.heap.objs.size f cdv)) → sp vs H Q E →
      ∃ t, PSs (cxOf CX0 P w K mg base N qual (defScope st) f cdv A outer s H E).nox (defBody st) t ∧ t { nx := fun _ H' => Q .non H', rt := Q } (start N vs) H) : FnOk P w K mg base CX0 (k + 1) f fd ps sp := by
  obtain ⟨oc, od, kV, doc, pm, an, cdv, ct, osl, rfl, lk, hcd⟩ := F.ex
  refine fn_of lk hcd S len fun A outer s H vs Q E hr hsp => ?_
  obtain ⟨t, h, q⟩ := hbody cdv A outer s H vs Q E hr hsp
  exact ⟨t, h.nox, q⟩
/-- how its arguments bind (no defaults): h is «fun _ _ _ _ _ _ us hl => match us, hl with | [_, _], _ => rfl», one _ a parameter -/
theorem Fun.binds {x qual : Str} {st : Stmt} {f : Addr} {fd : FuncData} {ps : List Str} (F : Fun K x qual st f fd)
    (h : ∀ (kV doc pm : Value) (an : Option Addr) (cdv ct : Value) (us : List Value), us.length = ps.length → bindArgs (PySem.W.fnOf x qual (defArgs st) (defBody st) (defScope st) .none kV doc pm an cdv ct) ⟨us, []⟩ = pure (ps.zip us)) : Binds K fd ps [] := by
  obtain ⟨oc, od, kV, doc, pm, an, cdv, ct, osl, rfl, lk, hcd⟩ := F.ex
  exact .all (h kV doc pm an cdv ct)
theorem fun_mk {x qual : Str} {st : Stmt} {f : Addr} {oc : Value} {od an : Option Addr} {osl : Array (Option Value)} {kV doc pm cdv ct : Value} (l : K.lookup f = some ⟨oc, od, .func (PySem.W.fnOf x qual (defArgs st) (defBody st) (defScope st) .none kV doc pm an cdv ct), osl⟩)
    (c : PySem.W.codeIn K cdv qual = true) (k : PySem.W.keepIn K (.ref f) = true) : Fun K x qual st f (PySem.W.fnOf x qual (defArgs st) (defBody st) (defScope st) .none kV doc pm an cdv ct) := ⟨⟨oc, od, kV, doc, pm, an, cdv, ct, osl, rfl, l, c⟩, k⟩
end
theorem hu_of {A : Around} {k : Nat} (hr : Room k A) : A.units + 1 < cLine := Nat.lt_of_le_of_lt (Nat.add_le_add_left (by decide : 1 ≤ 64) _) hr.units

/-! ### expressions in short: the name that stands in the i-th slot -/
section
variable {X : Cx}
theorem pv (i : Nat) {x : Str} {pos : Pos} (hN : X.N[i]? = some x := by rfl) (hv : Vis X.env.scope x := by first | exact Or.inl rfl | exact Or.inr (Or.inl rfl) | exact Or.inr (Or.inr rfl)) (hd : (x == ("__debug__" : Str)) = false := by decide)
    (hcd : (x == ("__classdict__" : Str)) = false := by decide) : PE X (.Name x pos) (tVar i) := pe_var hN hv hd hcd
end

/-! ### tests -/
theorem iteF {A B : Prop} (h : B) : if false = true then A else B := by
  rw [if_neg Bool.false_ne_true]
  exact h
theorem iteT {A B : Prop} (h : A) : if true = true then A else B := by
  rw [if_pos rfl]
  exact h
theorem ite2 {c A B : Prop} [Decidable c] (h1 : c → A) (h2 : ¬ c → B) : if c then A else B := by
  by_cases h : c
  · rw [if_pos h]
    exact h1 h
  · rw [if_neg h]
    exact h2 h

/-! ### heaps -/
/-- all that was tracked is as it was -/
noncomputable def Same (H H' : Hp) : Prop := ∀ b o, H b = some o → H' b = some o
theorem Same.refl (H : Hp) : Same H H := fun _ _ h => h
theorem Same.trans {H H1 H2 : Hp} (a : Same H H1) (b : Same H1 H2) : Same H H2 := fun c o h => b c o (a c o h)
theorem Same.free {H H' : Hp} (e : Same H H') {l : Addr} (h : H' l = Option.none) : H l = Option.none := by
  cases q : H l with
  | none => rfl
  | some o =>
    rw [e l o q] at h
    cases h
theorem Same.seq {K : PySem.W.Frag} {H H' : Hp} {a : Addr} {xs : List V} (e : Same H H') (h : SqL K H a xs) : SqL K H' a xs := by
  rcases h with (h | ⟨o, h⟩) | h
  · exact .inl (.inl (e _ _ h))
  · exact .inl (.inr ⟨o, e _ _ h⟩)
  · exact .inr h

/-! ### a dict's pairs: keys that differ -/
section
variable {κ : Type} [DecidableEq κ]
end
end L2


namespace M
/-! names that a cell tells -/
noncomputable def let26 (i : Int) : Nat := 97 + (i % 26).toNat
noncomputable def nmSize (c : Int) (many : Nat) : Nat := 1 + (c / 26 % (if 24 < many then 7 else 8)).toNat
noncomputable def nm (c : Int) (many k : Nat) : List Nat :=
  if c / 1664 % 3 = 0 ∧ many ≤ 8 then List.replicate (1 + ((c + k) % 8).toNat) (let26 c)
  else
    let b := (List.replicate (nmSize c many) (let26 c)).set (c / 208 % nmSize c many).toNat (let26 (c + 1 + (k % 24 : Nat)))
    if 23 < k then b ++ [let26 c] else b
theorem nmSize_lo (c : Int) (many : Nat) : 1 ≤ nmSize c many := by unfold nmSize; omega
theorem nmSize_hi (c : Int) (many : Nat) : nmSize c many ≤ 8 ∧ (24 < many → nmSize c many ≤ 7) := by
  unfold nmSize
  split <;> omega
theorem let26_inj {i j : Int} (h : let26 i = let26 j) : i % 26 = j % 26 := by unfold let26 at h; omega
theorem pos_lt (c : Int) (n : Nat) (h : 1 ≤ n) : (c / 208 % n).toNat < n := by
  have h1 : 0 ≤ c / 208 % (n : Int) := Int.emod_nonneg _ (by omega)
  have h2 : c / 208 % (n : Int) < n := Int.emod_lt_of_pos _ (by omega)
  omega
theorem nm_inj {c : Int} {many k k' : Nat} (hm : many ≤ 32) (hk : k < many) (hk' : k' < many) (h : nm c many k = nm c many k') : k = k' := by
  have s1 := nmSize_lo c many
  have hp := pos_lt c (nmSize c many) s1
  unfold nm at h
  split at h
  · have e := congrArg List.length h
    simp at e
    omega
  · dsimp only at h
    have get : ∀ (a : Nat) (t : List Nat), ((List.replicate (nmSize c many) (let26 c)).set (c / 208 % nmSize c many).toNat a ++ t)[(c / 208 % nmSize c many).toNat]? = some a := fun a t => by
      rw [List.getElem?_append_left (by simpa using hp), List.getElem?_set_self (by simpa using hp)]
    have get0 : ∀ (a : Nat), ((List.replicate (nmSize c many) (let26 c)).set (c / 208 % nmSize c many).toNat a)[(c / 208 % nmSize c many).toNat]? = some a := fun a => by
      rw [List.getElem?_set_self (by simpa using hp)]
    split at h <;> split at h
    · have e := congrArg (fun l => l[(c / 208 % nmSize c many).toNat]?) h
      simp only [get] at e
      have e := let26_inj (Option.some.inj e)
      omega
    · have e := congrArg List.length h
      simp at e
    · have e := congrArg List.length h
      simp at e
    · have e := congrArg (fun l => l[(c / 208 % nmSize c many).toNat]?) h
      simp only [get0] at e
      have e := let26_inj (Option.some.inj e)
      omega

/-! trees -/
inductive Tr (α : Type) where
  | leaf (x : α)
  | knot (f : α) (l r : Tr α)
namespace Tr
variable {α : Type}
/-- the names of the leaves, from left to right -/
noncomputable def lv : Tr α → List α
  | .leaf x => [x]
  | .knot _ l r => l.lv ++ r.lv
/-- the names of the deeds -/
noncomputable def kn : Tr α → List α
  | .leaf _ => []
  | .knot f l r => f :: (l.kn ++ r.kn)
noncomputable def dp : Tr α → Nat
  | .leaf _ => 1
  | .knot _ l r => max l.dp r.dp + 1
noncomputable def isL : Tr α → Bool
  | .leaf _ => true
  | .knot _ _ _ => false
noncomputable def name : Tr α → α
  | .leaf x => x
  | .knot f _ _ => f
/-- the places, a place ahead of those within it -/
noncomputable def pl : Tr α → List (List Nat)
  | .leaf _ => [[]]
  | .knot _ l r => [] :: (l.pl.map (0 :: ·) ++ r.pl.map (1 :: ·))
noncomputable def sub : Tr α → List Nat → Option (Tr α)
  | t, [] => some t
  | .leaf _, _ :: _ => none
  | .knot _ l r, i :: p => if i = 0 then l.sub p else if i = 1 then r.sub p else none
/-- the parts with their places, p ahead of each -/
noncomputable def wk : Tr α → List Nat → List (List Nat × Tr α)
  | .leaf x, p => [(p, .leaf x)]
  | .knot f l r, p => (p, .knot f l r) :: (l.wk (p ++ [0]) ++ r.wk (p ++ [1]))
theorem lv_pos (t : Tr α) : 1 ≤ t.lv.length := by
  induction t with
  | leaf x => simp [lv]
  | knot f l r ihl ihr => simp [lv]; omega
theorem dp_pos (t : Tr α) : 1 ≤ t.dp := by cases t <;> simp [dp]
theorem dp_le (t : Tr α) : t.dp ≤ t.lv.length := by
  induction t with
  | leaf x => simp [lv, dp]
  | knot f l r ihl ihr =>
    have := l.lv_pos
    have := r.lv_pos
    simp [lv, dp]; omega
theorem wk_pl (t : Tr α) : ∀ p, (t.wk p).map (·.1) = t.pl.map (p ++ ·) := by
  induction t with
  | leaf x => intro p; simp [wk, pl]
  | knot f l r ihl ihr =>
    intro p
    simp only [wk, pl, List.map_cons, List.map_append, ihl, ihr, List.append_nil, List.map_map]
    congr 1
    congr 1
    · apply List.map_congr_left; intro a _; simp
    · apply List.map_congr_left; intro a _; simp
theorem pl_wk (t : Tr α) : t.pl = (t.wk []).map (·.1) := by rw [wk_pl]; simp
theorem wk_sub (t : Tr α) : ∀ p q s, (q, s) ∈ t.wk p → ∃ q', q = p ++ q' ∧ t.sub q' = some s := by
  induction t with
  | leaf x =>
    intro p q s h
    simp only [wk, List.mem_singleton, Prod.mk.injEq] at h
    exact ⟨[], by simp [h.1], by simp [sub, h.2]⟩
  | knot f l r ihl ihr =>
    intro p q s h
    simp only [wk, List.mem_cons, List.mem_append, Prod.mk.injEq] at h
    rcases h with ⟨h1, h2⟩ | h | h
    · exact ⟨[], by simp [h1], by simp [sub, h2]⟩
    · obtain ⟨q', e, hs⟩ := ihl _ _ _ h
      exact ⟨0 :: q', by simp [e], by simp [sub, hs]⟩
    · obtain ⟨q', e, hs⟩ := ihr _ _ _ h
      exact ⟨1 :: q', by simp [e], by simp [sub, hs]⟩
theorem sub_mem {t s : Tr α} {q : List Nat} (h : (q, s) ∈ t.wk []) : t.sub q = some s := by
  obtain ⟨q', e, hs⟩ := wk_sub t _ _ _ h
  simpa [e] using hs
/-- the leaves among the parts -/
theorem wk_lv (t : Tr α) : ∀ p, ((t.wk p).filter (fun q => q.2.isL)).map (fun q => q.2.name) = t.lv := by
  induction t with
  | leaf x => intro p; simp [wk, isL, lv, name]
  | knot f l r ihl ihr =>
    intro p
    have e : (Tr.knot f l r).isL = false := rfl
    simp only [wk, lv, List.filter_cons, e, List.filter_append, List.map_append, ihl, ihr]
    simp [ihl, ihr]
theorem wk_len (t : Tr α) : ∀ p, (t.wk p).length + 1 = 2 * t.lv.length := by
  induction t with
  | leaf x => intro p; simp [wk, lv]
  | knot f l r ihl ihr =>
    intro p
    have h1 := ihl (p ++ [0])
    have h2 := ihr (p ++ [1])
    simp only [wk, lv, List.length_cons, List.length_append]
    omega
theorem pl_len (t : Tr α) : t.pl.length + 1 = 2 * t.lv.length := by
  rw [pl_wk, List.length_map]; exact t.wk_len []
theorem wk_plen (t : Tr α) : ∀ p q s, (q, s) ∈ t.wk p → q.length + s.dp ≤ p.length + t.dp := by
  induction t with
  | leaf x =>
    intro p q s h
    simp only [wk, List.mem_singleton, Prod.mk.injEq] at h
    simp [h.1, h.2]
  | knot f l r ihl ihr =>
    intro p q s h
    simp only [wk, List.mem_cons, List.mem_append, Prod.mk.injEq] at h
    rcases h with ⟨h1, h2⟩ | h | h
    · simp [h1, h2]
    · have := ihl _ _ _ h; simp [dp] at this ⊢; omega
    · have := ihr _ _ _ h; simp [dp] at this ⊢; omega
end Tr
/-- the first leaf of that name -/
noncomputable def firstOf {α : Type} [DecidableEq α] (x : α) : List (List Nat × Tr α) → Option (List Nat)
  | [] => none
  | q :: r => if q.2.isL ∧ q.2.name = x then some q.1 else firstOf x r
theorem firstOf_some {α : Type} [DecidableEq α] {x : α} : ∀ {l : List (List Nat × Tr α)} {q : List Nat}, ((l.filter (fun q => q.2.isL)).map (fun q => q.2.name)).Nodup → (q, Tr.leaf x) ∈ l → firstOf x l = some q
  | [], _, _, h => nomatch h
  | e :: r, q, nd, h => by
    unfold firstOf
    rcases List.mem_cons.mp h with h | h
    · rw [← h]; simp [Tr.isL, Tr.name]
    · by_cases hq : e.2.isL = true
      · simp only [List.filter_cons, hq, if_true, List.map_cons, List.nodup_cons] at nd
        have hm : x ∈ (r.filter (fun q => q.2.isL)).map (fun q => q.2.name) := List.mem_map.mpr ⟨(q, .leaf x), List.mem_filter.mpr ⟨h, rfl⟩, rfl⟩
        rw [if_neg (fun z => nd.1 (by rw [z.2]; exact hm))]
        exact firstOf_some nd.2 h
      · simp only [List.filter_cons, hq, if_false] at nd
        rw [if_neg (fun z => hq z.1)]
        exact firstOf_some nd h
/-! depths of the trees that are put together in turn -/
noncomputable def dstep (j : Nat) (ds : List Nat) : List Nat :=
  ds.take (j % (ds.length - 1)) ++ [max (ds.getD (j % (ds.length - 1)) 0) (ds.getD (j % (ds.length - 1) + 1) 0) + 1] ++ ds.drop (j % (ds.length - 1) + 2)
noncomputable def dsim : Nat → List Nat → List Nat
  | 0, ds => ds
  | j + 1, ds => dstep j (dsim j ds)
theorem dsim_ok : ∀ m : Fin 8, ((dsim (24 + m.val) (List.replicate (25 + m.val) 1)).all (· ≤ 24)) = true := by decide +kernel

/-! trees put together -/
noncomputable def merge {β : Type} (p : Nat) (t : β) (ts : List β) : List β := ts.take p ++ [t] ++ ts.drop (p + 2)
theorem split2 {β : Type} : ∀ {p : Nat} {ts : List β} {a b : β}, ts[p]? = some a → ts[p + 1]? = some b → ts = ts.take p ++ [a, b] ++ ts.drop (p + 2)
  | 0, ts, a, b, h1, h2 => by
    cases ts with
    | nil => simp at h1
    | cons x r =>
      cases r with
      | nil => simp at h2
      | cons y r => simp at h1 h2; simp [h1, h2]
  | p + 1, ts, a, b, h1, h2 => by
    cases ts with
    | nil => simp at h1
    | cons x r =>
      have e := split2 (p := p) (ts := r) (by simpa using h1) (by simpa using h2)
      simp only [List.take_succ_cons, List.drop_succ_cons, List.cons_append]
      rw [← e]
structure TI {α : Type} (names deeds : List α) (many j : Nat) (ts : List (Tr α)) : Prop where
  perm : (ts.flatMap Tr.lv).Perm names
  kn : ∀ t ∈ ts, ∀ f ∈ t.kn, f ∈ deeds
  len : ts.length + j = many
  nl : names.length = many
  dps : 24 < many → ts.map Tr.dp = dsim j (List.replicate many 1)
theorem TI.start {α : Type} {names deeds : List α} : TI names deeds names.length 0 (names.map Tr.leaf) where
  perm := by
    have e : (names.map Tr.leaf).flatMap Tr.lv = names := by
      induction names with
      | nil => rfl
      | cons a r ih => simp [Tr.lv, ih]
    rw [e]
  kn := fun t ht f hf => by
    obtain ⟨x, _, rfl⟩ := List.mem_map.mp ht
    simp [Tr.kn] at hf
  len := by simp
  nl := rfl
  dps := fun _ => by
    have e : ∀ l : List α, (l.map Tr.leaf).map Tr.dp = List.replicate l.length 1 := fun l => by
      induction l with
      | nil => rfl
      | cons a r ih => simp only [List.map_cons, List.length_cons, List.replicate_succ, ih, Tr.dp]
    exact e names
theorem TI.step {α : Type} {names deeds : List α} {many j : Nat} {ts : List (Tr α)} (I : TI names deeds many j ts) {p : Nat} {a b x y : Tr α} {f : α} (h1 : ts[p]? = some a) (h2 : ts[p + 1]? = some b) (hp : 24 < many → p = j % (ts.length - 1)) (hf : f ∈ deeds)
    (hxy : (x = a ∧ y = b) ∨ (x = b ∧ y = a)) : TI names deeds many (j + 1) (merge p (.knot f x y) ts) := by
  have e := split2 h1 h2
  have hlt : p + 1 < ts.length := (List.getElem?_eq_some_iff.mp h2).1
  have hd : (Tr.knot f x y).dp = max a.dp b.dp + 1 := by
    rcases hxy with ⟨rfl, rfl⟩ | ⟨rfl, rfl⟩ <;> simp [Tr.dp, Nat.max_comm]
  refine ⟨?_, fun t ht g hg => ?_, ?_, I.nl, fun hm => ?_⟩
  · have q := I.perm
    rw [e] at q
    refine List.Perm.trans ?_ q
    unfold merge
    simp only [List.flatMap_append, List.flatMap_cons, List.flatMap_nil, List.append_nil]
    refine List.Perm.append_right _ (List.Perm.append_left _ ?_)
    simp only [Tr.lv]
    rcases hxy with ⟨rfl, rfl⟩ | ⟨rfl, rfl⟩
    · exact List.Perm.refl _
    · exact List.perm_append_comm
  · unfold merge at ht
    have ma : a ∈ ts := List.mem_of_getElem? h1
    have mb : b ∈ ts := List.mem_of_getElem? h2
    simp only [List.mem_append, List.mem_singleton] at ht
    rcases ht with (ht | rfl) | ht
    · exact I.kn t (List.mem_of_mem_take ht) g hg
    · simp only [Tr.kn, List.mem_cons, List.mem_append] at hg
      rcases hg with rfl | hg | hg
      · exact hf
      · rcases hxy with ⟨rfl, rfl⟩ | ⟨rfl, rfl⟩
        · exact I.kn _ ma g hg
        · exact I.kn _ mb g hg
      · rcases hxy with ⟨rfl, rfl⟩ | ⟨rfl, rfl⟩
        · exact I.kn _ mb g hg
        · exact I.kn _ ma g hg
    · exact I.kn t (List.mem_of_mem_drop ht) g hg
  · have := I.len
    unfold merge
    simp only [List.length_append, List.length_take, List.length_drop, List.length_singleton]
    omega
  · have q := I.dps hm
    simp only [dsim, dstep]
    rw [← q]
    have hp := hp hm
    simp only [List.length_map]
    rw [← hp]
    unfold merge
    simp only [List.map_append, List.map_take, List.map_drop, List.map_cons, List.map_nil, hd]
    have g1 : (ts.map Tr.dp).getD p 0 = a.dp := by simp [List.getD, h1]
    have g2 : (ts.map Tr.dp).getD (p + 1) 0 = b.dp := by simp [List.getD, h2]
    rw [g1, g2]
theorem TI.end {α : Type} {names deeds : List α} {many j : Nat} {t : Tr α} (I : TI names deeds many j [t]) (hm : many ≤ 32) : t.lv.Perm names ∧ (∀ f ∈ t.kn, f ∈ deeds) ∧ t.dp ≤ 24 := by
  have hp : t.lv.Perm names := by have := I.perm; simpa using this
  refine ⟨hp, I.kn t (by simp), ?_⟩
  by_cases h : 24 < many
  · have q := I.dps h
    have hl := I.len
    simp at hl
    have ok := dsim_ok ⟨many - 25, by omega⟩
    have e1 : 24 + (many - 25) = j := by omega
    have e2 : 25 + (many - 25) = many := by omega
    simp only [e1, e2] at ok
    rw [← q] at ok
    simpa using ok
  · have h1 := t.dp_le
    have h2 := hp.length_eq
    have h3 := I.nl
    omega
end M

namespace M
noncomputable abbrev Pl := List Nat
namespace Tr
variable {α : Type}
/-! ranks -/
noncomputable def rk : Tr α → Nat
  | .leaf _ => 1
  | .knot _ l r => if l.rk = r.rk then l.rk + 1 else max l.rk r.rk
theorem rk_pos (t : Tr α) : 1 ≤ t.rk := by
  induction t with
  | leaf x => simp [rk]
  | knot f l r ihl ihr => simp only [rk]; split <;> omega
theorem sub_nil (t : Tr α) : t.sub [] = some t := by cases t <;> rfl
theorem sub_app (t : Tr α) : ∀ (p q : Pl), t.sub (p ++ q) = (t.sub p).bind (fun s => s.sub q) := by
  induction t with
  | leaf x =>
    intro p q
    cases p with
    | nil => simp [sub_nil]
    | cons i p => simp [sub]
  | knot f l r ihl ihr =>
    intro p q
    cases p with
    | nil => simp [sub_nil]
    | cons i p =>
      simp only [List.cons_append, sub]
      split
      · exact ihl p q
      · split
        · exact ihr p q
        · rfl
/-- each way that keeps to the greater rank is held at some place -/
noncomputable def blk (h : Pl → Bool) : Tr α → Pl → Bool
  | .leaf _, p => h p
  | .knot _ l r, p => h p || (if l.rk = r.rk then blk h l (p ++ [0]) && blk h r (p ++ [1]) else if r.rk < l.rk then blk h l (p ++ [0]) else blk h r (p ++ [1]))
end Tr
noncomputable def held (bx : List (Option Pl)) (p : Pl) : Bool := bx.any fun o => o == some p

/-! the leaves' places -/
theorem pl_filter {α : Type} (t : Tr α) (g : Pl → Bool) (hg : ∀ q s, (q, s) ∈ t.wk [] → g q = s.isL) : t.pl.filter g = ((t.wk []).filter (fun q => q.2.isL)).map (·.1) := by
  rw [Tr.pl_wk, List.filter_map]
  congr 1
  apply List.filter_congr
  intro q hq
  exact hg q.1 q.2 hq
theorem pl_sub {α : Type} {t : Tr α} {p : Pl} (h : p ∈ t.pl) : ∃ s, t.sub p = some s ∧ (p, s) ∈ t.wk [] := by
  rw [Tr.pl_wk] at h
  obtain ⟨⟨q, s⟩, hq, rfl⟩ := List.mem_map.mp h
  exact ⟨s, Tr.sub_mem hq, hq⟩
theorem pl_len_le {α : Type} (t : Tr α) : t.pl.length ≤ 2 * t.lv.length := by have := t.pl_len; omega
theorem pl_dp {α : Type} {t : Tr α} {p : Pl} (h : p ∈ t.pl) : p.length < t.dp := by
  obtain ⟨s, _, hs⟩ := pl_sub h
  have := t.wk_plen [] _ _ hs
  have := s.dp_pos
  simp at *; omega
/-- the names of a tree that a script tells -/
structure TreeOf (many : Nat) (t : Tr (List Nat)) (c c' : Int) : Prop where
  perm : t.lv.Perm ((List.range many).map (nm c many))
  kn : ∀ f ∈ t.kn, f ∈ (List.range 3).map (nm c' 3)
  dp : t.dp ≤ 24
theorem range_map_nodup {β : Type} {g : Nat → β} {n : Nat} (h : ∀ i j, i < n → j < n → g i = g j → i = j) : ((List.range n).map g).Nodup := by
  unfold List.Nodup
  rw [List.pairwise_map]
  have : (List.range n).Pairwise (· ≠ ·) := List.nodup_range
  refine List.Pairwise.imp_of_mem ?_ this
  intro a b ha hb hab e
  exact hab (h a b (List.mem_range.mp ha) (List.mem_range.mp hb) e)

end M

set_option linter.all false
namespace M
variable {α β γ : Type}
/-! ### deeds, and what they do to boxes and shelf, whatever these hold -/
inductive Deed (α : Type)
  | take (x : α) (i : Int)
  | join (f : α) (i j h : Int)
  | put (i s : Int)
  | fetch (s i : Int)
noncomputable def inN (k : Int) (i : Int) : Prop := 0 ≤ i ∧ i < k
noncomputable instance (k i : Int) : Decidable (inN k i) := by unfold inN; infer_instance
namespace Deed
noncomputable def bn : Deed α → List Int
  | .take _ i => [i]
  | .join _ i j h => [i, j, h]
  | .put i _ => [i]
  | .fetch _ i => [i]
noncomputable def sn : Deed α → List Int
  | .put _ s => [s]
  | .fetch s _ => [s]
  | _ => []
noncomputable def ok (k m : Int) (d : Deed α) : Prop := (∀ i ∈ d.bn, inN k i) ∧ ∀ s ∈ d.sn, inN m s
noncomputable instance (k m : Int) (d : Deed α) : Decidable (d.ok k m) := by unfold ok; infer_instance
/-- the box, or the place of the shelf, that it sets -/
noncomputable def set (d : Deed α) (v : β) (st : List β × List β) : List β × List β := match d with
  | .take _ i => (st.1.set i.toNat v, st.2)
  | .join _ _ _ h => (st.1.set h.toNat v, st.2)
  | .put _ s => (st.1, st.2.set s.toNat v)
  | .fetch _ i => (st.1.set i.toNat v, st.2)
noncomputable def val (z : β) (tk : α → β) (jn : α → β → β → β) (d : Deed α) (st : List β × List β) : β := match d with
  | .take x _ => tk x
  | .join f i j _ => jn f (st.1.getD i.toNat z) (st.1.getD j.toNat z)
  | .put i _ => st.1.getD i.toNat z
  | .fetch s _ => st.2.getD s.toNat z
noncomputable def go (z : β) (tk : α → β) (jn : α → β → β → β) (st : List β × List β) (d : Deed α) : List β × List β := d.set (d.val z tk jn st) st
theorem set_len (d : Deed α) (v : β) (st : List β × List β) : (d.set v st).1.length = st.1.length ∧ (d.set v st).2.length = st.2.length := by
  cases d <;> simp [set]
theorem go_len {z : β} {tk : α → β} {jn : α → β → β → β} (st : List β × List β) (d : Deed α) : (go z tk jn st d).1.length = st.1.length ∧ (go z tk jn st d).2.length = st.2.length := set_len d _ st
noncomputable def rows (z : β) (tk : α → β) (jn : α → β → β → β) (k m : Nat) (row : List (Deed α)) : List β × List β := row.foldl (go z tk jn) (List.replicate k z, List.replicate m z)
theorem rows_len {z : β} {tk : α → β} {jn : α → β → β → β} (row : List (Deed α)) : ∀ st : List β × List β, (row.foldl (go z tk jn) st).1.length = st.1.length ∧ (row.foldl (go z tk jn) st).2.length = st.2.length := by
  induction row with
  | nil => intro st; exact ⟨rfl, rfl⟩
  | cons d r ih => intro st; have := ih (go z tk jn st d); have := @go_len α β z tk jn st d; simp only [List.foldl_cons]; omega
end Deed
/-! ### marks -/
noncomputable def knotAt [DecidableEq α] (t : Tr α) (f : α) (p : List Nat) : Bool := match t.sub p with
  | some (.knot g _ _) => decide (g = f)
  | _ => false
/-- the knot over two places -/
noncomputable def over [DecidableEq α] (t : Tr α) (f : α) : Option (List Nat) → Option (List Nat) → Option (List Nat)
  | some p, some q => if p = p.dropLast ++ [0] ∧ q = p.dropLast ++ [1] ∧ knotAt t f p.dropLast = true then some p.dropLast else none
  | _, _ => none
noncomputable def mark [DecidableEq α] (t : Tr α) : List (Option (List Nat)) × List (Option (List Nat)) → Deed α → List (Option (List Nat)) × List (Option (List Nat)) := Deed.go none (fun x => firstOf x (t.wk [])) (over t)
theorem sub_wk (t : Tr α) : ∀ (q p : List Nat) (s : Tr α), t.sub p = some s → (q ++ p, s) ∈ t.wk q := by
  induction t with
  | leaf x =>
    intro q p s h
    cases p with
    | nil => simp only [Tr.sub, Option.some.injEq] at h; simp [Tr.wk, h]
    | cons i p => simp [Tr.sub] at h
  | knot f l r ihl ihr =>
    intro q p s h
    cases p with
    | nil => simp only [Tr.sub, Option.some.injEq] at h; simp [Tr.wk, h]
    | cons i p =>
      simp only [Tr.sub] at h
      split at h
      · rename_i e
        have := ihl (q ++ [0]) p s h
        simp only [Tr.wk, List.mem_cons, List.mem_append]
        subst e
        exact .inr (.inl (by simpa using this))
      · split at h
        · rename_i _ e
          have := ihr (q ++ [1]) p s h
          simp only [Tr.wk, List.mem_cons, List.mem_append]
          subst e
          exact .inr (.inr (by simpa using this))
        · cases h
theorem knotAt_sub [DecidableEq α] {t : Tr α} {f : α} {p : List Nat} (h : knotAt t f p = true) : ∃ l r, t.sub p = some (.knot f l r) := by
  unfold knotAt at h
  split at h
  · rename_i g l r e
    exact ⟨l, r, by rw [e, of_decide_eq_true h]⟩
  · cases h
theorem over_some [DecidableEq α] {t : Tr α} {f : α} {a b : Option (List Nat)} {p : List Nat} (h : over t f a b = some p) : a = some (p ++ [0]) ∧ b = some (p ++ [1]) ∧ knotAt t f p = true := by
  unfold over at h
  split at h
  · split at h
    · rename_i c
      cases h
      exact ⟨by rw [← c.1], by rw [← c.2.1], c.2.2⟩
    · cases h
  · cases h
theorem over_mk [DecidableEq α] {t : Tr α} {f : α} {p : List Nat} (h : knotAt t f p = true) : over t f (some (p ++ [0])) (some (p ++ [1])) = some p := by
  show (if p ++ [0] = (p ++ [0]).dropLast ++ [0] ∧ p ++ [1] = (p ++ [0]).dropLast ++ [1] ∧ knotAt t f (p ++ [0]).dropLast = true then some (p ++ [0]).dropLast else none) = some p
  rw [List.dropLast_concat, if_pos ⟨rfl, rfl, h⟩]
/-! ### as the law reckons them -/
noncomputable def lastOf [DecidableEq α] (x : α) (l : List (List Nat × Tr α)) : Option (List Nat) := l.foldl (fun acc q => if q.2.isL = true ∧ q.2.name = x then some q.1 else acc) none
theorem lastOf_first [DecidableEq α] {t : Tr α} (nd : t.lv.Nodup) (x : α) : lastOf x (t.wk []) = firstOf x (t.wk []) := by
  have : ∀ (l : List (List Nat × Tr α)) (acc : Option (List Nat)), ((l.filter fun q => q.2.isL).map fun q => q.2.name).Nodup →
      l.foldl (fun acc q => if q.2.isL = true ∧ q.2.name = x then some q.1 else acc) acc = (match firstOf x l with | some p => some p | none => acc) := by
    intro l
    induction l with
    | nil => intro acc _; rfl
    | cons q r ih =>
      intro acc nd
      simp only [List.foldl_cons, firstOf]
      have nd' : ((r.filter fun q => q.2.isL).map fun q => q.2.name).Nodup := by
        simp only [List.filter_cons] at nd
        split at nd
        · exact (List.nodup_cons.mp nd).2
        · exact nd
      rw [ih _ nd']
      by_cases c : q.2.isL = true ∧ q.2.name = x
      · rw [if_pos c, if_pos c]
        have : firstOf x r = none := by
          simp only [List.filter_cons, if_pos c.1, List.map_cons, List.nodup_cons] at nd
          have h := nd.1
          rw [c.2] at h
          clear ih nd nd'
          induction r with
          | nil => rfl
          | cons q' r ih =>
            simp only [firstOf]
            rw [if_neg]
            · refine ih fun z => h ?_
              simp only [List.filter_cons]
              split
              · exact List.mem_cons_of_mem _ z
              · exact z
            · rintro ⟨z1, z2⟩
              apply h
              simp only [List.filter_cons, if_pos z1, List.map_cons]
              exact z2 ▸ List.mem_cons_self
        rw [this]
      · rw [if_neg c, if_neg c]
  unfold lastOf
  rw [this _ none (by rw [Tr.wk_lv]; exact nd)]
  cases firstOf x (t.wk []) <;> rfl
noncomputable def lawOver [DecidableEq α] (f : α) (a b : Option (List Nat)) (l : List (List Nat × Tr α)) : Option (List Nat) := l.foldl (fun acc q => if q.2.isL = false ∧ q.2.name = f ∧ a = some (q.1 ++ [0]) ∧ b = some (q.1 ++ [1]) then some q.1 else acc) none
theorem lawOver_over [DecidableEq α] (t : Tr α) (f : α) (a b : Option (List Nat)) : lawOver f a b (t.wk []) = over t f a b := by
  have gen : ∀ (l : List (List Nat × Tr α)) (acc : Option (List Nat)) (o : Option (List Nat)),
      (∀ q ∈ l, q.2.isL = false ∧ q.2.name = f ∧ a = some (q.1 ++ [0]) ∧ b = some (q.1 ++ [1]) → o = some q.1) →
      ((∃ q ∈ l, q.2.isL = false ∧ q.2.name = f ∧ a = some (q.1 ++ [0]) ∧ b = some (q.1 ++ [1])) ∨ acc = o) →
      l.foldl (fun acc q => if q.2.isL = false ∧ q.2.name = f ∧ a = some (q.1 ++ [0]) ∧ b = some (q.1 ++ [1]) then some q.1 else acc) acc = o := by
    intro l
    induction l with
    | nil => intro acc o _ h; rcases h with ⟨q, hq, _⟩ | h; cases hq; exact h
    | cons q r ih =>
      intro acc o h1 h2
      simp only [List.foldl_cons]
      refine ih _ o (fun q' hq' => h1 q' (List.mem_cons_of_mem _ hq')) ?_
      by_cases c : q.2.isL = false ∧ q.2.name = f ∧ a = some (q.1 ++ [0]) ∧ b = some (q.1 ++ [1])
      · rw [if_pos c]
        exact .inr (h1 q List.mem_cons_self c).symm
      · rw [if_neg c]
        rcases h2 with ⟨q', hq', c'⟩ | h2
        · rcases List.mem_cons.mp hq' with rfl | z
          · exact absurd c' c
          · exact .inl ⟨q', z, c'⟩
        · exact .inr h2
  refine gen _ none _ (fun q hq c => ?_) ?_
  · have hs := Tr.sub_mem hq
    rw [c.2.2.1, c.2.2.2]
    refine over_mk ?_
    unfold knotAt
    rw [hs]
    have h1 := c.1
    have h2 := c.2.1
    generalize q.2 = s at h1 h2
    cases s with
    | leaf x => cases h1
    | knot g l r => exact decide_eq_true h2
  · cases e : over t f a b with
    | none => exact .inr rfl
    | some p =>
      obtain ⟨h1, h2, h3⟩ := over_some e
      obtain ⟨l, r, hs⟩ := knotAt_sub h3
      have := sub_wk t [] p _ hs
      exact .inl ⟨_, this, rfl, rfl, by simpa using h1, by simpa using h2⟩
end M

/-! ### list comprehensions over the layer -/
namespace L2
open PySem PySem.Spec PyProof.Rows

theorem forIn_of_step {α β : Type} {f : α → β → Sem (ForInStep β)} {g : β → α → β} : ∀ (l : List α) (b : β), (∀ x ∈ l, ∀ b, f x b = pure (.yield (g b x))) → forIn l b f = pure (l.foldl g b)
  | [], b, _ => by rw [List.forIn_nil]; rfl
  | x :: l, b, h => by
    rw [List.forIn_cons, h x List.mem_cons_self b, pure_bind]
    exact forIn_of_step l _ fun y hy b => h y (List.mem_cons_of_mem _ hy) b

noncomputable def closStep (cells : List (Str × Addr)) (acc : List (Str × Addr)) (x : Str × NameKind) : List (Str × Addr) :=
  if (x.2 == NameKind.free) = true then (match cells.lookup x.1 with | some a => (x.1, a) :: acc | none => acc) else acc
noncomputable def closOf (cells : List (Str × Addr)) (names : List (Str × NameKind)) : List (Str × Addr) := names.foldl (closStep cells) []
theorem closureFor_of {scope : Scope} {env : Env} (h : ∀ y ∈ scope.names, y.2 = NameKind.free → ∃ a, env.cells.lookup y.1 = some a) : closureFor scope env = pure (closOf env.cells scope.names) := by
  simp only [closureFor]
  rw [forIn_of_step (g := closStep env.cells) scope.names [] (fun x hx b => by
    obtain ⟨n, k⟩ := x
    by_cases hk : (k == NameKind.free) = true
    · have hk' : k = .free := by simpa using hk
      obtain ⟨a, e⟩ := h _ hx hk'
      have e' : env.cells.lookup n = some a := e
      simp only [hk, if_true, closStep, e', cellOf, pure_bind]
      try rfl
    · simp only [hk, closStep]
      try rfl)]
  rw [pure_bind]
  rfl
theorem closStep_sound {cells acc : List (Str × Addr)} {y : Str × NameKind} {x : Str} {c : Addr} (h : (closStep cells acc y).lookup x = some c) : acc.lookup x = some c ∨ cells.lookup x = some c := by
  unfold closStep at h
  split at h
  · split at h
    · rename_i a e
      rw [List.lookup_cons] at h
      split at h
      · rename_i hb
        have : x = y.1 := by simpa using hb
        rw [this, e]; exact .inr h
      · exact .inl h
    · exact .inl h
  · exact .inl h
theorem clos_sound {cells : List (Str × Addr)} : ∀ (names : List (Str × NameKind)) (acc : List (Str × Addr)) {x : Str} {c : Addr}, (names.foldl (closStep cells) acc).lookup x = some c → acc.lookup x = some c ∨ cells.lookup x = some c
  | [], _, _, _, h => .inl h
  | y :: r, acc, x, c, h => by
    rcases clos_sound r _ h with h | h
    · exact closStep_sound h
    · exact .inr h
theorem closOf_sound {cells : List (Str × Addr)} {names : List (Str × NameKind)} {x : Str} {c : Addr} (h : (closOf cells names).lookup x = some c) : cells.lookup x = some c := by
  rcases clos_sound names [] h with h | h
  · simp at h
  · exact h
theorem closStep_keeps {cells acc : List (Str × Addr)} {y : Str × NameKind} {x : Str} {c : Addr} (h : acc.lookup x = some c) : ∃ c', (closStep cells acc y).lookup x = some c' := by
  unfold closStep
  split
  · split
    · rw [List.lookup_cons]
      split
      · exact ⟨_, rfl⟩
      · exact ⟨c, h⟩
    · exact ⟨c, h⟩
  · exact ⟨c, h⟩
theorem clos_keeps {cells : List (Str × Addr)} : ∀ (names : List (Str × NameKind)) (acc : List (Str × Addr)) {x : Str} {c : Addr}, acc.lookup x = some c → ∃ c', (names.foldl (closStep cells) acc).lookup x = some c'
  | [], _, _, c, h => ⟨c, h⟩
  | y :: r, acc, x, c, h => by
    obtain ⟨c', h'⟩ := closStep_keeps (cells := cells) (y := y) h
    exact clos_keeps r _ h'
theorem clos_has {cells : List (Str × Addr)} : ∀ (names : List (Str × NameKind)) (acc : List (Str × Addr)) {x : Str} {a : Addr}, (x, NameKind.free) ∈ names → cells.lookup x = some a → ∃ c', (names.foldl (closStep cells) acc).lookup x = some c'
  | [], _, _, _, h, _ => nomatch h
  | y :: r, acc, x, a, h, e => by
    rcases List.mem_cons.mp h with rfl | h
    · refine clos_keeps r (closStep cells acc (x, .free)) (x := x) (c := a) ?_
      unfold closStep
      rw [if_pos (by rfl)]
      simp only [e]
      simp
    · exact clos_has r _ h e
theorem closOf_has {cells : List (Str × Addr)} {names : List (Str × NameKind)} {x : Str} {a : Addr} (h : (x, NameKind.free) ∈ names) (e : cells.lookup x = some a) : (closOf cells names).lookup x = some a := by
  obtain ⟨c', h'⟩ := clos_has names [] h e
  have := closOf_sound h'
  rw [e] at this; cases this
  exact h'
theorem lookup_mem {α : Type} : ∀ {l : List (Str × α)} {x : Str} {k : α}, l.lookup x = some k → (x, k) ∈ l
  | [], _, _, h => by simp at h
  | (n, k') :: r, x, k, h => by
    rw [List.lookup_cons] at h
    split at h
    · rename_i hb
      cases h
      have : x = n := by simpa using hb
      rw [this]; exact List.mem_cons_self
    · exact List.mem_cons_of_mem _ (lookup_mem h)
theorem lookup_relabel {env : Env} : ∀ {names : List (Str × NameKind)} {x : Str} {k : NameKind},
    (names.map fun (n, k) => if (k == NameKind.free && env.scope.kind == .function && env.kindOf n == some .cell) then (n, NameKind.cell) else (n, k)).lookup x = some k →
    names.lookup x = some k ∨ (k = .cell ∧ names.lookup x = some .free)
  | [], _, _, h => by simp at h
  | (n, k') :: r, x, k, h => by
    have ih := @lookup_relabel env r x k
    rw [List.map_cons] at h
    by_cases hc : (k' == NameKind.free && env.scope.kind == .function && env.kindOf n == some .cell) = true
    · have h2 : List.lookup x ((n, NameKind.cell) :: (r.map fun (n, k) => if (k == NameKind.free && env.scope.kind == .function && env.kindOf n == some .cell) then (n, NameKind.cell) else (n, k))) = some k := by
        simpa only [if_pos hc] using h
      rw [List.lookup_cons] at h2 ⊢
      split at h2
      · cases h2
        have : k' = .free := by
          cases k' <;> first | rfl | simp at hc
        simp_all
      · exact ih h2
    · have h2 : List.lookup x ((n, k') :: (r.map fun (n, k) => if (k == NameKind.free && env.scope.kind == .function && env.kindOf n == some .cell) then (n, NameKind.cell) else (n, k))) = some k := by
        simpa only [if_neg hc] using h
      rw [List.lookup_cons] at h2 ⊢
      split at h2
      · exact .inl h2
      · exact ih h2
theorem relabel_free {env : Env} : ∀ {names : List (Str × NameKind)} {x : Str}, names.lookup x = some .free →
    (names.map fun (n, k) => if (k == NameKind.free && env.scope.kind == .function && env.kindOf n == some .cell) then (n, NameKind.cell) else (n, k)).lookup x = some .cell ∨
    (names.map fun (n, k) => if (k == NameKind.free && env.scope.kind == .function && env.kindOf n == some .cell) then (n, NameKind.cell) else (n, k)).lookup x = some .free
  | [], _, h => by simp at h
  | (n, k') :: r, x, h => by
    have ih := @relabel_free env r x
    rw [List.lookup_cons] at h
    rw [List.map_cons]
    dsimp only
    by_cases hc : (k' == NameKind.free && env.scope.kind == .function && env.kindOf n == some .cell) = true
    · rw [if_pos hc, List.lookup_cons]
      cases hb : (x == n) with
      | true => exact .inl rfl
      | false =>
        rw [hb] at h
        exact ih h
    · rw [if_neg hc, List.lookup_cons]
      cases hb : (x == n) with
      | true =>
        rw [hb] at h
        exact .inr h
      | false =>
        rw [hb] at h
        exact ih h

/-- the block's context -/
noncomputable def blk (X : Cx) (N : List Str) (scope : Scope) (C : Addr) (s : Shared) (H : Hp) (ex : List Addr) : Cx :=
  { X with N := N, s₀ := s, H₀ := H, env := compEnvC scope (closOf X.env.cells scope.names) C X.env, outer := X.stack, ex := ex, fn := fun _ => false, pn := [], xe := fun _ _ => False }
/-- what the block's scope must have; N: the loop's name, then the captured ones; caps: their slots outside -/
structure CSc (X : Cx) (scope : Scope) (x : Str) (N : List Str) (caps : List Nat) : Prop where
  kind : scope.kind = .function
  nocellB : (scope.names.all fun y => y.2 != NameKind.cell) = true
  namesB : (scope.names.all fun y => y.2 != NameKind.local || scope.names.lookup y.1 == some NameKind.local) = true
  lx : scope.names.lookup x = some .local
  nd : N.Nodup
  n0 : N[0]? = some x
  capN : caps.map (fun j => X.N[j]?) = N.tail.map some
  capFB : (N.tail.all fun y => scope.names.lookup y == some NameKind.free) = true
  freesB : (scope.names.all fun y => y.2 != NameKind.free || X.env.scope.names.lookup y.1 == some NameKind.cell || X.env.scope.names.lookup y.1 == some NameKind.free) = true
theorem CSc.nocell {X : Cx} {scope : Scope} {x : Str} {N : List Str} {caps : List Nat} (S : CSc X scope x N caps) : ∀ y ∈ scope.names, y.2 ≠ .cell := fun y hy => by
  have h := List.all_eq_true.mp S.nocellB y hy
  simpa using h
theorem CSc.names {X : Cx} {scope : Scope} {x : Str} {N : List Str} {caps : List Nat} (S : CSc X scope x N caps) : ∀ y ∈ scope.names, y.2 = .local → scope.names.lookup y.1 = some .local := fun y hy e => by
  have h := List.all_eq_true.mp S.namesB y hy
  simp only [e, bne_self_eq_false, Bool.false_or] at h
  simpa using h
theorem CSc.capF {X : Cx} {scope : Scope} {x : Str} {N : List Str} {caps : List Nat} (S : CSc X scope x N caps) : ∀ y ∈ N.tail, scope.names.lookup y = some .free := fun y hy => by
  have h := List.all_eq_true.mp S.capFB y hy
  simpa using h
theorem CSc.frees {X : Cx} {scope : Scope} {x : Str} {N : List Str} {caps : List Nat} (S : CSc X scope x N caps) : ∀ y ∈ scope.names, y.2 = .free → (X.env.kindOf y.1 = some .cell ∨ X.env.kindOf y.1 = some .free) := fun y hy e => by
  have h := List.all_eq_true.mp S.freesB y hy
  simp only [e, bne_self_eq_false, Bool.false_or, Bool.or_eq_true] at h
  rcases h with h | h
  · exact .inl (by show X.env.scope.names.lookup y.1 = _; simpa using h)
  · exact .inr (by show X.env.scope.names.lookup y.1 = _; simpa using h)
/-- the block's names -/
noncomputable def blkSt (caps : List Nat) (σ : St) (o : Option V) : St := o :: caps.map fun j => (σ[j]?).join

theorem HOk.adopt {P : Program} {w : World} {H : Hp} {h : Heap} {a : Addr} {o : HO} (x : HOk P w H h) (hn : H a = none) (new : ObjOk P w (upd H a o) h a o) : HOk P w (upd H a o) h := fun b u e => by
  by_cases hb : b = a
  · subst hb; rw [upd_same] at e; cases e; exact new
  · rw [upd_ne hb] at e
    exact (x b u e).stay (fun c v _ q => q) (fun c q => by rw [upd_ne (ne_of_none q hn)]; exact q) fun c xs q => by rw [upd_ne (ne_of_none q hn)]; exact q

section
variable {X : Cx} {pins : List (Addr × Obj)} {σ : St} {H : Hp} {s : Shared} {scope : Scope} {x : Str} {N : List Str} {caps : List Nat} {fp : List Addr}
theorem CSc.cells (S : CSc X scope x N caps) (ok : X.Ok) : ∀ y ∈ scope.names, y.2 = NameKind.free → ∃ a, X.env.cells.lookup y.1 = some a := fun y hy e => ok.has _ (S.frees y hy e)
theorem CSc.len (S : CSc X scope x N caps) : N.length = caps.length + 1 := by
  have h := congrArg List.length S.capN
  simp only [List.length_map, List.length_tail] at h
  have h2 := S.n0
  cases N with
  | nil => simp at h2
  | cons a r => simp at h ⊢; omega
theorem CSc.at (S : CSc X scope x N caps) {i : Nat} {y : Str} (h : N[i + 1]? = some y) : ∃ j, caps[i]? = some j ∧ X.N[j]? = some y ∧ scope.names.lookup y = some .free := by
  have h2 := S.n0
  cases hN : N with
  | nil => rw [hN] at h2; simp at h2
  | cons a r =>
    rw [hN] at h
    have ht : N.tail[i]? = some y := by rw [hN]; simpa using h
    have e := congrArg (fun l => l[i]?) S.capN
    simp only [List.getElem?_map, ht, Option.map_some] at e
    cases hc : caps[i]? with
    | none => rw [hc] at e; simp at e
    | some j =>
      rw [hc] at e
      refine ⟨j, rfl, ?_, S.capF y ?_⟩
      · simpa using e
      · exact List.mem_of_getElem? ht

theorem blk_ok (S : CSc X scope x N caps) (I : Inv X pins σ H s) (hf : ∀ b ∈ fp, FpOk X pins H b) (hlt : ∀ b ∈ fp, b < s.heap.objs.size) :
    (blk X N scope (s.heap.objs.size + 1) s H (s.heap.objs.size :: fp)).Ok where
  mod := I.ok.mod
  kind := S.kind
  glob := I.ok.glob
  blt := I.ok.blt
  above := Nat.le_succ _
  inj := fun a b c e1 e2 => I.ok.inj a b c (closOf_sound e1) (closOf_sound e2)
  has := fun y hy => by
    have e : ∃ k, (relabel scope X.env).names.lookup y = some k ∧ (k = .cell ∨ k = .free) := by
      rcases hy with h | h
      · exact ⟨_, h, .inl rfl⟩
      · exact ⟨_, h, .inr rfl⟩
    obtain ⟨k, e, hk⟩ := e
    have hfree : scope.names.lookup y = some .free := by
      rcases lookup_relabel (env := X.env) e with h | ⟨_, h⟩
      · rcases hk with rfl | rfl
        · exact absurd rfl (S.nocell _ (lookup_mem h))
        · exact h
      · exact h
    obtain ⟨a, ea⟩ := S.cells I.ok _ (lookup_mem hfree) rfl
    exact ⟨a, closOf_has (lookup_mem hfree) ea⟩
  cab := fun _ _ h => by cases h
  hd := I.ok.hd
  frames := I.ok.frames
  stk := .inl rfl
  exf := fun b hb => by
    rcases List.mem_cons.mp hb with rfl | hb
    · refine ⟨Nat.ne_of_lt (Nat.lt_succ_self _), fun y c e z => ?_⟩
      exact (I.fpOk (Nat.le_refl _) (I.hok.fresh (Nat.le_refl _))).2.2.2.2.1 y c (closOf_sound e) z
    · refine ⟨Nat.ne_of_lt (Nat.lt_succ_of_lt (hlt b hb)), fun y c e z => ?_⟩
      exact (hf b hb).2.2.2.2.1 y c (closOf_sound e) z
  bs := I.bs
  bsz := Nat.le_trans I.ok.bsz I.sz
  noex := fun b o e hb => by
    rcases List.mem_cons.mp hb with rfl | hb
    · exact absurd (Heap.lt_size (I.bk _ _ e)) (Nat.lt_irrefl _)
    · rcases (hf b hb).2.2.2.1 with z | z
      · exact I.ok.noex b o e z
      · exact absurd (Nat.lt_of_lt_of_le (Heap.lt_size (I.ok.bs b o e).1) z) (Nat.lt_irrefl _)
  exfs := fun b hb hs => by
    have hs' := I.stkSub b hs
    rcases List.mem_cons.mp hb with rfl | hb
    · rcases List.mem_cons.mp hs' with z | z
      · exact absurd I.lt (by rw [← z]; exact Nat.lt_irrefl _)
      · exact I.nofs (Nat.le_refl _) z
    · rcases List.mem_cons.mp hs' with z | z
      · exact (hf b hb).2.1 z
      · exact (hf b hb).2.2.1 z
  funs := I.stack
  frf := I.stkFree

theorem blk_inv (S : CSc X scope x N caps) (I : Inv X pins σ H s) (hf : ∀ b ∈ fp, FpOk X pins H b) (hlt : ∀ b ∈ fp, b < s.heap.objs.size) {h₁ : Heap} {m : Str → Option Value} {tk : Nat}
    (hns : h₁.Ns (s.heap.objs.size + 1) m) (old : ∀ b o, s.heap.get? b = some o → h₁.get? b = some o) :
    Inv (blk X N scope (s.heap.objs.size + 1) s H (s.heap.objs.size :: fp)) [] (blkSt caps σ none) H { s with heap := h₁, toks := tk } where
  ok := blk_ok S I hf hlt
  os := rfl
  bare := I.bare
  base := Un.kept old
  loc := ⟨m, hns, fun i y v e1 e2 _ => by
    cases i with
    | zero => simp [blkSt] at e2
    | succ i =>
      obtain ⟨j, hj, hX, hfree⟩ := S.at e1
      have e2' : (σ[j]?).join = some v := by
        simp only [blkSt, List.getElem?_cons_succ, List.getElem?_map, hj, Option.map_some] at e2
        exact Option.some.inj e2
      have e3 : σ[j]? = some (some v) := by
        cases hh : σ[j]? with
        | none => rw [hh] at e2'; simp at e2'
        | some o => rw [hh] at e2'; simp at e2'; rw [e2']
      obtain ⟨m₂, _, hl⟩ := I.loc
      have hk := S.frees _ (lookup_mem hfree) rfl
      obtain ⟨u, r, l⟩ := hl j y v hX e3 (by
        rcases hk with k | k
        · exact .inr (.inl k)
        · exact .inr (.inr k))
      refine ⟨u, r, .inr ?_⟩
      rcases l with ⟨k, _⟩ | ⟨_, c, hc, hcell⟩
      · rcases hk with k' | k' <;> (rw [k] at k'; cases k')
      · obtain ⟨o, ho, hd⟩ := hcell
        exact ⟨relabel_free hfree, c, closOf_has (lookup_mem hfree) hc, o, old _ _ ho, hd⟩⟩
  cell := fun y c e => by
    obtain ⟨v, o, ho, hd⟩ := I.cell y c (closOf_sound e)
    exact ⟨v, o, old _ _ ho, hd⟩
  free := I.hok.fresh (Nat.le_succ _)
  freeC := fun y c e => I.freeC y c (closOf_sound e)
  pin := fun p hp => by
    have : p ∈ ([] : List (Addr × Obj)) := hp
    simp at this
  hok := I.hok.kept old
  len := by
    show (blkSt caps σ none).length = N.length
    rw [S.len]; simp [blkSt]
end

/-- the tests of a comprehension -/
noncomputable def PIfs (X : Cx) (ifs : List Expr) (t : TT) : Prop :=
  ∀ (pins : List (Addr × Obj)) (s : Shared) (σ : St) (H : Hp) (Q : Bool → Hp → Prop), Inv X pins σ H s → t σ H Q →
    wpAny (model X.prog X.w) X.A (forIn ifs true fun c r => if r = true then do let ok ← isTrue c X.env (eval c X.env); pure (ForInStep.yield ok) else pure (ForInStep.yield r)) (TP X pins σ Q) X.xe s
noncomputable def tYes : TT := fun _ H Q => Q true H
theorem pif_nil {X : Cx} : PIfs X [] tYes := fun pins s σ H Q I h => wpAny_tests_nil ⟨H, I, h⟩
theorem pif_one {X : Cx} {c : Expr} {t : TT} (h : PT X c t) : PIfs X [c] t := fun pins s σ H Q I hw => wpAny_tests_one (h pins s σ H Q I hw)

/-- [elt for x in iter if c] -/
noncomputable def wComp (J : It) (caps : List Nat) (tc : TT) (te : TE) (σ : St) (H1 : Hp) (Q : VK) : Prop :=
  ∃ W : Nat → Nat → List V → Hp → Prop, (∃ m, W 0 m [] H1) ∧ ∀ i m ys H, W i m ys H →
    (J.stop i H ∧ ∀ p, H p = none → Q (.ref p) (upd H p (.lst ys))) ∨
    (J.go i H ∧ ys.length < sizeLine ∧ ∃ N : List V → Hp → Prop, (∀ ys' H', N ys' H' → ∃ m', m' < m ∧ W (i + 1) m' ys' H') ∧ ∀ v H', J.yld i H v H' →
      tc (blkSt caps σ (some v)) H' fun b H2 => if b = true then te (blkSt caps σ (some v)) H2 fun y H3 => N (ys ++ [y]) H3 else N ys H2)
noncomputable def tComp (wi : TI) (caps : List Nat) (tc : TT) (te : TE) : TE := fun σ H Q => wi σ H fun J H1 => wComp J caps tc te σ H1 Q

theorem wp_pull {M : Model} {A : Around} {E : Value → Shared → Prop} {s : Shared} {m : Sem (Option Value)} {F : Value → Shared → Prop} (h : wpAny M A m (fun r s1 => ∃ u, r = some u ∧ wpAny M A (pure () : Sem Unit) (fun _ s2 => F u s2) E s1) E s) :
    wpAny M A m (fun r s1 => ∃ u, r = some u ∧ F u s1) E s := fun Γ p hΓ =>
  Sem.wp_mono M Γ m (fun r p' s' h' => by obtain ⟨u, e, h'⟩ := h'; exact ⟨u, e, h' Γ p' hΓ⟩) (fun _ _ _ h' => h') p s (h Γ p hΓ)

section
variable {X : Cx} {pins : List (Addr × Obj)} {σ : St} {H : Hp} {s : Shared} {scope : Scope} {x : Str} {N : List Str} {caps : List Nat} {fp : List Addr}
noncomputable abbrev lobj (its : List Value) (k : Nat) : Obj := { cls := .type "list", data := .seq its.toArray k }

/-- the whole block: from the list's making to its end -/
theorem comp_block {elt iter : Expr} {px pos : Pos} {ifs : List Expr} {tc : TT} {te : TE} {J : It} {it : Addr} {tn : Nat → Heap → Prop} {Q : VK} {RR : Value → Addr → Result → Shared → Prop} {E : Value → Shared → Prop}
    (hcalm : X.calm = true) (S : CSc X scope x N caps) (hc : ∀ C s H ex, PIfs (blk X N scope C s H ex) ifs tc) (he : ∀ C s H ex, PE (blk X N scope C s H ex) elt te)
    (I : Inv X pins σ H s) (T : Turn X.prog X.w X.K (.Name x px) J fp it tn) (t0 : tn 0 s.heap) (hf : ∀ b ∈ fp, FpOk X pins H b) (wc : wComp J caps tc te σ H Q)
    (fin : ∀ D C s' m' H' ys, Inv X pins σ (upd H' D (.lst ys)) s' → Q (.ref D) (upd H' D (.lst ys)) → s'.heap.Ns C m' → FpOk X pins (upd H' D (.lst ys)) C → C ≠ X.env.locals → RR (.ref D) C (.ok .next) s') :
    wpAny (model X.prog X.w) X.A (newList []) (fun acc s₃ => wpAny (model X.prog X.w) X.A (newFunctionEnv scope X.env.globals (closOf X.env.cells scope.names) [] X.env.qual none .none (some X.env)) (fun cenv s₄ =>
      codeAny (model X.prog X.w) X.A (.compStart (.ListComp elt [⟨.Name x px, iter, ifs, 0⟩] scope pos) 0 (.ref it) acc { cenv with scope := relabel scope X.env }) (RR acc cenv.locals) s₄) E s₃) E s := by
  refine wpAny_newObj_type (wpAny_newFunctionEnv S.nocell (by intro y hy; simp at hy) (fun h₁ hns₁ hsb₁ => ?_) S.kind)
  dsimp only at hns₁ hsb₁ ⊢
  generalize hH2 : s.heap.push { cls := .type "list", dict := none, data := .seq ([] : List Value).toArray } = H2 at hns₁ hsb₁ ⊢
  have hC : H2.objs.size = s.heap.objs.size + 1 := by rw [← hH2, Heap.size_push]
  have hDC : s.heap.objs.size ≠ H2.objs.size := by rw [hC]; exact Nat.ne_of_lt (Nat.lt_succ_self _)
  have below : ∀ b, b < s.heap.objs.size → b ≠ H2.objs.size := fun b hb => by rw [hC]; exact Nat.ne_of_lt (Nat.lt_succ_of_lt hb)
  have old : ∀ b o, s.heap.get? b = some o → h₁.get? b = some o := fun b o e => hsb₁.extBut b o (below b (Heap.lt_size e)) (Heap.get?_push_of_some _ (hH2 ▸ Heap.get?_push_of_some _ e))
  have hacc : h₁.get? s.heap.objs.size = some (lobj [] 0) := hsb₁.extBut _ _ hDC (Heap.get?_push_of_some _ (hH2 ▸ Heap.get?_push_size _ rfl))
  have hlt : ∀ b ∈ fp, b < s.heap.objs.size := fun b hb => by
    obtain ⟨o, e, _⟩ := T.obj 0 _ t0 b hb
    exact Heap.lt_size e
  have hDfp : s.heap.objs.size ∉ fp := fun z => Nat.lt_irrefl _ (hlt _ z)
  have hDok : FpOk X pins H s.heap.objs.size := I.fpOk (Nat.le_refl _) (I.hok.fresh (Nat.le_refl _))
  have hCok : FpOk X pins H H2.objs.size := I.fpOk (by rw [hC]; exact Nat.le_succ _) (I.hok.fresh (by rw [hC]; exact Nat.le_succ _))
  rw [hC] at hns₁ hDC hCok ⊢
  clear hC
  generalize hD : s.heap.objs.size = D at hacc hDfp hDok hDC
  have IY := blk_inv S I hf hlt (h₁ := h₁) (tk := s.toks + ([] : List (Str × Value)).length) hns₁ old
  rw [hD] at IY hns₁ hCok
  generalize hY : blk X N scope (D + 1) s H (D :: fp) = Y at IY
  have envY : Y.env = compEnvC scope (closOf X.env.cells scope.names) (D + 1) X.env := by rw [← hY]; rfl
  have exY : Y.ex = D :: fp := by rw [← hY]; rfl
  have fsY : Y.fs = frs X.stack := by rw [← hY]; rfl
  have pnY : Y.pn = [] := by rw [← hY]; rfl
  have locY : Y.env.locals = D + 1 := by rw [envY]; rfl
  have hcY : PIfs Y ifs tc := by rw [← hY]; exact hc _ _ _ _
  have heY : PE Y elt te := by rw [← hY]; exact he _ _ _ _
  have prY : Y.prog = X.prog ∧ Y.w = X.w ∧ Y.K = X.K ∧ Y.calm = X.calm ∧ Y.A = X.A ∧ Y.N = N ∧ Y.xe = fun _ _ => False := by rw [← hY]; exact ⟨rfl, rfl, rfl, rfl, rfl, rfl, rfl⟩
  obtain ⟨pr1, pr2, pr3, pr4, pr5, pr6, pr7⟩ := prY
  -- what a block's state has of the records
  have fpY : ∀ {H' : Hp} {pl : List (Addr × Obj)}, (∀ b ∈ fp, H' b = none) → (∀ p ∈ pl, p.1 = D) → ∀ b ∈ fp, FpOk Y pl H' b := fun {H' pl} hn hp b hb => by
    refine ⟨hn b hb, ?_, ?_, .inl (by rw [exY]; exact List.mem_cons_of_mem _ hb), fun y c e => (IY.ok.exf b (by rw [exY]; exact List.mem_cons_of_mem _ hb)).2 y c e, fun p hpp z => ?_⟩
    · exact (IY.ok.exf b (by rw [exY]; exact List.mem_cons_of_mem _ hb)).1
    · exact IY.ok.exfs b (by rw [exY]; exact List.mem_cons_of_mem _ hb)
    · rw [pnY, List.nil_append] at hpp
      exact hDfp (by rw [← hp p hpp, z]; exact hb)
  have hDY : D ∈ Y.ex := by rw [exY]; exact List.mem_cons_self
  -- D pinned
  have pinD : ∀ {H' : Hp} {s' : Shared} {σ' : St} {its : List Value} {k : Nat}, Inv Y [] σ' H' s' → H' D = none → s'.heap.get? D = some (lobj its k) → Inv Y [(D, lobj its k)] σ' H' s' := fun {H' s' σ' its k} I' hn e =>
    I'.pins_of fun p hp => by
      have hp' : p = (D, lobj its k) := by simpa using hp
      subst hp'
      refine ⟨e, hn, (IY.ok.exf D hDY).1, IY.ok.exfs D hDY, fun v z => ?_⟩
      have z' : Data.seq its.toArray k = Data.cell v := z
      cases z'
  obtain ⟨W, ⟨m0, w0⟩, turn⟩ := wc
  have loop : ∀ s₃ : Shared, s₃ = { s with heap := h₁, toks := s.toks + ([] : List (Str × Value)).length } →
      codeAny (model X.prog X.w) X.A (.compLoop (.ListComp elt [⟨.Name x px, iter, ifs, 0⟩] scope pos) 0 (.ref it) (.ref D) Y.env) (RR (.ref D) (D + 1)) s₃ := by
    rintro s₃ rfl
    refine codeAny_compLoop_tests
      (fun n s' => ∃ i ys its k H', Inv Y [(D, lobj its k)] (blkSt caps σ none) H' s' ∧ Vals ys its ∧ ys.length ≤ sizeLine ∧ tn i s'.heap ∧ (∀ b ∈ fp, H' b = none) ∧ W i n ys H') ?_ m0
      ⟨0, [], [], 0, H, pinD IY hDok.1 hacc, .nil, Nat.zero_le _, T.keep _ _ _ t0 fun b _ o e => old b o e, fun b hb => (hf b hb).1, w0⟩
    rintro n s1 ⟨i, ys, its, k, H1, I1, rv, hl, st1, fr1, w1⟩
    have pin1 : ∀ p ∈ [(D, lobj its k)], p.1 = D := fun p hp => by
      have hp' : p = (D, lobj its k) := by simpa using hp
      rw [hp']
    rcases turn i n ys H1 w1 with ⟨stop, qn⟩ | ⟨go, hsz, Nx, hNx, step⟩
    · have z := T.done Y pr1 pr2 pr3 (pr4.trans hcalm) i [(D, lobj its k)] s1 (blkSt caps σ none) H1 (notedBy (model X.prog X.w) X.A Y.env fun e s' => RR (.ref D) (D + 1) (.error e) s') I1 (fpY fr1 pin1) st1 stop
      rw [pr5] at z
      refine thn z fun r s2 ⟨hr, I2⟩ => ?_
      subst hr
      obtain ⟨eD, nD, _, _, _⟩ := I2.pin (D, lobj its k) (List.mem_append_right _ List.mem_cons_self)
      have hU : Un (frs X.stack) (D :: fp) H (upd H1 D (.lst ys)) s.heap s2.heap := by
        have b := I2.base
        rw [fsY, exY] at b
        have b' : Un (frs X.stack) (D :: fp) H H1 s.heap s2.heap := by
          have e1 : Y.H₀ = H := by rw [← hY]; rfl
          have e2 : Y.s₀ = s := by rw [← hY]; rfl
          rw [e1, e2] at b; exact b
        have ne : ∀ a u, H1 a = some u → a ≠ D := fun a u e => ne_of_none e nD
        exact ⟨b'.keep, b'.slot, fun a o e n hx => by rw [upd_ne (fun z => hx (by rw [z]; exact List.mem_cons_self))]; exact b'.free a o e n hx, b'.there,
          fun a xs e => by rw [upd_ne (ne _ _ (b'.tups a xs e))]; exact b'.tups a xs e, fun a o u e => by rw [upd_ne (ne _ _ (b'.frzs a o u e))]; exact b'.frzs a o u e,
          fun a ps e => by obtain ⟨mo, q⟩ := b'.tbls a ps e; exact ⟨mo, by rw [upd_ne (ne _ _ q)]; exact q⟩⟩
      have hHok : HOk X.prog X.w (upd H1 D (.lst ys)) s2.heap := by
        have q := I2.hok
        rw [pr1, pr2] at q
        exact q.adopt nD ⟨hl, its, k, rv, eD⟩
      have IX : Inv X pins σ (upd H1 D (.lst ys)) s2 := I.call' (by have := I2.os; rw [show Y.s₀ = s by rw [← hY]; rfl] at this; exact this) hU hHok I2.bare (fun b hb => by
        rcases List.mem_cons.mp hb with rfl | hb
        · exact ⟨hDok.2.2.2.1, hDok.2.1, hDok.2.2.2.2.1, hDok.2.2.2.2.2⟩
        · have q := hf b hb
          exact ⟨q.2.2.2.1, q.2.1, q.2.2.2.2.1, q.2.2.2.2.2⟩)
      obtain ⟨mC, hnC, _⟩ := I2.loc
      rw [locY] at hnC
      have fC := I2.free
      rw [locY] at fC
      exact fin D (D + 1) s2 mC H1 ys IX (qn D nD) hnC ⟨by rw [upd_ne (fun z => hDC z.symm)]; exact fC, hCok.2⟩ hCok.2.1
    · have z := wp_pull (T.item Y pr1 pr2 pr3 (pr4.trans hcalm) i [(D, lobj its k)] s1 (blkSt caps σ none) H1 (notedBy (model X.prog X.w) X.A Y.env fun e s' => RR (.ref D) (D + 1) (.error e) s') I1 (fpY fr1 pin1) st1 go)
      rw [pr5] at z
      refine thn z fun r s2 ⟨u, hr, v, H2, I2, ru, yld, st2, fr2⟩ => ?_
      subst hr
      have I2' := I2.pinned (fpY fr2 pin1) (T.obj _ _ st2)
      have lxY : Y.env.scope.names.lookup x = some .local := by rw [envY]; exact lookup_relabel_local S.lx
      have g := pg_name (X := Y) (i := 0) (x := x) (pos := px) (by rw [pr6]; exact S.nd) (by rw [pr6]; exact S.n0) (.inl lxY) (.inr lxY)
      have a := g _ s2 _ H2 v u (fun σ' H' => σ' = blkSt caps σ (some v) ∧ H' = H2) I2' ru ⟨rfl, rfl⟩
      rw [pr1, pr2, pr5, pr7] at a
      refine wpAny_mono a (fun _ s3 ⟨σ3, H3, I3, e1, e2⟩ => ?_) fun _ _ f => f.elim
      subst e1 e2
      have c := hcY _ s3 _ H3 _ I3 (step v H3 yld)
      rw [pr1, pr2, pr5, pr7] at c
      refine wpAny_mono c (fun b s4 ⟨H4, I4, q4⟩ => ?_) fun _ _ f => f.elim
      -- the turn's end: D's object is told, the rest kept
      have again : ∀ {s5 : Shared} {H5 : Hp} {ys' : List V} {its' : List Value} {k' m' : Nat}, Inv Y (pinsAt fp s2.heap) (blkSt caps σ (some v)) H5 s5 → H5 D = none → s5.heap.get? D = some (lobj its' k') → Vals ys' its' → ys'.length ≤ sizeLine → m' < n → W (i + 1) m' ys' H5 →
          ∃ m, m < n ∧ ∃ i ys its k H', Inv Y [(D, lobj its k)] (blkSt caps σ none) H' s5 ∧ Vals ys its ∧ ys.length ≤ sizeLine ∧ tn i s5.heap ∧ (∀ b ∈ fp, H' b = none) ∧ W i m ys H' := fun {s5 H5 ys' its' k' m'} I5 nD eD rv' hl' hm w' => by
        refine ⟨m', hm, i + 1, ys', its', k', H5, pinD ((I5.pins_of fun p hp => by simp at hp).weak (by simp [blkSt]) fun j w hj => ?_) nD eD, rv', hl', T.keep _ _ _ st2 fun b hb o e => (I5.pin (b, o) (List.mem_append_right _ (mem_pinsAt hb e))).1, fun b hb => ?_, w'⟩
        · cases j with
          | zero => simp [blkSt] at hj
          | succ j => simpa [blkSt] using hj
        · obtain ⟨o, e, d⟩ := T.obj _ _ st2 b hb
          exact (I5.pin (b, o) (List.mem_append_right _ (mem_pinsAt hb e))).2.1
      have drop1 : ∀ {s5 : Shared} {H5 : Hp} {σ5 : St}, Inv Y ([(D, lobj its k)] ++ pinsAt fp s2.heap) σ5 H5 s5 → Inv Y (pinsAt fp s2.heap) σ5 H5 s5 := fun I5 => I5.pins_of fun p hp => I5.pin p (List.mem_append_right _ (List.mem_append_right _ hp))
      cases b with
      | false =>
        obtain ⟨m', hm, w'⟩ := hNx _ _ q4
        obtain ⟨eD, nD, _⟩ := I4.pin (D, lobj its k) (List.mem_append_right _ (List.mem_append_left _ List.mem_cons_self))
        exact again (drop1 I4) nD eD rv hl hm w'
      | true =>
        rw [if_pos rfl]
        rw [if_pos rfl] at q4
        have d := heY _ s4 _ H4 _ I4 q4
        rw [pr1, pr2, pr5, pr7] at d
        refine wpAny_mono d (fun w s5 ⟨y, H5, I5, ry, q5⟩ => ?_) fun _ _ f => f.elim
        obtain ⟨m', hm, w'⟩ := hNx _ _ q5
        obtain ⟨eD, nD, _⟩ := I5.pin (D, lobj its k) (List.mem_append_right _ (List.mem_append_left _ List.mem_cons_self))
        refine append_at (hsz := by rw [List.size_toArray, ← rv.length]; exact hl) eD fun h6 hs6 hD6 => ?_
        have I6 : Inv Y (pinsAt fp s2.heap) (blkSt caps σ (some v)) H5 { s5 with heap := h6, toks := s5.toks } := (drop1 I5).turned (fun b o hb e => (hs6.2 b hb).trans e) nD (IY.ok.exf D hDY).1 (.inl hDY) (fun y c e => (IY.ok.exf D hDY).2 y c e) (fun p hp => by
          rw [pnY, List.nil_append] at hp
          intro z
          exact hDfp (by rw [← z]; exact (of_pinsAt hp).1))
        refine again (ys' := ys ++ [y]) (its' := its ++ [w]) (k' := k + 1) I6 nD ?_ (rv.append (.cons ry .nil)) (by rw [List.length_append, List.length_singleton]; exact hsz) hm w'
        rw [hD6]
        show some ({ cls := .type "list", data := .seq (its.toArray.push w) (k + 1) } : Obj) = some { cls := .type "list", data := .seq (its ++ [w]).toArray (k + 1) }
        rw [List.push_toArray]
  rw [envY] at loop
  have st1 : tn 0 h₁ := T.keep _ _ _ t0 fun b _ o e => old b o e
  exact codeAny_compStart_list (loop _ rfl) (T.self _ 0 _ _ _ st1 (loop _ rfl))

/-- a comprehension as a value -/
theorem pe_comp {elt iter : Expr} {px pos : Pos} {ifs : List Expr} {wi : TI} {tc : TT} {te : TE} (hcalm : X.calm = true) (S : CSc X scope x N caps) (hi : PI X (.Name x px) iter wi)
    (hc : ∀ C s H ex, PIfs (blk X N scope C s H ex) ifs tc) (he : ∀ C s H ex, PE (blk X N scope C s H ex) elt te) (hs : ∀ x, foldedSetIterable iter X.env x = pure x := by intro _; rfl) :
    PE X (.ListComp elt [⟨.Name x px, iter, ifs, 0⟩] scope pos) (tComp wi caps tc te) := by
  intro pins s σ H Q I h
  rw [eval_ListComp]
  refine wpAny_comprehension_free (use := none) rfl hs (closureFor_of (S.cells I.ok)) S.kind S.names (thn (hi pins s σ H _ I h) fun xv s1 h1 => thn h1 fun itv s2 h2 => ?_)
  obtain ⟨it, fp, tn, J, H2, e, I2, T, st2, f2, wc⟩ := h2
  subst e
  refine comp_block (RR := fun acc C => compPost (model X.prog X.w) X.A X.xe none (EP X pins σ Q) acc C) hcalm S hc he I2 T st2 f2 wc fun D C s' m' H' ys I' q hn fC _ => ?_
  refine ⟨m', hn, fun h' hs' => ⟨.ref D, upd H' D (.lst ys), ?_, rfl, q⟩⟩
  exact I'.turned (t' := s'.toks) (fun b o hb e => (hs'.2 b hb).trans e) fC.1 fC.2.1 fC.2.2.2.1 fC.2.2.2.2.1 fC.2.2.2.2.2
/-- y = a comprehension, y a plain local name -/
theorem ps_comp {elt iter : Expr} {px py pos spos : Pos} {ifs : List Expr} {wi : TI} {tc : TT} {te : TE} {y : Str} {i : Nat} (hcalm : X.calm = true) (S : CSc X scope x N caps) (hi : PI X (.Name x px) iter wi)
    (hc : ∀ C s H ex, PIfs (blk X N scope C s H ex) ifs tc) (he : ∀ C s H ex, PE (blk X N scope C s H ex) elt te) (hN : X.N.Nodup) (hy : X.N[i]? = some y) (hx : X.env.scope.names.lookup y = some .local)
    (hsw : swapsWith (.ListComp elt [⟨.Name x px, iter, ifs, 0⟩] scope pos) (some (.Name y py)) spos.line X.env = pure true) (hs : ∀ x, foldedSetIterable iter X.env x = pure x := by intro _; rfl) :
    PS X (.Assign [.Name y py] (.ListComp elt [⟨.Name x px, iter, ifs, 0⟩] scope pos) spos) (fun D σ H => tComp wi caps tc te σ H fun v H1 => D.nx (σ.set i (some v)) H1) := by
  intro pins s σ H D I h
  rw [exec_Assign_Name_used _ _ _ _ hsw]
  refine wpAny_bind (wpAny_standAt (wpAny_bind ?_))
  show wpAny _ X.A (do let _ ← comprehension (.ListComp elt [⟨.Name x px, iter, ifs, 0⟩] scope pos) scope X.env _ (newList []) false (eval iter X.env) (some (assign (.Name y py) X.env))) _ _ s
  refine wpAny_bind (wpAny_mono (wpAny_comprehension_free (use := some (assign (.Name y py) X.env)) (Q := fun _ s' => SP X pins D .next s') rfl hs (closureFor_of (S.cells I.ok)) S.kind S.names
    (thn (hi pins s σ H _ I h) fun xv s1 h1 => thn h1 fun itv s2 h2 => ?_)) (fun _ s' hq => wpAny_pure (wpAny_pure hq)) fun _ _ e => e)
  obtain ⟨it, fp, tn, J, H2, e, I2, T, st2, f2, wc⟩ := h2
  subst e
  refine comp_block (RR := fun acc C => compPost (model X.prog X.w) X.A X.xe (some (assign (.Name y py) X.env)) (fun _ s' => SP X pins D .next s') acc C) hcalm S hc he I2 T st2 f2 wc fun d C s' m' H' ys I' q hn fC hCL => ?_
  show wpAny _ X.A (assign (.Name y py) X.env (.ref d)) _ _ _
  refine wpAny_assign_Name (store_ok2 I' hN hy (.inl hx) (v := .ref d) rfl (fun s'' I'' ⟨a, hs, ha⟩ => ?_) (.inr hx))
  have hne : C ≠ a := by
    rcases ha with rfl | ha
    · exact hCL
    · exact fun z => fC.2.2.2.2.1 _ _ ha z.symm
  refine ⟨m', hn.sameBut hs hne, fun h' hs' => ⟨_, _, I''.turned (t' := s''.toks) (fun b o hb e => (hs'.2 b hb).trans e) fC.1 fC.2.1 fC.2.2.2.1 fC.2.2.2.2.1 fC.2.2.2.2.2, q⟩⟩
end
end L2

namespace L2
open PySem PySem.Spec PyProof.Rows

/-! ### texts walked -/

/-! ### the forms of a comprehension -/
theorem comp_list {K : PySem.W.Frag} {a : Addr} {xs : List V} {caps : List Nat} {tc : TT} {te : TE} {σ : St} {H : Hp} {Q : VK} (Pv : Nat → List V → Hp → Prop) (h0 : Pv 0 [] H) (hx : xs.length < sizeLine) (hy : ∀ i ys H, Pv i ys H → ys.length ≤ i)
    (hl : ∀ i ys H, i ≤ xs.length → Pv i ys H → SqL K H a xs)
    (hs : ∀ i x ys H, xs[i]? = some x → Pv i ys H → tc (blkSt caps σ (some x)) H fun b H2 => if b = true then te (blkSt caps σ (some x)) H2 fun y H3 => Pv (i + 1) (ys ++ [y]) H3 else Pv (i + 1) ys H2)
    (hd : ∀ ys H, Pv xs.length ys H → ∀ p, H p = none → Q (.ref p) (upd H p (.lst ys))) : wComp (Itl K a) caps tc te σ H Q := by
  refine ⟨fun i m ys H => m = xs.length - i ∧ i ≤ xs.length ∧ Pv i ys H, ⟨xs.length, by simp, Nat.zero_le _, h0⟩, ?_⟩
  rintro i m ys H ⟨rfl, hi, p⟩
  have q := hl i ys H hi p
  by_cases hlt : i < xs.length
  · refine .inr ⟨⟨xs, xs[i], q, by simp [hlt]⟩, Nat.lt_of_le_of_lt (Nat.le_trans (hy i ys H p) hi) hx, Pv (i + 1), fun ys' H' p' => ⟨xs.length - (i + 1), by omega, rfl, hlt, p'⟩, fun x H' y => ?_⟩
    obtain ⟨e, y⟩ := y
    subst e
    exact hs i x ys _ (y xs q) p
  · have e : i = xs.length := by omega
    subst e
    exact .inl ⟨⟨xs, q, Nat.le_refl _⟩, hd ys H p⟩

section
variable {X : Cx}
/-! ### texts: slices, order, join -/
theorem strsAre_of {ys : List Str} : ∀ {us : List Value}, Vals (ys.map V.str) us → StrsAre us ys := by
  induction ys with
  | nil => intro us r; cases r; exact .nil
  | cons y ys ih =>
    intro us r
    cases r with
    | cons r t =>
      obtain ⟨k, rfl⟩ := r
      exact .cons y k (ih t)
noncomputable def rJoin (K : PySem.W.Frag) : V → List V → Hp → VK → Prop := fun x xs H Q => ∃ sep a ys, x = .str sep ∧ xs = [.ref a] ∧ (SqL K H a (ys.map V.str) ∨ SqT K H a (ys.map V.str)) ∧ (ys.map (·.length)).sum + ys.length * sep.length ≤ 16777216 ∧ Q (.str (Txt.join sep ys)) H
theorem mt_join : MtR X "str.join" (rJoin X.K) := by
  intro pins s σ H x xs v us Q I rx rs h
  obtain ⟨sep, a, ys, rfl, rfl, hq, hok, q⟩ := h
  obtain ⟨t, rfl⟩ := rx
  obtain ⟨u, rfl, ru⟩ := vals1 rs
  cases ru
  rcases hq with hq | hq
  · obtain ⟨its, rv, p, hz⟩ := I.list hq
    exact join_list p.isList (strsAre_of rv) hok fun t' k => ⟨.str _, H, I.tok _, ⟨_, rfl⟩, q⟩
  · obtain ⟨its, rv, p, hz⟩ := I.tuple hq
    exact join_tuple p (strsAre_of rv) hok fun t' k => ⟨.str _, H, I.tok _, ⟨_, rfl⟩, q⟩
/-! ### f-strings -/
noncomputable def tJs : List TE → Str → TE
  | [], acc => fun _ H Q => acc.length ≤ sizeLine ∧ Q (.str acc) H
  | t :: r, acc => fun σ H Q => t σ H fun v H1 => ∃ y, v = .str y ∧ (acc ++ y).length ≤ sizeLine ∧ tJs r (acc ++ y) σ H1 Q
inductive PEs (X : Cx) : List Expr → List TE → Prop
  | nil : PEs X [] []
  | cons {e : Expr} {t : TE} {es : List Expr} {ts : List TE} : PE X e t → PEs X es ts → PEs X (e :: es) (t :: ts)
theorem pe_parts {pins : List (Addr × Obj)} {σ : St} {Q : VK} {es : List Expr} {ts : List TE} (h : PEs X es ts) : ∀ (acc : Str) (H : Hp) (s : Shared), Inv X pins σ H s → tJs ts acc σ H Q →
    Joins (model X.prog X.w) X.A X.xe (evalEach es X.env) acc (fun out s₁ => out.length ≤ sizeLine ∧ EP X pins σ Q (.str out s₁.toks) { s₁ with toks := s₁.toks + 1 }) s := by
  induction h with
  | nil => intro acc H s I h; exact ⟨h.1, .str acc, H, I.tok _, ⟨_, rfl⟩, h.2⟩
  | @cons e t es ts he _ ih =>
    intro acc H s I h
    refine thn (he pins s σ H _ I h) fun v s1 ⟨x, H1, I1, r1, y, ey, hz, q⟩ => ?_
    subst ey
    obtain ⟨t, rfl⟩ := r1
    exact ⟨y, t, rfl, hz, ih _ H1 s1 I1 q⟩
theorem pe_js {e1 e2 : Expr} {es : List Expr} {ts : List TE} {pos : Pos} (h : PEs X (e1 :: e2 :: es) ts) : PE X (.JoinedStr (e1 :: e2 :: es) pos) (tJs ts Str.empty) := by
  intro pins s σ H Q I hw
  exact JoinedStr_many (wpAny_joinPartsRec _ _ _ _ (pe_parts h _ H s I hw))
/-! ### all, any of bools -/
end
end L2

namespace L2
open PySem PySem.Spec PyProof.Rows

/-! ### plain data, and how the abstract heap bears it -/
inductive D where
  | non | bl (b : Bool) | int (i : Int) | str (x : Str) | tup (ds : List D) | lst (ds : List D)

mutual
noncomputable def D.eq : D → D → Bool
  | .non, e => match e with | .non => true | _ => false
  | .bl a, e => match e with | .bl b => a == b | .int j => (if a then (1 : Int) else 0) == j | _ => false
  | .int i, e => match e with | .int j => i == j | .bl b => i == (if b then (1 : Int) else 0) | _ => false
  | .str x, e => match e with | .str y => x == y | _ => false
  | .tup ds, e => match e with | .tup es => D.eqs ds es | _ => false
  | .lst ds, e => match e with | .lst es => D.eqs ds es | _ => false
noncomputable def D.eqs : List D → List D → Bool
  | [], es => es.isEmpty
  | d :: ds, es => match es with | [] => false | e :: r => D.eq d e && D.eqs ds r
end
mutual
noncomputable def D.dp : D → Nat
  | .tup ds => D.dps ds + 1
  | .lst ds => D.dps ds + 1
  | _ => 0
noncomputable def D.dps : List D → Nat
  | [] => 0
  | d :: ds => max (D.dp d) (D.dps ds)
end
mutual
/-- no truth values in it -/
noncomputable def D.cl : D → Bool
  | .bl _ => false
  | .tup ds => D.cls ds
  | .lst ds => D.cls ds
  | _ => true
noncomputable def D.cls : List D → Bool
  | [] => true
  | d :: ds => D.cl d && D.cls ds
end
mutual
theorem D.eq_refl : ∀ d : D, D.eq d d = true
  | .non => rfl
  | .bl b => by simp [D.eq]
  | .int i => by simp [D.eq]
  | .str x => by simp [D.eq]
  | .tup ds => by simp only [D.eq]; exact D.eqs_refl ds
  | .lst ds => by simp only [D.eq]; exact D.eqs_refl ds
theorem D.eqs_refl : ∀ ds : List D, D.eqs ds ds = true
  | [] => rfl
  | d :: ds => by simp only [D.eqs, D.eq_refl d, D.eqs_refl ds, Bool.and_self]
end
mutual
theorem D.eq_of : ∀ (d e : D), d.cl = true → e.cl = true → D.eq d e = true → d = e
  | .non, e, _, _, h => by cases e <;> first | rfl | (simp [D.eq] at h)
  | .bl b, e, c, _, _ => by simp [D.cl] at c
  | .int i, e, _, c, h => by cases e <;> first | (exfalso; simp [D.cl] at c; done) | (simp [D.eq] at h; rw [h]; done) | (simp [D.eq] at h)
  | .str x, e, _, _, h => by cases e <;> first | (simp [D.eq] at h; rw [h]) | (simp [D.eq] at h)
  | .tup ds, e, c, c', h => by
    cases e <;> first
      | (rename_i es
         simp only [D.eq] at h
         simp only [D.cl] at c c'
         rw [D.eqs_of ds es c c' h])
      | (simp [D.eq] at h)
  | .lst ds, e, c, c', h => by
    cases e <;> first
      | (rename_i es
         simp only [D.eq] at h
         simp only [D.cl] at c c'
         rw [D.eqs_of ds es c c' h])
      | (simp [D.eq] at h)
theorem D.eqs_of : ∀ (ds es : List D), D.cls ds = true → D.cls es = true → D.eqs ds es = true → ds = es
  | [], es, _, _, h => by cases es <;> first | rfl | (simp [D.eqs] at h)
  | d :: ds, es, c, c', h => by
    cases es with
    | nil => simp [D.eqs] at h
    | cons e r =>
      simp only [D.eqs, Bool.and_eq_true] at h
      simp only [D.cls, Bool.and_eq_true] at c c'
      rw [D.eq_of d e c.1 c'.1 h.1, D.eqs_of ds r c.2 c'.2 h.2]
end
theorem D.eq_iff {d e : D} (c : d.cl = true) (c' : e.cl = true) : D.eq d e = true ↔ d = e := ⟨D.eq_of d e c c', fun h => by rw [h]; exact D.eq_refl e⟩
theorem D.eqs_length : ∀ {ds es : List D}, D.eqs ds es = true → ds.length = es.length
  | [], es, h => by cases es <;> simp_all [D.eqs]
  | d :: ds, es, h => by
    cases es with
    | nil => simp [D.eqs] at h
    | cons e r =>
      simp only [D.eqs, Bool.and_eq_true] at h
      simp [D.eqs_length h.2]
/-- == item by item -/
theorem D.eqs_all : ∀ (ds es : List D), (((List.range (min ds.length es.length)).all fun j => D.eq (ds.getD j .non) (es.getD j .non)) && ds.length == es.length) = D.eqs ds es
  | [], es => by cases es <;> simp [D.eqs]
  | d :: ds, es => by
    cases es with
    | nil => simp [D.eqs]
    | cons e r =>
      have ih := D.eqs_all ds r
      have e1 : min (d :: ds).length (e :: r).length = min ds.length r.length + 1 := by simp only [List.length_cons]; omega
      have e2 : ((d :: ds).length == (e :: r).length) = (ds.length == r.length) := by simp
      have e3 : ((List.range (min ds.length r.length + 1)).all fun j => D.eq ((d :: ds).getD j .non) ((e :: r).getD j .non)) = (D.eq d e && (List.range (min ds.length r.length)).all fun j => D.eq (ds.getD j .non) (r.getD j .non)) := by
        rw [List.range_succ_eq_map, List.all_cons, List.all_map]
        rfl
      rw [e1, e2, e3]
      simp only [D.eqs]
      rw [← ih, Bool.and_assoc]

mutual
noncomputable def Dt (H : Hp) : D → V → Prop
  | .non, v => v = .non
  | .bl b, v => v = .bl b
  | .int i, v => v = .int i
  | .str x, v => v = .str x
  | .tup ds, v => ∃ a vs, v = .ref a ∧ H a = some (.tup vs) ∧ Dts H ds vs
  | .lst ds, v => ∃ a vs, v = .ref a ∧ H a = some (.lst vs) ∧ Dts H ds vs
noncomputable def Dts (H : Hp) : List D → List V → Prop
  | [], vs => vs = []
  | d :: ds, vs => ∃ v r, vs = v :: r ∧ Dt H d v ∧ Dts H ds r
end
theorem Dts.length {H : Hp} : ∀ {ds : List D} {vs : List V}, Dts H ds vs → vs.length = ds.length
  | [], vs, h => by simp only [Dts] at h; simp [h]
  | d :: ds, vs, h => by
    simp only [Dts] at h
    obtain ⟨v, r, rfl, _, h⟩ := h
    simp [Dts.length h]
theorem Dts.get {H : Hp} : ∀ {ds : List D} {vs : List V} {i : Nat} {d : D}, Dts H ds vs → ds[i]? = some d → ∃ v, vs[i]? = some v ∧ Dt H d v
  | [], vs, i, d, _, e => by simp at e
  | d' :: ds, vs, i, d, h, e => by
    simp only [Dts] at h
    obtain ⟨v, r, rfl, h1, h2⟩ := h
    cases i with
    | zero => simp at e; subst e; exact ⟨v, rfl, h1⟩
    | succ i => simpa using Dts.get (i := i) h2 (by simpa using e)
theorem Dts.append {H : Hp} : ∀ {ds es : List D} {vs us : List V}, Dts H ds vs → Dts H es us → Dts H (ds ++ es) (vs ++ us)
  | [], es, vs, us, h, h' => by simp only [Dts] at h; subst h; simpa using h'
  | d :: ds, es, vs, us, h, h' => by
    simp only [Dts] at h
    obtain ⟨v, r, rfl, h1, h2⟩ := h
    show Dts H (d :: (ds ++ es)) (v :: (r ++ us))
    simp only [Dts]
    exact ⟨v, r ++ us, rfl, h1, Dts.append h2 h'⟩
theorem Dts.one {H : Hp} {d : D} {v : V} (h : Dt H d v) : Dts H [d] [v] := by
  simp only [Dts]
  exact ⟨v, [], rfl, h, rfl⟩
theorem Dts.nil {H : Hp} : Dts H [] [] := by simp only [Dts]
theorem Dts.cons {H : Hp} {d : D} {v : V} {ds : List D} {vs : List V} (h : Dt H d v) (t : Dts H ds vs) : Dts H (d :: ds) (v :: vs) := by
  simp only [Dts]
  exact ⟨v, vs, rfl, h, t⟩
theorem Dts.take {H : Hp} : ∀ {ds : List D} {vs : List V} (n : Nat), Dts H ds vs → Dts H (ds.take n) (vs.take n)
  | _, _, 0, _ => by simp [Dts]
  | [], vs, n + 1, h => by simp only [Dts] at h; subst h; simp [Dts]
  | d :: ds, vs, n + 1, h => by
    simp only [Dts] at h
    obtain ⟨v, r, rfl, h1, h2⟩ := h
    exact Dts.cons h1 (Dts.take n h2)
theorem Dts.drop {H : Hp} : ∀ {ds : List D} {vs : List V} (n : Nat), Dts H ds vs → Dts H (ds.drop n) (vs.drop n)
  | _, _, 0, h => h
  | [], vs, n + 1, h => by simp only [Dts] at h; subst h; simp [Dts]
  | d :: ds, vs, n + 1, h => by
    simp only [Dts] at h
    obtain ⟨v, r, rfl, h1, h2⟩ := h
    exact Dts.drop n h2
theorem Dts.set {H : Hp} {d : D} {v : V} (h : Dt H d v) : ∀ {ds : List D} {vs : List V} (n : Nat), Dts H ds vs → Dts H (ds.set n d) (vs.set n v)
  | [], vs, n, h' => by simp only [Dts] at h'; subst h'; simp [Dts]
  | e :: ds, vs, 0, h' => by
    simp only [Dts] at h'
    obtain ⟨u, r, rfl, h1, h2⟩ := h'
    exact Dts.cons h h2
  | e :: ds, vs, n + 1, h' => by
    simp only [Dts] at h'
    obtain ⟨u, r, rfl, h1, h2⟩ := h'
    exact Dts.cons h1 (Dts.set h n h2)
mutual
theorem Dt.inj {H : Hp} : ∀ {d e : D} {v : V}, Dt H d v → Dt H e v → d = e
  | .non, e, v, h, h' => by simp only [Dt] at h; subst h; cases e <;> simp_all [Dt]
  | .bl b, e, v, h, h' => by simp only [Dt] at h; subst h; cases e <;> simp_all [Dt]
  | .int i, e, v, h, h' => by simp only [Dt] at h; subst h; cases e <;> simp_all [Dt]
  | .str x, e, v, h, h' => by simp only [Dt] at h; subst h; cases e <;> simp_all [Dt]
  | .tup ds, e, v, h, h' => by
    simp only [Dt] at h
    obtain ⟨a, vs, rfl, ea, hs⟩ := h
    cases e with
    | tup es =>
      simp only [Dt] at h'
      obtain ⟨a', vs', q, ea', hs'⟩ := h'
      cases q
      rw [ea] at ea'; cases ea'
      rw [Dts.inj hs hs']
    | lst es =>
      simp only [Dt] at h'
      obtain ⟨a', vs', q, ea', hs'⟩ := h'
      cases q
      rw [ea] at ea'; cases ea'
    | _ => simp [Dt] at h'
  | .lst ds, e, v, h, h' => by
    simp only [Dt] at h
    obtain ⟨a, vs, rfl, ea, hs⟩ := h
    cases e with
    | lst es =>
      simp only [Dt] at h'
      obtain ⟨a', vs', q, ea', hs'⟩ := h'
      cases q
      rw [ea] at ea'; cases ea'
      rw [Dts.inj hs hs']
    | tup es =>
      simp only [Dt] at h'
      obtain ⟨a', vs', q, ea', hs'⟩ := h'
      cases q
      rw [ea] at ea'; cases ea'
    | _ => simp [Dt] at h'
theorem Dts.inj {H : Hp} : ∀ {ds es : List D} {vs : List V}, Dts H ds vs → Dts H es vs → ds = es
  | [], es, vs, h, h' => by
    simp only [Dts] at h; subst h
    cases es <;> simp_all [Dts]
  | d :: ds, es, vs, h, h' => by
    simp only [Dts] at h
    obtain ⟨v, r, rfl, h1, h2⟩ := h
    cases es with
    | nil => simp [Dts] at h'
    | cons e es =>
      simp only [Dts] at h'
      obtain ⟨v', r', q, h1', h2'⟩ := h'
      cases q
      rw [Dt.inj h1 h1', Dts.inj h2 h2']
end
mutual
theorem Dt.same {H H' : Hp} (S : Same H H') : ∀ {d : D} {v : V}, Dt H d v → Dt H' d v
  | .non, v, h => h
  | .bl b, v, h => h
  | .int i, v, h => h
  | .str x, v, h => h
  | .tup ds, v, h => by
    simp only [Dt] at h ⊢
    obtain ⟨a, vs, rfl, ea, hs⟩ := h
    exact ⟨a, vs, rfl, S _ _ ea, Dts.same S hs⟩
  | .lst ds, v, h => by
    simp only [Dt] at h ⊢
    obtain ⟨a, vs, rfl, ea, hs⟩ := h
    exact ⟨a, vs, rfl, S _ _ ea, Dts.same S hs⟩
theorem Dts.same {H H' : Hp} (S : Same H H') : ∀ {ds : List D} {vs : List V}, Dts H ds vs → Dts H' ds vs
  | [], vs, h => h
  | d :: ds, vs, h => by
    simp only [Dts] at h ⊢
    obtain ⟨v, r, rfl, h1, h2⟩ := h
    exact ⟨v, r, rfl, Dt.same S h1, Dts.same S h2⟩
end
mutual
/-- no lists in it -/
noncomputable def D.nl : D → Bool
  | .lst _ => false
  | .tup ds => D.nls ds
  | _ => true
noncomputable def D.nls : List D → Bool
  | [] => true
  | d :: ds => D.nl d && D.nls ds
end
/-- the tuples are as they were -/
noncomputable def Tups (H H' : Hp) : Prop := ∀ b xs, H b = some (.tup xs) → H' b = some (.tup xs)
theorem Same.tups {H H' : Hp} (S : Same H H') : Tups H H' := fun b xs h => S b _ h
theorem Tups.trans {H H1 H2 : Hp} (a : Tups H H1) (b : Tups H1 H2) : Tups H H2 := fun c o h => b c o (a c o h)
theorem Tups.refl (H : Hp) : Tups H H := fun _ _ h => h
theorem Tups.lst {H : Hp} {p : Addr} {xs ys : List V} (h : H p = some (.lst xs)) : Tups H (upd H p (.lst ys)) := fun b zs e => by
  rw [upd_ne (ne_of e h (by intro z; cases z))]; exact e
mutual
theorem Dt.tups {H H' : Hp} (S : Tups H H') : ∀ {d : D} {v : V}, d.nl = true → Dt H d v → Dt H' d v
  | .non, v, _, h => h
  | .bl b, v, _, h => h
  | .int i, v, _, h => h
  | .str x, v, _, h => h
  | .tup ds, v, n, h => by
    simp only [Dt] at h ⊢
    obtain ⟨a, vs, rfl, ea, hs⟩ := h
    simp only [D.nl] at n
    exact ⟨a, vs, rfl, S _ _ ea, Dts.tups S n hs⟩
  | .lst ds, v, n, h => by simp [D.nl] at n
theorem Dts.tups {H H' : Hp} (S : Tups H H') : ∀ {ds : List D} {vs : List V}, D.nls ds = true → Dts H ds vs → Dts H' ds vs
  | [], vs, _, h => h
  | d :: ds, vs, n, h => by
    simp only [Dts] at h ⊢
    obtain ⟨v, r, rfl, h1, h2⟩ := h
    simp only [D.nls, Bool.and_eq_true] at n
    exact ⟨v, r, rfl, Dt.tups S n.1 h1, Dts.tups S n.2 h2⟩
end

/-! ### == over plain data -/
section
variable {P : Program} {w : World} {H : Hp} {s : Shared}
open PySem.SeqAt
theorem isD_obj (hok : HOk P w H s.heap) {d : D} {v : V} {u : Value} (h : Dt H d v) (r : RelV v u) :
    (∃ ds a vs its, d = .tup ds ∧ v = .ref a ∧ u = .ref a ∧ Dts H ds vs ∧ Vals vs its ∧ s.heap.IsTuple a its.toArray) ∨ (∃ ds a vs its, d = .lst ds ∧ v = .ref a ∧ u = .ref a ∧ Dts H ds vs ∧ Vals vs its ∧ s.heap.IsList a its.toArray) ∨
    (d = .non ∧ u = .none) ∨ (∃ b, d = .bl b ∧ u = .bool b) ∨ (∃ i t, d = .int i ∧ u = .int i t) ∨ ∃ x t, d = .str x ∧ u = .str x t := by
  cases d with
  | non => simp only [Dt] at h; subst h; cases r; exact .inr (.inr (.inl ⟨rfl, rfl⟩))
  | bl b => simp only [Dt] at h; subst h; cases r; exact .inr (.inr (.inr (.inl ⟨b, rfl, rfl⟩)))
  | int i => simp only [Dt] at h; subst h; obtain ⟨t, rfl⟩ := r; exact .inr (.inr (.inr (.inr (.inl ⟨i, t, rfl, rfl⟩))))
  | str x => simp only [Dt] at h; subst h; obtain ⟨t, rfl⟩ := r; exact .inr (.inr (.inr (.inr (.inr ⟨x, t, rfl, rfl⟩))))
  | tup ds =>
    simp only [Dt] at h
    obtain ⟨a, vs, rfl, ea, hs⟩ := h
    cases r
    obtain ⟨_, its, rv, p⟩ := hok a _ ea
    exact .inl ⟨ds, a, vs, its, rfl, rfl, rfl, hs, rv, p⟩
  | lst ds =>
    simp only [Dt] at h
    obtain ⟨a, vs, rfl, ea, hs⟩ := h
    cases r
    obtain ⟨_, its, n, rv, p⟩ := hok a _ ea
    exact .inr (.inl ⟨ds, a, vs, its, rfl, rfl, rfl, hs, rv, ⟨_, p, rfl, n, rfl⟩⟩)

theorem in1_units (A : Around) : A.in1.units = A.units + 1 := rfl
mutual
theorem eqAt_D (hok : HOk P w H s.heap) : ∀ (d e : D) {A : Around} {x y : V} {u v : Value}, Dt H d x → Dt H e y → RelV x u → RelV y v → A.units + d.dp + 1 < cLine → EqAt A s u v (D.eq d e)
  | .tup ds, e, A, x, y, u, v, hd, he, rx, ry, hu => by
    have hu0 : A.units < cLine := by omega
    rcases isD_obj hok hd rx with ⟨ds', a, vs, its, ed, ex, eu, hs, rv, p⟩ | ⟨_, _, _, _, z, _⟩ | ⟨z, _⟩ | ⟨_, z, _⟩ | ⟨_, _, z, _⟩ | ⟨_, _, z, _⟩ <;> try cases z
    cases ed; subst ex eu
    rcases isD_obj hok he ry with ⟨es, b, us, jts, ee, ey, ev, hs', rv', p'⟩ | ⟨es, b, us, jts, ee, ey, ev, hs', rv', p'⟩ | ⟨ee, ev⟩ | ⟨b, ee, ev⟩ | ⟨i, t, ee, ev⟩ | ⟨z, t, ee, ev⟩ <;> subst ee ev
    · subst ey
      by_cases hab : a = b
      · subst hab
        rw [Dt.inj hd he, D.eq_refl]
        exact EqAt.same _
      · refine EqAt.of_refs hab ?_
        have n1 : its.toArray.size = ds.length := by have := rv.length; have := hs.length; simp; omega
        have n2 : jts.toArray.size = es.length := by have := rv'.length; have := hs'.length; simp; omega
        simp only [D.eq]
        rw [← D.eqs_all, ← n1, ← n2]
        refine RcAt.tuples p p' hu0 fun j j1 j2 => ?_
        simp only [D.dp] at hu
        have := eqAt_Ds hok ds es (A := A.in1) hs hs' rv rv' (by rw [in1_units]; omega) j (by simpa using j1) (by simpa using j2)
        simpa using this
    · subst ey; exact EqAt.tuple_list p p' hu0
    · exact EqAt.tuple_none p hu0
    · exact EqAt.tuple_bool b p hu0
    · exact EqAt.tuple_int i t p hu0
    · exact EqAt.tuple_str z t p hu0
  | .lst ds, e, A, x, y, u, v, hd, he, rx, ry, hu => by
    have hu0 : A.units < cLine := by omega
    rcases isD_obj hok hd rx with ⟨_, _, _, _, z, _⟩ | ⟨ds', a, vs, its, ed, ex, eu, hs, rv, p⟩ | ⟨z, _⟩ | ⟨_, z, _⟩ | ⟨_, _, z, _⟩ | ⟨_, _, z, _⟩ <;> try cases z
    cases ed; subst ex eu
    rcases isD_obj hok he ry with ⟨es, b, us, jts, ee, ey, ev, hs', rv', p'⟩ | ⟨es, b, us, jts, ee, ey, ev, hs', rv', p'⟩ | ⟨ee, ev⟩ | ⟨b, ee, ev⟩ | ⟨i, t, ee, ev⟩ | ⟨z, t, ee, ev⟩ <;> subst ee ev
    · subst ey; exact EqAt.list_tuple p p' hu0
    · subst ey
      by_cases hab : a = b
      · subst hab
        rw [Dt.inj hd he, D.eq_refl]
        exact EqAt.same _
      · refine EqAt.of_refs hab ?_
        have n1 : its.toArray.size = ds.length := by have := rv.length; have := hs.length; simp; omega
        have n2 : jts.toArray.size = es.length := by have := rv'.length; have := hs'.length; simp; omega
        simp only [D.eq]
        by_cases hsz : its.toArray.size = jts.toArray.size
        · have e := D.eqs_all ds es
          rw [← n1, ← n2, ← hsz, Nat.min_self, beq_self_eq_true, Bool.and_true] at e
          rw [← e]
          refine RcAt.lists p p' hsz hu0 fun j j1 j2 => ?_
          simp only [D.dp] at hu
          have := eqAt_Ds hok ds es (A := A.in1) hs hs' rv rv' (by rw [in1_units]; omega) j (by simpa using j1) (by simpa using j2)
          simpa using this
        · have e : D.eqs ds es = false := by
            cases h : D.eqs ds es with
            | false => rfl
            | true => exact absurd (D.eqs_length h) (by omega)
          rw [e]
          exact RcAt.lists_lengths p p' (by simpa using hsz) hu0
    · exact EqAt.list_none p hu0
    · exact EqAt.list_bool b p hu0
    · exact EqAt.list_int i t p hu0
    · exact EqAt.list_str z t p hu0
  | .non, e, A, x, y, u, v, hd, he, rx, ry, hu => by
    have hu0 : A.units < cLine := by omega
    simp only [Dt] at hd; subst hd; cases rx
    rcases isD_obj hok he ry with ⟨es, b, us, jts, ee, ey, ev, hs', rv', p'⟩ | ⟨es, b, us, jts, ee, ey, ev, hs', rv', p'⟩ | ⟨ee, ev⟩ | ⟨b, ee, ev⟩ | ⟨i, t, ee, ev⟩ | ⟨z, t, ee, ev⟩ <;> subst ee ev
    · exact EqAt.none_tuple p' hu0
    · exact EqAt.none_list p' hu0
    · exact EqAt.same _
    · exact EqAt.none_bool b
    · exact EqAt.none_int i t
    · exact EqAt.none_str z t
  | .bl c, e, A, x, y, u, v, hd, he, rx, ry, hu => by
    have hu0 : A.units < cLine := by omega
    simp only [Dt] at hd; subst hd; cases rx
    rcases isD_obj hok he ry with ⟨es, b, us, jts, ee, ey, ev, hs', rv', p'⟩ | ⟨es, b, us, jts, ee, ey, ev, hs', rv', p'⟩ | ⟨ee, ev⟩ | ⟨b, ee, ev⟩ | ⟨i, t, ee, ev⟩ | ⟨z, t, ee, ev⟩ <;> subst ee ev
    · exact EqAt.bool_tuple c p' hu0
    · exact EqAt.bool_list c p' hu0
    · exact EqAt.bool_none c
    · exact EqAt.bool_bool c b
    · exact EqAt.bool_int c i t
    · exact EqAt.bool_str c z t
  | .int c, e, A, x, y, u, v, hd, he, rx, ry, hu => by
    have hu0 : A.units < cLine := by omega
    simp only [Dt] at hd; subst hd; obtain ⟨tt, rfl⟩ := rx
    rcases isD_obj hok he ry with ⟨es, b, us, jts, ee, ey, ev, hs', rv', p'⟩ | ⟨es, b, us, jts, ee, ey, ev, hs', rv', p'⟩ | ⟨ee, ev⟩ | ⟨b, ee, ev⟩ | ⟨i, t, ee, ev⟩ | ⟨z, t, ee, ev⟩ <;> subst ee ev
    · exact EqAt.int_tuple c tt p' hu0
    · exact EqAt.int_list c tt p' hu0
    · exact EqAt.int_none c tt
    · exact EqAt.int_bool c tt b
    · exact EqAt.int_int c tt i t
    · exact EqAt.int_str c tt z t
  | .str c, e, A, x, y, u, v, hd, he, rx, ry, hu => by
    have hu0 : A.units < cLine := by omega
    simp only [Dt] at hd; subst hd; obtain ⟨tt, rfl⟩ := rx
    rcases isD_obj hok he ry with ⟨es, b, us, jts, ee, ey, ev, hs', rv', p'⟩ | ⟨es, b, us, jts, ee, ey, ev, hs', rv', p'⟩ | ⟨ee, ev⟩ | ⟨b, ee, ev⟩ | ⟨i, t, ee, ev⟩ | ⟨z, t, ee, ev⟩ <;> subst ee ev
    · exact EqAt.str_tuple c tt p' hu0
    · exact EqAt.str_list c tt p' hu0
    · exact EqAt.str_none c tt
    · exact EqAt.str_bool c tt b
    · exact EqAt.str_int c tt i t
    · exact EqAt.str_str c tt z t
theorem eqAt_Ds (hok : HOk P w H s.heap) : ∀ (ds es : List D) {A : Around} {xs ys : List V} {us vs : List Value}, Dts H ds xs → Dts H es ys → Vals xs us → Vals ys vs → A.units + D.dps ds + 1 < cLine →
    ∀ j (h1 : j < us.length) (h2 : j < vs.length), EqAt A s us[j] vs[j] (D.eq (ds.getD j .non) (es.getD j .non))
  | [], es, A, xs, ys, us, vs, hd, he, rx, ry, hu, j, h1, h2 => by
    simp only [Dts] at hd; subst hd; cases rx; simp at h1
  | d :: ds, es, A, xs, ys, us, vs, hd, he, rx, ry, hu, j, h1, h2 => by
    simp only [Dts] at hd
    obtain ⟨x, xr, rfl, hx, hxr⟩ := hd
    cases rx with
    | cons r rt =>
      cases es with
      | nil => simp only [Dts] at he; subst he; cases ry; simp at h2
      | cons e er =>
        simp only [Dts] at he
        obtain ⟨y, yr, rfl, hy, hyr⟩ := he
        cases ry with
        | cons q qt =>
          simp only [D.dps] at hu
          cases j with
          | zero => exact eqAt_D hok d e hx hy r q (by omega)
          | succ j => exact eqAt_Ds hok ds er hxr hyr rt qt (by omega) j (by simpa using h1) (by simpa using h2)
end
end
end L2

namespace L2
open PySem PySem.Spec PyProof.Rows

section
variable {P : Program} {w : World} {H : Hp} {s : Shared}
open PySem.SeqAt
theorem D.eqs_ne {ds es : List D} (h : ds.length ≠ es.length) : D.eqs ds es = false := by
  cases q : D.eqs ds es with
  | false => rfl
  | true => exact absurd (D.eqs_length q) h
theorem rcAt_D (hok : HOk P w H s.heap) {d e : D} {A : Around} {x y : V} {u v : Value} (hd : Dt H d x) (he : Dt H e y) (rx : RelV x u) (ry : RelV y v) (hu : A.units + d.dp + 1 < cLine) : RcAt A s u v (D.eq d e) := by
  have hu0 : A.units < cLine := by omega
  rcases isD_obj hok hd rx with ⟨ds, a, vs, its, ed, ex, eu, hs, rv, p⟩ | ⟨ds, a, vs, its, ed, ex, eu, hs, rv, p⟩ | ⟨ed, eu⟩ | ⟨c, ed, eu⟩ | ⟨c, tt, ed, eu⟩ | ⟨c, tt, ed, eu⟩
  · subst ed eu
    rcases isD_obj hok he ry with ⟨es, b, us, jts, ee, ey, ev, hs', rv', p'⟩ | ⟨es, b, us, jts, ee, ey, ev, hs', rv', p'⟩ | ⟨ee, ev⟩ | ⟨b, ee, ev⟩ | ⟨i, t, ee, ev⟩ | ⟨z, t, ee, ev⟩
    · subst ee ev
      have n1 : its.toArray.size = ds.length := by have := rv.length; have := hs.length; simp; omega
      have n2 : jts.toArray.size = es.length := by have := rv'.length; have := hs'.length; simp; omega
      simp only [D.eq]
      simp only [D.dp] at hu
      have all : ∀ j (j1 : j < its.toArray.size) (j2 : j < jts.toArray.size), EqAt A.in1 s its.toArray[j] jts.toArray[j] (D.eq (ds.getD j .non) (es.getD j .non)) := fun j j1 j2 => by
        have := eqAt_Ds hok ds es (A := A.in1) hs hs' rv rv' (by rw [in1_units]; omega) j (by simpa using j1) (by simpa using j2)
        simpa using this
      rw [← D.eqs_all, ← n1, ← n2]
      exact RcAt.tuples p p' hu0 all
    · subst ee ev
      exact RcAt.tuple_list p p' hu0
    · subst ee ev
      exact RcAt.tuple_none p hu0
    · subst ee ev
      exact RcAt.tuple_bool b p hu0
    · subst ee ev
      exact RcAt.tuple_int i t p hu0
    · subst ee ev
      exact RcAt.tuple_str z t p hu0
  · subst ed eu
    rcases isD_obj hok he ry with ⟨es, b, us, jts, ee, ey, ev, hs', rv', p'⟩ | ⟨es, b, us, jts, ee, ey, ev, hs', rv', p'⟩ | ⟨ee, ev⟩ | ⟨b, ee, ev⟩ | ⟨i, t, ee, ev⟩ | ⟨z, t, ee, ev⟩
    · subst ee ev
      exact RcAt.list_tuple p p' hu0
    · subst ee ev
      have n1 : its.toArray.size = ds.length := by have := rv.length; have := hs.length; simp; omega
      have n2 : jts.toArray.size = es.length := by have := rv'.length; have := hs'.length; simp; omega
      simp only [D.eq]
      simp only [D.dp] at hu
      have all : ∀ j (j1 : j < its.toArray.size) (j2 : j < jts.toArray.size), EqAt A.in1 s its.toArray[j] jts.toArray[j] (D.eq (ds.getD j .non) (es.getD j .non)) := fun j j1 j2 => by
        have := eqAt_Ds hok ds es (A := A.in1) hs hs' rv rv' (by rw [in1_units]; omega) j (by simpa using j1) (by simpa using j2)
        simpa using this
      by_cases hsz : its.toArray.size = jts.toArray.size
      · have e := D.eqs_all ds es
        rw [← n1, ← n2, ← hsz, Nat.min_self, beq_self_eq_true, Bool.and_true] at e
        rw [← e]
        exact RcAt.lists p p' hsz hu0 all
      · rw [D.eqs_ne (by omega)]
        exact RcAt.lists_lengths p p' (by simpa using hsz) hu0
    · subst ee ev
      exact RcAt.list_none p hu0
    · subst ee ev
      exact RcAt.list_bool b p hu0
    · subst ee ev
      exact RcAt.list_int i t p hu0
    · subst ee ev
      exact RcAt.list_str z t p hu0
  · subst ed eu
    rcases isD_obj hok he ry with ⟨es, b, us, jts, ee, ey, ev, hs', rv', p'⟩ | ⟨es, b, us, jts, ee, ey, ev, hs', rv', p'⟩ | ⟨ee, ev⟩ | ⟨b, ee, ev⟩ | ⟨i, t, ee, ev⟩ | ⟨z, t, ee, ev⟩
    · subst ee ev
      exact RcAt.none_tuple p' hu0
    · subst ee ev
      exact RcAt.none_list p' hu0
    · subst ee ev
      exact RcAt.none_none 
    · subst ee ev
      exact RcAt.none_bool b
    · subst ee ev
      exact RcAt.none_int i t
    · subst ee ev
      exact RcAt.none_str z t
  · subst ed eu
    rcases isD_obj hok he ry with ⟨es, b, us, jts, ee, ey, ev, hs', rv', p'⟩ | ⟨es, b, us, jts, ee, ey, ev, hs', rv', p'⟩ | ⟨ee, ev⟩ | ⟨b, ee, ev⟩ | ⟨i, t, ee, ev⟩ | ⟨z, t, ee, ev⟩
    · subst ee ev
      exact RcAt.bool_tuple c p' hu0
    · subst ee ev
      exact RcAt.bool_list c p' hu0
    · subst ee ev
      exact RcAt.bool_none c
    · subst ee ev
      exact RcAt.bool_bool c b
    · subst ee ev
      exact RcAt.bool_int c i t
    · subst ee ev
      exact RcAt.bool_str c z t
  · subst ed eu
    rcases isD_obj hok he ry with ⟨es, b, us, jts, ee, ey, ev, hs', rv', p'⟩ | ⟨es, b, us, jts, ee, ey, ev, hs', rv', p'⟩ | ⟨ee, ev⟩ | ⟨b, ee, ev⟩ | ⟨i, t, ee, ev⟩ | ⟨z, t, ee, ev⟩
    · subst ee ev
      exact RcAt.int_tuple c tt p' hu0
    · subst ee ev
      exact RcAt.int_list c tt p' hu0
    · subst ee ev
      exact RcAt.int_none c tt
    · subst ee ev
      exact RcAt.int_bool c tt b
    · subst ee ev
      exact RcAt.int_int c tt i t
    · subst ee ev
      exact RcAt.int_str c tt z t
  · subst ed eu
    rcases isD_obj hok he ry with ⟨es, b, us, jts, ee, ey, ev, hs', rv', p'⟩ | ⟨es, b, us, jts, ee, ey, ev, hs', rv', p'⟩ | ⟨ee, ev⟩ | ⟨b, ee, ev⟩ | ⟨i, t, ee, ev⟩ | ⟨z, t, ee, ev⟩
    · subst ee ev
      exact RcAt.str_tuple c tt p' hu0
    · subst ee ev
      exact RcAt.str_list c tt p' hu0
    · subst ee ev
      exact RcAt.str_none c tt
    · subst ee ev
      exact RcAt.str_bool c tt b
    · subst ee ev
      exact RcAt.str_int c tt i t
    · subst ee ev
      exact RcAt.str_str c tt z t
theorem rcNe_D (hok : HOk P w H s.heap) {d e : D} {A : Around} {x y : V} {u v : Value} (hd : Dt H d x) (he : Dt H e y) (rx : RelV x u) (ry : RelV y v) (hu : A.units + d.dp + 1 < cLine) : RcNeAt A s u v (!D.eq d e) := by
  have hu0 : A.units < cLine := by omega
  rcases isD_obj hok hd rx with ⟨ds, a, vs, its, ed, ex, eu, hs, rv, p⟩ | ⟨ds, a, vs, its, ed, ex, eu, hs, rv, p⟩ | ⟨ed, eu⟩ | ⟨c, ed, eu⟩ | ⟨c, tt, ed, eu⟩ | ⟨c, tt, ed, eu⟩
  · subst ed eu
    rcases isD_obj hok he ry with ⟨es, b, us, jts, ee, ey, ev, hs', rv', p'⟩ | ⟨es, b, us, jts, ee, ey, ev, hs', rv', p'⟩ | ⟨ee, ev⟩ | ⟨b, ee, ev⟩ | ⟨i, t, ee, ev⟩ | ⟨z, t, ee, ev⟩
    · subst ee ev
      have n1 : its.toArray.size = ds.length := by have := rv.length; have := hs.length; simp; omega
      have n2 : jts.toArray.size = es.length := by have := rv'.length; have := hs'.length; simp; omega
      simp only [D.eq]
      simp only [D.dp] at hu
      have all : ∀ j (j1 : j < its.toArray.size) (j2 : j < jts.toArray.size), EqAt A.in1 s its.toArray[j] jts.toArray[j] (D.eq (ds.getD j .non) (es.getD j .non)) := fun j j1 j2 => by
        have := eqAt_Ds hok ds es (A := A.in1) hs hs' rv rv' (by rw [in1_units]; omega) j (by simpa using j1) (by simpa using j2)
        simpa using this
      rw [← D.eqs_all, ← n1, ← n2]
      exact RcNeAt.tuples p p' hu0 all
    · subst ee ev
      exact RcNeAt.tuple_list p p' hu0
    · subst ee ev
      exact RcNeAt.tuple_none p hu0
    · subst ee ev
      exact RcNeAt.tuple_bool b p hu0
    · subst ee ev
      exact RcNeAt.tuple_int i t p hu0
    · subst ee ev
      exact RcNeAt.tuple_str z t p hu0
  · subst ed eu
    rcases isD_obj hok he ry with ⟨es, b, us, jts, ee, ey, ev, hs', rv', p'⟩ | ⟨es, b, us, jts, ee, ey, ev, hs', rv', p'⟩ | ⟨ee, ev⟩ | ⟨b, ee, ev⟩ | ⟨i, t, ee, ev⟩ | ⟨z, t, ee, ev⟩
    · subst ee ev
      exact RcNeAt.list_tuple p p' hu0
    · subst ee ev
      have n1 : its.toArray.size = ds.length := by have := rv.length; have := hs.length; simp; omega
      have n2 : jts.toArray.size = es.length := by have := rv'.length; have := hs'.length; simp; omega
      simp only [D.eq]
      simp only [D.dp] at hu
      have all : ∀ j (j1 : j < its.toArray.size) (j2 : j < jts.toArray.size), EqAt A.in1 s its.toArray[j] jts.toArray[j] (D.eq (ds.getD j .non) (es.getD j .non)) := fun j j1 j2 => by
        have := eqAt_Ds hok ds es (A := A.in1) hs hs' rv rv' (by rw [in1_units]; omega) j (by simpa using j1) (by simpa using j2)
        simpa using this
      by_cases hsz : its.toArray.size = jts.toArray.size
      · have e := D.eqs_all ds es
        rw [← n1, ← n2, ← hsz, Nat.min_self, beq_self_eq_true, Bool.and_true] at e
        rw [← e]
        exact RcNeAt.lists p p' hsz hu0 all
      · rw [D.eqs_ne (by omega)]
        exact RcNeAt.lists_lengths p p' (by simpa using hsz) hu0
    · subst ee ev
      exact RcNeAt.list_none p hu0
    · subst ee ev
      exact RcNeAt.list_bool b p hu0
    · subst ee ev
      exact RcNeAt.list_int i t p hu0
    · subst ee ev
      exact RcNeAt.list_str z t p hu0
  · subst ed eu
    rcases isD_obj hok he ry with ⟨es, b, us, jts, ee, ey, ev, hs', rv', p'⟩ | ⟨es, b, us, jts, ee, ey, ev, hs', rv', p'⟩ | ⟨ee, ev⟩ | ⟨b, ee, ev⟩ | ⟨i, t, ee, ev⟩ | ⟨z, t, ee, ev⟩
    · subst ee ev
      exact RcNeAt.none_tuple p' hu0
    · subst ee ev
      exact RcNeAt.none_list p' hu0
    · subst ee ev
      exact RcNeAt.none_none 
    · subst ee ev
      exact RcNeAt.none_bool b
    · subst ee ev
      exact RcNeAt.none_int i t
    · subst ee ev
      exact RcNeAt.none_str z t
  · subst ed eu
    rcases isD_obj hok he ry with ⟨es, b, us, jts, ee, ey, ev, hs', rv', p'⟩ | ⟨es, b, us, jts, ee, ey, ev, hs', rv', p'⟩ | ⟨ee, ev⟩ | ⟨b, ee, ev⟩ | ⟨i, t, ee, ev⟩ | ⟨z, t, ee, ev⟩
    · subst ee ev
      exact RcNeAt.bool_tuple c p' hu0
    · subst ee ev
      exact RcNeAt.bool_list c p' hu0
    · subst ee ev
      exact RcNeAt.bool_none c
    · subst ee ev
      exact RcNeAt.bool_bool c b
    · subst ee ev
      exact RcNeAt.bool_int c i t
    · subst ee ev
      exact RcNeAt.bool_str c z t
  · subst ed eu
    rcases isD_obj hok he ry with ⟨es, b, us, jts, ee, ey, ev, hs', rv', p'⟩ | ⟨es, b, us, jts, ee, ey, ev, hs', rv', p'⟩ | ⟨ee, ev⟩ | ⟨b, ee, ev⟩ | ⟨i, t, ee, ev⟩ | ⟨z, t, ee, ev⟩
    · subst ee ev
      exact RcNeAt.int_tuple c tt p' hu0
    · subst ee ev
      exact RcNeAt.int_list c tt p' hu0
    · subst ee ev
      exact RcNeAt.int_none c tt
    · subst ee ev
      exact RcNeAt.int_bool c tt b
    · subst ee ev
      exact RcNeAt.int_int c tt i t
    · subst ee ev
      exact RcNeAt.int_str c tt z t
  · subst ed eu
    rcases isD_obj hok he ry with ⟨es, b, us, jts, ee, ey, ev, hs', rv', p'⟩ | ⟨es, b, us, jts, ee, ey, ev, hs', rv', p'⟩ | ⟨ee, ev⟩ | ⟨b, ee, ev⟩ | ⟨i, t, ee, ev⟩ | ⟨z, t, ee, ev⟩
    · subst ee ev
      exact RcNeAt.str_tuple c tt p' hu0
    · subst ee ev
      exact RcNeAt.str_list c tt p' hu0
    · subst ee ev
      exact RcNeAt.str_none c tt
    · subst ee ev
      exact RcNeAt.str_bool c tt b
    · subst ee ev
      exact RcNeAt.str_int c tt i t
    · subst ee ev
      exact RcNeAt.str_str c tt z t
end

section
variable {X : Cx} {k : Nat}
noncomputable def rEqD : R2 := fun x y H Q => ∃ d e, Dt H d x ∧ Dt H e y ∧ d.dp ≤ 150 ∧ Q (.bl (D.eq d e)) H
noncomputable def rNeD : R2 := fun x y H Q => ∃ d e, Dt H d x ∧ Dt H e y ∧ d.dp ≤ 150 ∧ Q (.bl (!D.eq d e)) H
theorem op_eqD (hr : Room k X.A) : OpR X (compareOp .Eq) rEqD := by
  intro pins s σ H x y v u Q I rx ry h
  obtain ⟨d, e, hd, he, hp, q⟩ := h
  exact rcAt_D I.hok hd he rx ry (by have := hr.un; omega) _ _ _ _ ⟨.bl _, H, I, rfl, q⟩
theorem op_neD (hr : Room k X.A) : OpR X (compareOp .NotEq) rNeD := by
  intro pins s σ H x y v u Q I rx ry h
  obtain ⟨d, e, hd, he, hp, q⟩ := h
  exact rcNe_D I.hok hd he rx ry (by have := hr.un; omega) _ _ _ _ ⟨.bl _, H, I, rfl, q⟩

/-! ### isinstance by a built-in class -/
noncomputable def isiB (t n : String) : Bool := t == n || (t == "bool" && n == "int")
inductive TyN (H : Hp) : V → String → Prop where
  | non : TyN H .non "NoneType"
  | bl (b : Bool) : TyN H (.bl b) "bool"
  | int (i : Int) : TyN H (.int i) "int"
  | str (x : Str) : TyN H (.str x) "str"
  | lst {a : Addr} {xs : List V} (e : H a = some (.lst xs)) : TyN H (.ref a) "list"
  | tup {a : Addr} {xs : List V} (e : H a = some (.tup xs)) : TyN H (.ref a) "tuple"
theorem kit_b {K : PySem.W.Frag} {t n : String} (ht : t ∈ ["NoneType", "bool", "int", "str", "list", "tuple", "dict"]) (hn : n ∈ ["bool", "int", "str", "list", "tuple", "dict"]) : PySem.W.kitOne K (.type t) (.type n) = some (isiB t n) := by
  simp only [List.mem_cons, List.not_mem_nil, or_false] at ht hn
  rcases ht with rfl | rfl | rfl | rfl | rfl | rfl | rfl <;> rcases hn with rfl | rfl | rfl | rfl | rfl | rfl <;> first | rfl | decide +kernel
noncomputable def rIsi : List V → Hp → VK → Prop := fun xs H Q => ∃ x n t, xs = [x, .ty n] ∧ TyN H x t ∧ n ∈ ["bool", "int", "str", "list", "tuple", "dict"] ∧ Q (.bl (isiB t n)) H
theorem call_isi : CallR X (.builtin "isinstance") rIsi := by
  intro pins s σ H xs us Q I r h
  obtain ⟨x, n, t, rfl, ty, hn, q⟩ := h
  obtain ⟨u, c, rfl, ru, rc⟩ := vals2 r
  cases (show c = Value.type n from rc)
  have fin : ∀ tk, EP X pins σ Q (.bool (isiB t n)) { s with toks := tk } := fun tk => ⟨.bl _, H, I.tok _, rfl, q⟩
  cases ty with
  | non => exact isinst_ok I ru .non (kit_b (by simp) hn) fin
  | bl b => exact isinst_ok I ru (.bl b) (kit_b (by simp) hn) fin
  | int i => exact isinst_ok I ru (.int i) (kit_b (by simp) hn) fin
  | str z => exact isinst_ok I ru (.str z) (kit_b (by simp) hn) fin
  | lst e => exact isinst_ok I ru (.lst e) (kit_b (by simp) hn) fin
  | tup e => exact isinst_ok I ru (.tup e) (kit_b (by simp) hn) fin

/-! ### a op b op c op d -/
end
end L2

namespace L2
open PySem PySem.Spec PyProof.Rows
theorem bt_len : bootBuiltins "len" = some (.builtin "len") := by decide +kernel
theorem bt_max : bootBuiltins "max" = some (.builtin "max") := by decide +kernel
theorem bt_min : bootBuiltins "min" = some (.builtin "min") := by decide +kernel
theorem bt_isinstance : bootBuiltins "isinstance" = some (.builtin "isinstance") := by decide +kernel
theorem bt_int : bootBuiltins "int" = some (.type "int") := by decide +kernel
theorem bt_str : bootBuiltins "str" = some (.type "str") := by decide +kernel
theorem bt_bool : bootBuiltins "bool" = some (.type "bool") := by decide +kernel
theorem bt_list : bootBuiltins "list" = some (.type "list") := by decide +kernel
theorem bt_tuple : bootBuiltins "tuple" = some (.type "tuple") := by decide +kernel
theorem same_new {H : Hp} {p : Addr} (h : H p = none) (o : HO) : Same H (upd H p o) := fun b u q => by rw [upd_ne (ne_of_none q h)]; exact q
section
variable {X : Cx}
/-- t + u of tuples: some tuple with the items of both -/
noncomputable def rCatD : R2 := fun x y H Q => ∃ a b xs ys, x = .ref a ∧ y = .ref b ∧ H a = some (.tup xs) ∧ H b = some (.tup ys) ∧ xs.length + ys.length ≤ sizeLine ∧
  ∀ p H', Same H H' → H' p = some (.tup (xs ++ ys)) → Q (.ref p) H'
theorem cat_tup0 {prog : Program} {w : World} {A : Around} {E : Value → Shared → Prop} {s : Shared} {t b : Addr} {ws : List Value} {Q : Value → Shared → Prop} (ht : IsTup s.heap t ([] : List Value).toArray) (hb : IsTup s.heap b ws.toArray) (h : Q (.ref b) s) :
    wpAny (model prog w) A (binaryOp .Add (.ref t) (.ref b)) Q E s := by
  obtain ⟨⟨cls, dd, data, sl⟩, ho, hc, n, hd⟩ := id ht
  obtain ⟨⟨cls2, dd2, data2, sl2⟩, ho2, hc2, n2, hd2⟩ := id hb
  simp only at hc hd hc2 hd2
  subst hc hd hc2 hd2
  exact concat_meets ⟨_, ho, rfl⟩ ⟨_, ho2, rfl⟩ noFill_tuple_add seq_tuple_add PySem.F.slot_tuple_add PySem.F.entry_tuple_add (PySem.F.args_tuple_add_2 _ _)
    (tuple_addW0 t b _ ws.toArray n n2 dd dd2 sl sl2 (by rfl)) ⟨ho, ho2, h⟩
theorem op_catD : OpR X (binaryOp .Add) rCatD := by
  intro pins s σ H x y v u Q I rx ry h
  obtain ⟨a, b, xs, ys, rfl, rfl, ha, hb, hz, q⟩ := h
  by_cases hx : xs = []
  · subst hx
    cases rx
    cases ry
    obtain ⟨_, its, r1, p1⟩ := I.hok a _ ha
    obtain ⟨_, its2, r2, p2⟩ := I.hok b _ hb
    cases r1
    exact cat_tup0 p1 p2 ⟨.ref b, H, I, rfl, q b H (Same.refl H) hb⟩
  · refine op_catT pins s σ H _ _ v u Q I rx ry ⟨a, b, xs, ys, rfl, rfl, SqT.of ha, SqT.of hb, hx, hz, fun e => ?_, fun _ p hp => q p _ (same_new hp _) upd_same⟩
    subst e
    exact q a H (Same.refl H) (by rw [List.append_nil]; exact ha)
end
/-- a new list with these plain data -/
noncomputable def RetL (H : Hp) (ds : List D) (Q : VK) : Prop := ∀ p vs H', Same H H' → H p = none → H' p = some (.lst vs) → Dts H' ds vs → Q (.ref p) H'
/-- some value with this plain datum -/
noncomputable def RetD (H : Hp) (d : D) (Q : VK) : Prop := ∀ v H', Same H H' → Dt H' d v → Q v H'
theorem RetL.d {H : Hp} {ds : List D} {Q : VK} (h : RetD H (.lst ds) Q) : RetL H ds Q := fun p vs H' S _ e d => h _ H' S (by simp only [Dt]; exact ⟨p, vs, rfl, e, d⟩)
end L2

namespace L2
open PySem PySem.Spec PyProof.Rows
/-! ### rules that read what stands at an address -/
noncomputable def itemsOf : Option HO → Option (List V)
  | some (.lst xs) => some xs
  | some (.tup xs) => some xs
  | _ => none
theorem itemsOf_sq {K : PySem.W.Frag} {H : Hp} {a : Addr} {xs : List V} (h : itemsOf (H a) = some xs) : SqL K H a xs ∨ SqT K H a xs := by
  cases e : H a with
  | none => rw [e] at h; cases h
  | some o =>
    rw [e] at h
    cases o with
    | lst ys => cases h; exact .inl (SqL.of e)
    | tup ys => cases h; exact .inr (SqT.of e)
    | _ => cases h
theorem atI_0 {α : Type} {a : α} {r : List α} : atI (a :: r) 0 = some a := atI_nat (j := 0) rfl
theorem atI_1 {α : Type} {a b : α} {r : List α} : atI (a :: b :: r) 1 = some b := atI_nat (j := 1) rfl
theorem atI_2 {α : Type} {a b c : α} {r : List α} : atI (a :: b :: c :: r) 2 = some c := atI_nat (j := 2) rfl
theorem atI_3 {α : Type} {a b c d : α} {r : List α} : atI (a :: b :: c :: d :: r) 3 = some d := atI_nat (j := 3) rfl
theorem atI_4 {α : Type} {a b c d e : α} {r : List α} : atI (a :: b :: c :: d :: e :: r) 4 = some e := atI_nat (j := 4) rfl
section
variable {X : Cx}
noncomputable def rIxF : R2 := fun x y H Q => ∃ p xs i v, x = .ref p ∧ y = .int i ∧ itemsOf (H p) = some xs ∧ atI xs i = some v ∧ Q v H
theorem ixF : IxR X rIxF := by
  intro value slice pins s σ H x y v u Q I rx ry h hs
  obtain ⟨p, xs, i, z, rfl, rfl, e, hz, q⟩ := h
  rcases itemsOf_sq (K := X.K) e with hq | hq
  · exact ix_list value slice pins s σ H _ _ v u Q I rx ry ⟨p, xs, i, z, rfl, rfl, hq, hz, q⟩ hs
  · exact ix_tup value slice pins s σ H _ _ v u Q I rx ry ⟨p, xs, i, z, rfl, rfl, hq, hz, q⟩ hs
theorem lenF : CallR X (.builtin "len") (fun xs H Q => ∃ p ys, xs = [.ref p] ∧ itemsOf (H p) = some ys ∧ Q (.int ys.length) H) := by
  intro pins s σ H xs us Q I r h
  obtain ⟨p, ys, rfl, e, q⟩ := h
  exact call_len_seq pins s σ H _ us Q I r ⟨p, ys, rfl, itemsOf_sq e, q⟩
/-- xs[lo:hi] of a list -/
theorem slLF : SlR X (fun x lo hi H Q => ∃ a xs, x = .ref a ∧ H a = some (.lst xs) ∧ ∀ p, H p = none → Q (.ref p) (upd H p (.lst (cutV xs lo hi)))) := by
  intro pins s σ H x v vl vu lo hi sl Q I rx hs pl pu h
  obtain ⟨a, xs, rfl, e, q⟩ := h
  exact sl_list pins s σ H _ v vl vu lo hi sl Q I rx hs pl pu ⟨a, xs, rfl, SqL.of e, q⟩
end
/-- what a loop wants of its iterator -/
noncomputable def ForW (J : It) (g : TG) (tb : TS) (D : Ends) (σ : St) (H : Hp) : Prop :=
  ∃ W : Nat → Nat → St → Hp → Prop, (∃ m, W 0 m σ H) ∧ ∀ i m σ H, W i m σ H →
    (J.stop i H ∧ D.nx σ H) ∨ (J.go i H ∧ ∃ N : St → Hp → Prop, (∀ σ' H', N σ' H' → ∃ m', m' < m ∧ W (i + 1) m' σ' H') ∧ ∀ x H', J.yld i H x H' → g x σ H' fun σ2 H2 => tb { D with nx := N, ct := N, bk := D.nx } σ2 H2)
theorem forR {lo : Int} {n : Nat} {g : TG} {tb : TS} {D : Ends} {σ : St} {H : Hp} (Pv : Nat → St → Hp → Prop) (h0 : Pv 0 σ H)
    (hs : ∀ i σ H, i < n → Pv i σ H → g (.int (lo + i)) σ H fun σ2 H2 => tb { D with nx := Pv (i + 1), ct := Pv (i + 1), bk := D.nx } σ2 H2) (hd : ∀ σ H, Pv n σ H → D.nx σ H) : ForW (Itr lo n) g tb D σ H := for_range Pv h0 hs hd
theorem a_tFor {wi : TI} {g : TG} {tb : TS} {D : Ends} {σ : St} {H : Hp} : tFor wi g tb D σ H = wi σ H fun J H1 => ForW J g tb D σ H1 := rfl
theorem Same.new {H0 H : Hp} (S : Same H0 H) {p : Addr} (n : H p = none) (o : HO) : Same H0 (upd H p o) := S.trans (same_new n o)
/-- a list that is new since H0 is written -/
theorem Same.put {H0 H : Hp} (S : Same H0 H) {p : Addr} (n : H0 p = none) (o : HO) : Same H0 (upd H p o) := fun b u h => by
  rw [upd_ne (ne_of_none h n)]; exact S b u h
theorem Same.old {H0 H : Hp} (S : Same H0 H) {p : Addr} (n : H p = none) : H0 p = none := by
  cases e : H0 p with
  | none => rfl
  | some o => rw [S p o e] at n; cases n
theorem Dt.new {H : Hp} {d : D} {v : V} (h : Dt H d v) {p : Addr} (n : H p = none) (o : HO) : Dt (upd H p o) d v := h.same (same_new n o)
theorem Dt.tup {H : Hp} {ds : List D} {vs : List V} {a : Addr} (e : H a = some (.tup vs)) (h : Dts H ds vs) : Dt H (.tup ds) (.ref a) := by
  simp only [Dt]; exact ⟨a, vs, rfl, e, h⟩
theorem Dt.lst {H : Hp} {ds : List D} {vs : List V} {a : Addr} (e : H a = some (.lst vs)) (h : Dts H ds vs) : Dt H (.lst ds) (.ref a) := by
  simp only [Dt]; exact ⟨a, vs, rfl, e, h⟩
theorem isD_tup {H : Hp} {ds : List D} {v : V} : Dt H (.tup ds) v ↔ ∃ a vs, v = .ref a ∧ H a = some (.tup vs) ∧ Dts H ds vs := by simp only [Dt]
theorem isDs_nil {H : Hp} {vs : List V} : Dts H [] vs ↔ vs = [] := by simp only [Dts]
theorem isDs_cons {H : Hp} {d : D} {ds : List D} {vs : List V} : Dts H (d :: ds) vs ↔ ∃ v r, vs = v :: r ∧ Dt H d v ∧ Dts H ds r := by simp only [Dts]
theorem isD_int {H : Hp} {i : Int} {v : V} : Dt H (.int i) v ↔ v = .int i := by simp only [Dt]
theorem isD_str {H : Hp} {x : Str} {v : V} : Dt H (.str x) v ↔ v = .str x := by simp only [Dt]
theorem isD_bl {H : Hp} {b : Bool} {v : V} : Dt H (.bl b) v ↔ v = .bl b := by simp only [Dt]
theorem isD_non {H : Hp} {v : V} : Dt H .non v ↔ v = .non := by simp only [Dt]
theorem Dts.of_str {H : Hp} : ∀ {ns : List Str} {vs : List V}, Dts H (ns.map D.str) vs → vs = ns.map V.str
  | [], vs, h => by simpa only [List.map_nil, Dts] using h
  | n :: r, vs, h => by
    simp only [List.map_cons, Dts] at h
    obtain ⟨v, t, rfl, h1, h2⟩ := h
    rw [isD_str.mp h1, Dts.of_str h2]; rfl
theorem cxOf_K {CX : CXT} {P : Program} {w : World} {K : PySem.W.Frag} {mg : Str → Option Value} {base : Heap} {N : List Str} {qual : Str} {scope : Scope} {f : Addr} {cd : Value} {A : Around} {outer : List Env} {s : Shared} {H : Hp} {E : XK} :
    (cxOf CX P w K mg base N qual scope f cd A outer s H E).K = K := rfl
theorem blk_K {X : Cx} {N : List Str} {scope : Scope} {C : Addr} {s : Shared} {H : Hp} {ex : List Addr} : (blk X N scope C s H ex).K = X.K := rfl
theorem cm_l {i j : Int} (h1 : -18446744073709551616 < i) (h2 : i < 18446744073709551616) : CMul i j := .inl ⟨h1, h2⟩
theorem cm_r {i j : Int} (h1 : -18446744073709551616 < j) (h2 : j < 18446744073709551616) : CMul i j := .inr ⟨h1, h2⟩
theorem ex_len {K : PySem.W.Frag} {H : Hp} {a : Addr} {xs : List V} {R : List V → Prop} (h : SqL K H a xs) (q : R xs) : ∃ x, (SqL K H a x ∨ SqT K H a x) ∧ R x := ⟨xs, .inl h, q⟩
theorem ex_at {K : PySem.W.Frag} {H : Hp} {a : Addr} {xs : List V} {i : Int} {v : V} {R : V → Prop} (h : SqL K H a xs) (e : atI xs i = some v) (q : R v) : ∃ x, SqL K H a x ∧ ∃ y, atI x i = some y ∧ R y := ⟨xs, h, v, e, q⟩
end L2

/-! ### the readings, each at its arguments -/
namespace L2
open PySem PySem.Spec PyProof.Rows
noncomputable def tSet (i : Nat) (te : TE) : TS := fun D σ H => te σ H fun x H1 => D.nx (σ.set i (some x)) H1
theorem ps_let {X : Cx} {i : Nat} {x : Str} {e : Expr} {te : TE} {pos pos' : Pos} (hN : X.N.Nodup) (hi : X.N[i]? = some x) (hx : Loc X.env.scope x) (he : PE X e te) (hs : swapsWith e (some (.Name x pos')) pos.line X.env = pure false := by rfl) (hf : X.fn x = true ∨ X.env.scope.names.lookup x = some .local := by first | exact .inl rfl | exact .inr rfl | assumption) : PS X (.Assign [.Name x pos'] e pos) (tSet i te) := ps_set hN hi hx he hs hf
noncomputable def tSetC (i : Nat) (wi : TI) (caps : List Nat) (tc : TT) (te : TE) : TS := fun D σ H => tComp wi caps tc te σ H fun v H1 => D.nx (σ.set i (some v)) H1
theorem ps_letC {X : Cx} {scope : Scope} {x : Str} {N : List Str} {caps : List Nat} {elt iter : Expr} {px py pos spos : Pos} {ifs : List Expr} {wi : TI} {tc : TT} {te : TE} {y : Str} {i : Nat} (hcalm : X.calm = true) (S : CSc X scope x N caps) (hi : PI X (.Name x px) iter wi)
    (hc : ∀ C s H ex, PIfs (blk X N scope C s H ex) ifs tc) (he : ∀ C s H ex, PE (blk X N scope C s H ex) elt te) (hN : X.N.Nodup) (hy : X.N[i]? = some y) (hx : X.env.scope.names.lookup y = some .local)
    (hsw : swapsWith (.ListComp elt [⟨.Name x px, iter, ifs, 0⟩] scope pos) (some (.Name y py)) spos.line X.env = pure true) (hs : ∀ x, foldedSetIterable iter X.env x = pure x := by intro _; rfl) :
    PS X (.Assign [.Name y py] (.ListComp elt [⟨.Name x px, iter, ifs, 0⟩] scope pos) spos) (tSetC i wi caps tc te) := ps_comp hcalm S hi hc he hN hy hx hsw hs
theorem a_tSet {i : Nat} {te : TE} {D : Ends} {σ : St} {H : Hp} : tSet i te D σ H = te σ H fun x H1 => D.nx (σ.set i (some x)) H1 := rfl
theorem a_tSetC {i : Nat} {wi : TI} {caps : List Nat} {tc : TT} {te : TE} {D : Ends} {σ : St} {H : Hp} : tSetC i wi caps tc te D σ H = tComp wi caps tc te σ H fun v H1 => D.nx (σ.set i (some v)) H1 := rfl
theorem a_tVar {i : Nat} {σ : St} {H : Hp} {Q : VK} : tVar i σ H Q = (∃ v, σ[i]? = some (some v) ∧ Q v H) := rfl
theorem a_tC {v : V} {σ : St} {H : Hp} {Q : VK} : tC v σ H Q = (Q v H) := rfl
theorem a_tB {t : TE} {σ : St} {H : Hp} {Q : Bool → Hp → Prop} : tB t σ H Q = (t σ H fun x H1 => ∃ c, x = .bl c ∧ Q c H1) := rfl
theorem a_tAnd {t u : TT} {σ : St} {H : Hp} {Q : Bool → Hp → Prop} : tAnd t u σ H Q = (t σ H fun c H1 => if c = true then u σ H1 Q else Q false H1) := rfl
theorem a_tOr {t u : TT} {σ : St} {H : Hp} {Q : Bool → Hp → Prop} : tOr t u σ H Q = (t σ H fun c H1 => if c = true then Q true H1 else u σ H1 Q) := rfl
theorem a_tNot {t : TT} {σ : St} {H : Hp} {Q : Bool → Hp → Prop} : tNot t σ H Q = (t σ H fun c H1 => Q (!c) H1) := rfl
theorem a_tAndV {ta tb : TE} {σ : St} {H : Hp} {Q : VK} : tAndV ta tb σ H Q = (ta σ H fun x H1 => ∃ c, x = .bl c ∧ if c = true then tb σ H1 Q else Q (.bl false) H1) := rfl
theorem a_tNotV {ta : TE} {σ : St} {H : Hp} {Q : VK} : tNotV ta σ H Q = (ta σ H fun x H1 => ∃ c, x = .bl c ∧ Q (.bl (!c)) H1) := rfl
theorem a_tNext {D : Ends} {σ : St} {H : Hp} : tNext  D σ H = (D.nx σ H) := rfl
theorem a_tSeq {t u : TS} {D : Ends} {σ : St} {H : Hp} : tSeq t u D σ H = (t { D with nx := u D } σ H) := rfl
theorem a_tDrop {te : TE} {D : Ends} {σ : St} {H : Hp} : tDrop te D σ H = (te σ H fun _ H1 => D.nx σ H1) := rfl
theorem a_tRet {te : TE} {D : Ends} {σ : St} {H : Hp} : tRet te D σ H = (te σ H D.rt) := rfl
theorem a_tIfS {c : TT} {t u : TS} {D : Ends} {σ : St} {H : Hp} : tIfS c t u D σ H = (c σ H fun b H1 => if b = true then t D σ H1 else u D σ H1) := rfl
theorem a_gName {i : Nat} {v : V} {σ : St} {H : Hp} {Q : St → Hp → Prop} : gName i v σ H Q = (Q (σ.set i (some v)) H) := rfl
theorem a_gNil {vs : List V} {σ : St} {H : Hp} {Q : St → Hp → Prop} : gNil  vs σ H Q = (vs = [] ∧ Q σ H) := rfl
theorem a_gCons {t : TG} {u : TGs} {vs : List V} {σ : St} {H : Hp} {Q : St → Hp → Prop} : gCons t u vs σ H Q = (∃ v r, vs = v :: r ∧ t v σ H fun σ' H' => u r σ' H' Q) := rfl
theorem a_gTup {K : PySem.W.Frag} {n : Nat} {t : TGs} {v : V} {σ : St} {H : Hp} {Q : St → Hp → Prop} : gTup K n t v σ H Q = (∃ a xs, v = .ref a ∧ SqT K H a xs ∧ xs.length = n ∧ t xs σ H Q) := rfl
theorem a_gSub {to ti : TE} {t : TSet} {v : V} {σ : St} {H : Hp} {Q : St → Hp → Prop} : gSub to ti t v σ H Q = (to σ H fun o H1 => ti σ H1 fun i H2 => t o i v H2 fun H3 => Q σ H3) := rfl
theorem a_tAsg {te : TE} {g : TG} {D : Ends} {σ : St} {H : Hp} : tAsg te g D σ H = (te σ H fun x H1 => g x σ H1 D.nx) := rfl
theorem a_iRng1 {ta : TA} {σ : St} {H : Hp} {R : It → Hp → Prop} : iRng1 ta σ H R = (ta σ H fun vs H1 => ∃ j : Int, vs = [.int j] ∧ -(2 ^ 62) ≤ j ∧ j < 2 ^ 62 ∧ R (Itr 0 j.toNat) H1) := rfl
theorem a_tOp {r : R2} {ta tb : TE} {σ : St} {H : Hp} {Q : VK} : tOp r ta tb σ H Q = (ta σ H fun x H1 => tb σ H1 fun y H2 => r x y H2 Q) := rfl
theorem a_rI {C : Int → Int → Prop} {g : Int → Int → V} {x y : V} {H : Hp} {Q : VK} : rI C g x y H Q = (∃ i j, x = .int i ∧ y = .int j ∧ C i j ∧ Q (g i j) H) := rfl
theorem a_rI0 {g : Int → Int → V} {x y : V} {H : Hp} {Q : VK} : rI0 g x y H Q = (∃ i j, x = .int i ∧ y = .int j ∧ Q (g i j) H) := rfl
theorem a_rEq {x y : V} {H : Hp} {Q : VK} : rEq  x y H Q = (scal x y = true ∧ Q (.bl (decide (x = y))) H) := rfl
theorem a_rNe {x y : V} {H : Hp} {Q : VK} : rNe  x y H Q = (scal x y = true ∧ Q (.bl (!decide (x = y))) H) := rfl
theorem a_tTest {t : TE} {σ : St} {H : Hp} {Q : Bool → Hp → Prop} : tTest t σ H Q = (t σ H fun x H' => ∃ k, x = .bl k ∧ Q k H') := rfl
theorem a_tChain {r r' : R2} {ta tb tc : TE} {σ : St} {H : Hp} {Q : VK} : tChain r r' ta tb tc σ H Q = (ta σ H fun x H1 => tb σ H1 fun y H2 => r x y H2 fun z H3 => ∃ k, z = .bl k ∧   (if k = true then tc σ H3 fun w' H4 => r' y w' H4 Q else Q (.bl false) H3)) := rfl
theorem a_tNil {σ : St} {H : Hp} {Q : List V → Hp → Prop} : tNil  σ H Q = (Q [] H) := rfl
theorem a_tCons {ta : TE} {tr : TA} {σ : St} {H : Hp} {Q : List V → Hp → Prop} : tCons ta tr σ H Q = (ta σ H fun x H1 => tr σ H1 fun xs H2 => Q (x :: xs) H2) := rfl
theorem a_tCall {sp : Sp} {dvs : List V} {E : XK} {t : TA} {σ : St} {H : Hp} {Q : VK} : tCall sp dvs E t σ H Q = (t σ H fun vs H1 => sp (vs ++ dvs) H1 Q E) := rfl
theorem a_tCB {r : List V → Hp → VK → Prop} {t : TA} {σ : St} {H : Hp} {Q : VK} : tCB r t σ H Q = (t σ H fun vs H1 => r vs H1 Q) := rfl
theorem a_tNoPart {σ : St} {H : Hp} {Q : Option Int → Hp → Prop} : tNoPart  σ H Q = (Q none H) := rfl
theorem a_tPart {t : TE} {σ : St} {H : Hp} {Q : Option Int → Hp → Prop} : tPart t σ H Q = (t σ H fun x H1 => ∃ i, x = .int i ∧ Q (some i) H1) := rfl
theorem a_tSl {r : V → Option Int → Option Int → Hp → VK → Prop} {te : TE} {tl th : TO} {σ : St} {H : Hp} {Q : VK} : tSl r te tl th σ H Q = (te σ H fun x H1 => tl σ H1 fun l H2 => th σ H2 fun u H3 => r x l u H3 Q) := rfl
theorem a_rIxL {K : PySem.W.Frag} {x y : V} {H : Hp} {Q : VK} : rIxL K x y H Q = (∃ p xs i v, x = .ref p ∧ y = .int i ∧ SqL K H p xs ∧ atI xs i = some v ∧ Q v H) := rfl
theorem a_rIxS {x y : V} {H : Hp} {Q : VK} : rIxS  x y H Q = (∃ z i c, x = .str z ∧ y = .int i ∧ z.length ≤ sizeLine ∧ atI z.cps.toList i = some c ∧ Q (.str ⟨#[c]⟩) H) := rfl
theorem a_tBM {K : PySem.W.Frag} {T : String} {r : V → List V → Hp → VK → Prop} {to : TE} {t : TA} {σ : St} {H : Hp} {Q : VK} : tBM K T r to t σ H Q = (to σ H fun x H1 => tyV K T x H1 ∧ t σ H1 fun xs H2 => r x xs H2 Q) := rfl
theorem a_tDGet {td ty : TE} {σ : St} {H : Hp} {Q : VK} : tDGet td ty σ H Q = (td σ H fun x H1 => ty σ H1 fun y H2 => ∃ a v, x = .ref a ∧ DGet H2 a y (some v) ∧ Q v H2) := rfl
theorem a_tDNotIn {ty td : TE} {σ : St} {H : Hp} {Q : VK} : tDNotIn ty td σ H Q = (ty σ H fun y H1 => td σ H1 fun x H2 => ∃ a o, x = .ref a ∧ DGet H2 a y o ∧ Q (.bl (!o.isSome)) H2) := rfl
theorem a_tYes {σ : St} {H : Hp} {Q : Bool → Hp → Prop} : tYes  σ H Q = (Q true H) := rfl
theorem a_tComp {wi : TI} {caps : List Nat} {tc : TT} {te : TE} {σ : St} {H : Hp} {Q : VK} : tComp wi caps tc te σ H Q = (wi σ H fun J H1 => wComp J caps tc te σ H1 Q) := rfl
theorem a_rJoin {K : PySem.W.Frag} {x : V} {xs : List V} {H : Hp} {Q : VK} : rJoin K x xs H Q = (∃ sep a ys, x = .str sep ∧ xs = [.ref a] ∧ (SqL K H a (ys.map V.str) ∨ SqT K H a (ys.map V.str)) ∧ (ys.map (·.length)).sum + ys.length * sep.length ≤ 16777216 ∧ Q (.str (Txt.join sep ys)) H) := rfl
theorem a_rEqD {x y : V} {H : Hp} {Q : VK} : rEqD  x y H Q = (∃ d e, Dt H d x ∧ Dt H e y ∧ d.dp ≤ 150 ∧ Q (.bl (D.eq d e)) H) := rfl
theorem a_rNeD {x y : V} {H : Hp} {Q : VK} : rNeD  x y H Q = (∃ d e, Dt H d x ∧ Dt H e y ∧ d.dp ≤ 150 ∧ Q (.bl (!D.eq d e)) H) := rfl
theorem a_rIsi {xs : List V} {H : Hp} {Q : VK} : rIsi  xs H Q = (∃ x n t, xs = [x, .ty n] ∧ TyN H x t ∧ n ∈ ["bool", "int", "str", "list", "tuple", "dict"] ∧ Q (.bl (isiB t n)) H) := rfl
theorem a_rCatD {x y : V} {H : Hp} {Q : VK} : rCatD  x y H Q = (∃ a b xs ys, x = .ref a ∧ y = .ref b ∧ H a = some (.tup xs) ∧ H b = some (.tup ys) ∧ xs.length + ys.length ≤ sizeLine ∧   ∀ p H', Same H H' → H' p = some (.tup (xs ++ ys)) → Q (.ref p) H') := rfl
theorem a_rIxF {x y : V} {H : Hp} {Q : VK} : rIxF  x y H Q = (∃ p xs i v, x = .ref p ∧ y = .int i ∧ itemsOf (H p) = some xs ∧ atI xs i = some v ∧ Q v H) := rfl
theorem scal_ii {i j : Int} : (scal (.int i) (.int j) = true) = True := eq_true rfl
theorem scal_ss {i j : Str} : (scal (.str i) (.str j) = true) = True := eq_true rfl
theorem scal_bb {i j : Bool} : (scal (.bl i) (.bl j) = true) = True := eq_true rfl
end L2

namespace L2
open PySem PySem.Spec PyProof.Rows
/-! ### new objects and writes, the heap behind them a letter -/
noncomputable def NewO (H : Hp) (o : HO) (Q : VK) : Prop := ∀ p, H p = none → Q (.ref p) (upd H p o)
theorem NewO.mk {H : Hp} {o : HO} {Q : VK} (h : ∀ p H', Same H H' → H p = none → H' p = some o → Q (.ref p) H') : NewO H o Q := fun p hp => h p _ (same_new hp o) hp upd_same
noncomputable def PutO (H : Hp) (l : Addr) (o : HO) (R : Hp → Prop) : Prop := R (upd H l o)
theorem PutO.mk {H : Hp} {l : Addr} {o : HO} {R : Hp → Prop} (h : ∀ H', (∀ b, b ≠ l → H' b = H b) → H' l = some o → R H') : PutO H l o R := h _ (fun b hb => upd_ne hb) upd_same
theorem b_tTup {t : TA} {σ : St} {H : Hp} {Q : VK} : tTup t σ H Q = (t σ H fun xs H1 => xs.length ≤ sizeLine ∧ NewO H1 (.tup xs) Q) := rfl
theorem b_tLst {t : TA} {σ : St} {H : Hp} {Q : VK} : tLst t σ H Q = (t σ H fun xs H1 => xs.length ≤ sizeLine ∧ NewO H1 (.lst xs) Q) := rfl
theorem b_rAppend {x : V} {vs : List V} {H : Hp} {Q : VK} : rAppend x vs H Q = (∃ l xs y, x = .ref l ∧ vs = [y] ∧ H l = some (.lst xs) ∧ xs.length < sizeLine ∧ PutO H l (.lst (xs ++ [y])) (Q .non)) := rfl
theorem b_rExtend {x : V} {vs : List V} {H : Hp} {Q : VK} : rExtend x vs H Q = (∃ l b xs zs, x = .ref l ∧ vs = [.ref b] ∧ H l = some (.lst xs) ∧ H b = some (.lst zs) ∧ xs.length + zs.length ≤ sizeLine ∧ PutO H l (.lst (xs ++ zs)) (Q .non)) := rfl
theorem b_rCat {x y : V} {H : Hp} {Q : VK} : rCat x y H Q = (∃ l b xs zs, x = .ref l ∧ y = .ref b ∧ H l = some (.lst xs) ∧ H b = some (.lst zs) ∧ xs.length + zs.length ≤ sizeLine ∧ NewO H (.lst (xs ++ zs)) Q) := rfl
theorem b_rRep {x y : V} {H : Hp} {Q : VK} : rRep x y H Q = (∃ l k xs, x = .ref l ∧ y = .int k ∧ H l = some (.lst xs) ∧ -(2 ^ 63) ≤ k ∧ k < 2 ^ 63 ∧ xs.length * k.toNat ≤ sizeLine ∧ NewO H (.lst (List.replicate k.toNat xs).flatten) Q) := rfl
theorem b_rSetL {o i v : V} {H : Hp} {Q : Hp → Prop} : rSetL o i v H Q = (∃ p xs k j, o = .ref p ∧ i = .int k ∧ H p = some (.lst xs) ∧ ixN xs.length k = some j ∧ PutO H p (.lst (xs.set j v)) Q) := rfl
noncomputable def rSlLF : V → Option Int → Option Int → Hp → VK → Prop := fun x lo hi H Q => ∃ a xs, x = .ref a ∧ H a = some (.lst xs) ∧ NewO H (.lst (cutV xs lo hi)) Q
theorem slLG {X : Cx} : SlR X rSlLF := slLF
theorem a_rSlLF {x : V} {lo hi : Option Int} {H : Hp} {Q : VK} : rSlLF x lo hi H Q = (∃ a xs, x = .ref a ∧ H a = some (.lst xs) ∧ NewO H (.lst (cutV xs lo hi)) Q) := rfl
noncomputable def rLenF : List V → Hp → VK → Prop := fun xs H Q => ∃ p ys, xs = [.ref p] ∧ itemsOf (H p) = some ys ∧ Q (.int ys.length) H
theorem lenG {X : Cx} : CallR X (.builtin "len") rLenF := lenF
theorem a_rLenF {xs : List V} {H : Hp} {Q : VK} : rLenF xs H Q = (∃ p ys, xs = [.ref p] ∧ itemsOf (H p) = some ys ∧ Q (.int ys.length) H) := rfl
theorem items_l {H : Hp} {a : Addr} {xs : List V} (h : H a = some (.lst xs)) : itemsOf (H a) = some xs := by rw [h]; rfl
theorem items_t {H : Hp} {a : Addr} {xs : List V} (h : H a = some (.tup xs)) : itemsOf (H a) = some xs := by rw [h]; rfl
theorem Same.put_new {H0 H H' : Hp} {l : Addr} (S : Same H0 H) (n : H0 l = none) (k : ∀ b, b ≠ l → H' b = H b) : Same H0 H' := fun b o e => by
  rw [k b (ne_of_none e n)]; exact S b o e
theorem Dt.of_put {H H' : Hp} {l : Addr} {xs : List V} {d : D} {v : V} (hl : H l = some (.lst xs)) (k : ∀ b, b ≠ l → H' b = H b) (n : d.nl = true) (h : Dt H d v) : Dt H' d v :=
  h.tups (fun b ys e => by rw [k b (ne_of e hl (by intro z; cases z))]; exact e) n
theorem Dts.of_put {H H' : Hp} {l : Addr} {xs : List V} {d : List D} {v : List V} (hl : H l = some (.lst xs)) (k : ∀ b, b ≠ l → H' b = H b) (n : D.nls d = true) (h : Dts H d v) : Dts H' d v :=
  h.tups (fun b ys e => by rw [k b (ne_of e hl (by intro z; cases z))]; exact e) n
/-! ### trees, places -/
noncomputable abbrev Tree := M.Tr Str
noncomputable def dT : Tree → D
  | .leaf x => .tup [.str "leaf", .str x]
  | .knot f l r => .tup [.str "knot", .str f, dT l, dT r]
noncomputable def vP (p : List Nat) : List V := p.map fun (i : Nat) => .int (i : Int)
noncomputable def dP (p : List Nat) : D := .tup (p.map fun (i : Nat) => .int (i : Int))
noncomputable def dO : Option (List Nat) → D
  | none => .non
  | some p => dP p
theorem dT_nl (t : Tree) : (dT t).nl = true := by
  induction t with
  | leaf x => simp [dT, D.nl, D.nls]
  | knot f l r ihl ihr => simp [dT, D.nl, D.nls, ihl, ihr]
theorem ints_nls (p : List Nat) : D.nls (p.map fun (i : Nat) => D.int (i : Int)) = true := by
  induction p with
  | nil => rfl
  | cons i p ih => simp [D.nls, D.nl, ih]
theorem ints_cls (p : List Nat) : D.cls (p.map fun (i : Nat) => D.int (i : Int)) = true := by
  induction p with
  | nil => rfl
  | cons i p ih => simp [D.cls, D.cl, ih]
theorem ints_dps (p : List Nat) : D.dps (p.map fun (i : Nat) => D.int (i : Int)) = 0 := by
  induction p with
  | nil => rfl
  | cons i p ih => simp [D.dps, D.dp, ih]
theorem dP_nl (p : List Nat) : (dP p).nl = true := by simp only [dP, D.nl]; exact ints_nls p
theorem dP_cl (p : List Nat) : (dP p).cl = true := by simp only [dP, D.cl]; exact ints_cls p
theorem dP_dp (p : List Nat) : (dP p).dp = 1 := by simp only [dP, D.dp, ints_dps]
theorem dO_cl (o : Option (List Nat)) : (dO o).cl = true := by cases o <;> simp [dO, dP_cl, D.cl]
theorem dO_nl (o : Option (List Nat)) : (dO o).nl = true := by cases o <;> simp [dO, dP_nl, D.nl]
theorem dO_dp (o : Option (List Nat)) : (dO o).dp ≤ 1 := by cases o <;> simp [dO, dP_dp, D.dp]
theorem ints_inj : ∀ {p q : List Nat}, (p.map fun (i : Nat) => D.int (i : Int)) = (q.map fun (i : Nat) => D.int (i : Int)) → p = q
  | [], [], _ => rfl
  | [], _ :: _, h => by simp at h
  | _ :: _, [], h => by simp at h
  | i :: p, j :: q, h => by
    simp only [List.map_cons, List.cons.injEq, D.int.injEq] at h
    rw [ints_inj h.2]
    have : i = j := by omega
    rw [this]
theorem dP_inj {p q : List Nat} (h : dP p = dP q) : p = q := by
  simp only [dP, D.tup.injEq] at h
  exact ints_inj h
theorem dO_inj {p q : Option (List Nat)} (h : dO p = dO q) : p = q := by
  cases p <;> cases q <;> simp only [dO] at h
  · rfl
  · simp [dP] at h
  · simp [dP] at h
  · rw [dP_inj h]
theorem Dts.ints {H : Hp} : ∀ {p : List Nat} {vs : List V}, Dts H (p.map fun (i : Nat) => D.int (i : Int)) vs → vs = vP p
  | [], vs, h => by
    simp only [List.map_nil, Dts] at h
    exact h
  | i :: p, vs, h => by
    simp only [List.map_cons, Dts] at h
    obtain ⟨v, r, rfl, h1, h2⟩ := h
    rw [isD_int.mp h1, Dts.ints h2]; rfl
theorem Dts.ofInts {H : Hp} : ∀ {p : List Nat}, Dts H (p.map fun (i : Nat) => D.int (i : Int)) (vP p)
  | [] => by simp only [List.map_nil, Dts, vP]
  | i :: p => Dts.cons (isD_int.mpr rfl) Dts.ofInts
theorem dP_of {H : Hp} {p : List Nat} {v : V} (h : Dt H (dP p) v) : ∃ a, v = .ref a ∧ H a = some (.tup (vP p)) := by
  obtain ⟨a, vs, rfl, e, h⟩ := isD_tup.mp h
  rw [Dts.ints h] at e
  exact ⟨a, rfl, e⟩
theorem dP_mk {H : Hp} {p : List Nat} {a : Addr} (e : H a = some (.tup (vP p))) : Dt H (dP p) (.ref a) := Dt.tup e Dts.ofInts
theorem dT_leaf {H : Hp} {x : Str} {v : V} (h : Dt H (dT (.leaf x)) v) : ∃ a, v = .ref a ∧ H a = some (.tup [.str "leaf", .str x]) := by
  simp only [dT] at h
  obtain ⟨a, vs, rfl, e, h⟩ := isD_tup.mp h
  obtain ⟨v1, r, rfl, h1, h⟩ := isDs_cons.mp h
  obtain ⟨v2, r, rfl, h2, h⟩ := isDs_cons.mp h
  rw [isDs_nil.mp h, isD_str.mp h1, isD_str.mp h2] at e
  exact ⟨a, rfl, e⟩
theorem dT_knot {H : Hp} {f : Str} {l r : Tree} {v : V} (h : Dt H (dT (.knot f l r)) v) : ∃ a vl vr, v = .ref a ∧ H a = some (.tup [.str "knot", .str f, vl, vr]) ∧ Dt H (dT l) vl ∧ Dt H (dT r) vr := by
  simp only [dT] at h
  obtain ⟨a, vs, rfl, e, h⟩ := isD_tup.mp h
  obtain ⟨v1, r1, rfl, h1, h⟩ := isDs_cons.mp h
  obtain ⟨v2, r2, rfl, h2, h⟩ := isDs_cons.mp h
  obtain ⟨v3, r3, rfl, h3, h⟩ := isDs_cons.mp h
  obtain ⟨v4, r4, rfl, h4, h⟩ := isDs_cons.mp h
  rw [isDs_nil.mp h, isD_str.mp h1, isD_str.mp h2] at e
  exact ⟨a, v3, v4, rfl, e, h3, h4⟩
theorem leaf_mk {H : Hp} {x : Str} {a : Addr} (e : H a = some (.tup [.str "leaf", .str x])) : Dt H (dT (.leaf x)) (.ref a) := Dt.tup e (.cons (isD_str.mpr rfl) (.cons (isD_str.mpr rfl) .nil))
theorem knot_mk {H : Hp} {f : Str} {l r : Tree} {a : Addr} {vl vr : V} (e : H a = some (.tup [.str "knot", .str f, vl, vr])) (hl : Dt H (dT l) vl) (hr : Dt H (dT r) vr) : Dt H (dT (.knot f l r)) (.ref a) :=
  Dt.tup e (.cons (isD_str.mpr rfl) (.cons (isD_str.mpr rfl) (.cons hl (.cons hr .nil))))
/-- the tuple and its first two items -/
theorem dT_any {H : Hp} {t : Tree} {v : V} (h : Dt H (dT t) v) : ∃ a r, v = .ref a ∧ H a = some (.tup (.str (if t.isL then "leaf" else "knot") :: .str t.name :: r)) := by
  cases t with
  | leaf x => obtain ⟨a, rfl, e⟩ := dT_leaf h; exact ⟨a, _, rfl, e⟩
  | knot f l r => obtain ⟨a, vl, vr, rfl, e, _⟩ := dT_knot h; exact ⟨a, _, rfl, e⟩
theorem Dts.map_of {α : Type} {H : Hp} {f : α → D} : ∀ {l : List α} {vs : List V} {i : Nat} {x : α}, Dts H (l.map f) vs → l[i]? = some x → ∃ v, vs[i]? = some v ∧ Dt H (f x) v := fun h e => h.get (by rw [List.getElem?_map, e]; rfl)
/-! ### names -/
noncomputable def nmS (c : Int) (many k : Nat) : Str := ⟨(M.nm c many k).toArray⟩
theorem sign_cat (a : List Nat) (b : List Nat) : (Str.mk a.toArray) ++ (Str.mk b.toArray) = Str.mk (a ++ b).toArray := by
  show Str.append _ _ = _
  simp [Str.append]
theorem join_signs : ∀ l : List Nat, Str.join (⟨#[]⟩ : Str) (l.map fun c => (⟨#[c]⟩ : Str)) = ⟨l.toArray⟩
  | [] => rfl
  | [c] => rfl
  | c :: d :: l => by
    have ih := join_signs (d :: l)
    show (⟨#[c]⟩ : Str) ++ (⟨#[]⟩ : Str) ++ Str.join ⟨#[]⟩ ((d :: l).map fun c => (⟨#[c]⟩ : Str)) = _
    rw [ih]
    have e : (⟨#[c]⟩ : Str) ++ (⟨#[]⟩ : Str) = Str.mk [c].toArray := by show Str.append _ _ = _; simp [Str.append]
    rw [e, sign_cat]; rfl
theorem join_signs' (l : List Nat) : Txt.join (Str.ofString "") (l.map fun c => (⟨#[c]⟩ : Str)) = ⟨l.toArray⟩ := by
  show Builtin.Str.glued _ _ = _
  rw [StrLaws.glued_eq_join]
  have : Str.ofString "" = (⟨#[]⟩ : Str) := by decide +kernel
  rw [this]; exact join_signs l

/-- what the script's trees are -/
structure TreeOf (many : Nat) (t : Tree) (c c' : Int) : Prop where
  perm : t.lv.Perm ((List.range many).map (nmS c many))
  kn : ∀ f ∈ t.kn, f ∈ (List.range 3).map (nmS c' 3)
  dp : t.dp ≤ 24
theorem nmS_inj {c : Int} {many i j : Nat} (hm : many ≤ 32) (hi : i < many) (hj : j < many) (h : nmS c many i = nmS c many j) : i = j := by
  unfold nmS at h
  simp only [Str.mk.injEq, Array.mk.injEq] at h
  exact M.nm_inj hm hi hj (by simpa using h)
namespace TreeOf
variable {many : Nat} {t : Tree} {c c' : Int}
theorem len (h : TreeOf many t c c') : t.lv.length = many := by rw [h.perm.length_eq]; simp
theorem nodup (h : TreeOf many t c c') (hm : many ≤ 32) : t.lv.Nodup := h.perm.nodup_iff.mpr (M.range_map_nodup fun _ _ hi hj e => nmS_inj hm hi hj e)
end TreeOf

/-! ### places in lists -/
theorem atI_int {α : Type} {xs : List α} {i : Int} {v : α} (h0 : 0 ≤ i) (h : xs[i.toNat]? = some v) : atI xs i = some v := by
  have e : i = ((i.toNat : Nat) : Int) := by omega
  rw [e]; exact atI_nat h
theorem ixN_int {n : Nat} {i : Int} (h0 : 0 ≤ i) (h : i < n) : ixN n i = some i.toNat := by unfold ixN; rw [if_pos h0, if_pos h]
theorem cutV_to {xs : List V} {p : Nat} (h : p ≤ xs.length) : cutV xs none (some (p : Int)) = xs.take p := by
  have e1 : HT.sIx xs.length 0 none = 0 := rfl
  have e2 : HT.sIx xs.length xs.length (some (p : Int)) = p := by rw [HT.sIx_nat]; omega
  unfold cutV
  rw [e1, e2]; simp
theorem cutV_from {xs : List V} {p : Nat} (h : p ≤ xs.length) : cutV xs (some (p : Int)) none = xs.drop p := by
  have e1 : HT.sIx xs.length xs.length none = xs.length := rfl
  have e2 : HT.sIx xs.length 0 (some (p : Int)) = p := by rw [HT.sIx_nat]; omega
  unfold cutV
  rw [e1, e2, List.take_of_length_le (by simp)]

noncomputable def rIntB : List V → Hp → VK → Prop := fun xs H Q => ∃ k, xs = [.bl k] ∧ Q (.int (if k then 1 else 0)) H
theorem call_intB {X : Cx} : CallR X (.type "int") rIntB := fun pins s σ H xs us Q I r h => call_int1 pins s σ H xs us Q I r (.inr h)
theorem a_rIntB {xs : List V} {H : Hp} {Q : VK} : rIntB xs H Q = (∃ k, xs = [.bl k] ∧ Q (.int (if k then 1 else 0)) H) := rfl
noncomputable abbrev LETT : Str := Str.ofString "abcdefghijklmnopqrstuvwxyz"
theorem lett_list : LETT.cps.toList = (List.range 26).map (97 + ·) := by decide +kernel
theorem lett_at {i : Int} (h0 : 0 ≤ i) (h : i < 26) : atI LETT.cps.toList i = some (97 + i.toNat) := by
  refine atI_int h0 ?_
  rw [lett_list, List.getElem?_map, List.getElem?_range (by omega)]; rfl
theorem lett_big : LETT.length ≤ sizeLine := by
  have : LETT.length = 26 := by
    have e := congrArg List.length lett_list
    simpa [Str.length] using e
  rw [this]; decide
theorem lett_c (c : Int) : atI LETT.cps.toList (c % 26) = some (M.let26 c) := lett_at (by omega) (by omega)
theorem rep_one {α : Type} (n : Nat) (x : α) : (List.replicate n [x]).flatten = List.replicate n x := by
  induction n with
  | zero => rfl
  | succ n ih => simp [List.replicate_succ, ih]

theorem ty_str {K : PySem.W.Frag} {z : Str} {H : Hp} : (tyV K "str" (.str z) H) = True := eq_true rfl
theorem ty_lst {K : PySem.W.Frag} {H : Hp} {p : Addr} {xs : List V} (e : H p = some (.lst xs)) : tyV K "list" (.ref p) H := .inl ⟨rfl, _, SqL.of e⟩
theorem small_size {n : Nat} (h : n ≤ 100000) : n < sizeLine := Nat.lt_of_le_of_lt h (by decide)
theorem small_le {n : Nat} (h : n ≤ 100000) : n ≤ sizeLine := Nat.le_of_lt (small_size h)
theorem sum_ones : ∀ l : List Nat, ((l.map fun c => (⟨#[c]⟩ : Str)).map (fun x => x.length)).sum = l.length
  | [] => rfl
  | c :: l => by simp only [List.map_cons, List.sum_cons, sum_ones l, List.length_cons]; show 1 + l.length = _; omega
theorem app_join {K : PySem.W.Frag} {H : Hp} {p2 p5 : Addr} {xs : List V} {l : List Nat} {R : Hp → Prop} (e2 : H p2 = some (.lst xs)) (e5 : H p5 = some (.lst (l.map fun x => V.str ⟨#[x]⟩))) (hx : xs.length ≤ 1000) (hl : l.length ≤ 1000)
    (q : ∀ H', (∀ b, b ≠ p2 → H' b = H b) → H' p2 = some (.lst (xs ++ [.str ⟨l.toArray⟩])) → R H') :
    tyV K "list" (.ref p2) H ∧ ∃ x, (SqL K H p5 (x.map V.str) ∨ SqT K H p5 (x.map V.str)) ∧ (x.map (fun x => x.length)).sum + x.length * (Str.ofString "").length ≤ 16777216 ∧
      ∃ x_1, H p2 = some (.lst x_1) ∧ x_1.length < sizeLine ∧ PutO H p2 (.lst (x_1 ++ [.str (Txt.join (Str.ofString "") x)])) R := by
  refine ⟨ty_lst e2, l.map fun c => (⟨#[c]⟩ : Str), .inl (SqL.of (by rw [e5, List.map_map]; rfl)), ?_, xs, e2, small_size (by omega), PutO.mk fun H' k e => q H' k ?_⟩
  · rw [sum_ones, List.length_map]
    have : (Str.ofString "").length = 0 := by decide +kernel
    rw [this]; omega
  · rw [e, join_signs']

/-! ### loops over a list, a tuple whose kind is known -/
noncomputable def WalkL (K : PySem.W.Frag) (x : V) (H : Hp) (R : It → Hp → Prop) : Prop := ∃ a, x = .ref a ∧ (∃ xs, H a = some (.lst xs)) ∧ R (Itl K a) H
noncomputable def WalkT (K : PySem.W.Frag) (x : V) (H : Hp) (R : It → Hp → Prop) : Prop := ∃ a, x = .ref a ∧ (∃ xs, H a = some (.tup xs)) ∧ R (Itt K a) H
noncomputable def iL (K : PySem.W.Frag) (tl : TE) : TI := fun σ H R => tl σ H fun x H1 => WalkL K x H1 R
noncomputable def iT (K : PySem.W.Frag) (tl : TE) : TI := fun σ H R => tl σ H fun x H1 => WalkT K x H1 R
theorem a_iL {K : PySem.W.Frag} {tl : TE} {σ : St} {H : Hp} {R : It → Hp → Prop} : iL K tl σ H R = tl σ H fun x H1 => WalkL K x H1 R := rfl
theorem a_iT {K : PySem.W.Frag} {tl : TE} {σ : St} {H : Hp} {R : It → Hp → Prop} : iT K tl σ H R = tl σ H fun x H1 => WalkT K x H1 R := rfl
theorem PE.imp {X : Cx} {e : Expr} {t t' : TE} (h : PE X e t) (i : ∀ σ H Q, t' σ H Q → t σ H Q) : PE X e t' := fun pins s σ H Q I q => h pins s σ H Q I (i σ H Q q)
theorem piL {X : Cx} {tg l : Expr} {tl : TE} (hl : PE X l tl) : PI X tg l (iL X.K tl) := by
  intro pins s σ H R I h
  refine thn (hl pins s σ H _ I h) fun v s1 ⟨x, H1, I1, r1, q1⟩ => ?_
  obtain ⟨a, rfl, ⟨xs, ha⟩, q⟩ := q1
  cases r1
  have fp : ∀ b ∈ [s1.heap.objs.size], FpOk X pins H1 b := fun b hb => by
    have e : b = s1.heap.objs.size := by simpa using hb
    rw [e]
    exact I1.fpOk (Nat.le_refl _) (I1.hok.fresh (Nat.le_refl _))
  obtain ⟨its, rv, p, hz⟩ := I1.list (SqL.of ha)
  exact wpAny_pyIter_list p.isList ⟨_, _, _, _, H1, rfl, I1.kept (t' := s1.toks) fun b o e => Heap.get?_push_of_some _ e, turn_list a _, ⟨_, Heap.get?_push_size _ rfl, rfl, rfl⟩, fp, q⟩
theorem piT {X : Cx} {tg l : Expr} {tl : TE} (hl : PE X l tl) : PI X tg l (iT X.K tl) := by
  intro pins s σ H R I h
  refine thn (hl pins s σ H _ I h) fun v s1 ⟨x, H1, I1, r1, q1⟩ => ?_
  obtain ⟨a, rfl, ⟨xs, ha⟩, q⟩ := q1
  cases r1
  have fp : ∀ b ∈ [s1.heap.objs.size], FpOk X pins H1 b := fun b hb => by
    have e : b = s1.heap.objs.size := by simpa using hb
    rw [e]
    exact I1.fpOk (Nat.le_refl _) (I1.hok.fresh (Nat.le_refl _))
  obtain ⟨its, rv, p, hz⟩ := I1.tuple (SqT.of ha)
  exact wpAny_pyIter_tuple (show s1.heap.IsTuple a its.toArray from p) ⟨_, _, _, _, H1, rfl, I1.kept (t' := s1.toks) fun b o e => Heap.get?_push_of_some _ e, turn_tuple a _, ⟨_, Heap.get?_push_size _ rfl, rfl, rfl⟩, fp, q⟩
theorem WalkL.for {K : PySem.W.Frag} {a : Addr} {xs : List V} {g : TG} {tb : TS} {D : Ends} {σ : St} {H : Hp} (e : H a = some (.lst xs)) (Pv : Nat → St → Hp → Prop) (h0 : Pv 0 σ H) (hl : ∀ i σ H, i ≤ xs.length → Pv i σ H → H a = some (.lst xs))
    (hs : ∀ i x σ H, xs[i]? = some x → Pv i σ H → g x σ H fun σ2 H2 => tb { D with nx := Pv (i + 1), ct := Pv (i + 1), bk := D.nx } σ2 H2) (hd : ∀ σ H, Pv xs.length σ H → D.nx σ H) : WalkL K (.ref a) H fun J H1 => ForW J g tb D σ H1 :=
  ⟨a, rfl, ⟨xs, e⟩, for_list Pv h0 (fun i σ H h p => SqL.of (hl i σ H h p)) hs hd⟩
theorem WalkT.for {K : PySem.W.Frag} {a : Addr} {xs : List V} {g : TG} {tb : TS} {D : Ends} {σ : St} {H : Hp} (e : H a = some (.tup xs)) (Pv : Nat → St → Hp → Prop) (h0 : Pv 0 σ H) (hl : ∀ i σ H, i ≤ xs.length → Pv i σ H → H a = some (.tup xs))
    (hs : ∀ i x σ H, xs[i]? = some x → Pv i σ H → g x σ H fun σ2 H2 => tb { D with nx := Pv (i + 1), ct := Pv (i + 1), bk := D.nx } σ2 H2) (hd : ∀ σ H, Pv xs.length σ H → D.nx σ H) : WalkT K (.ref a) H fun J H1 => ForW J g tb D σ H1 :=
  ⟨a, rfl, ⟨xs, e⟩, for_tup Pv h0 (fun i σ H h p => SqT.of (hl i σ H h p)) hs hd⟩
/-- over a list, nothing old being changed: by what the new list's items are -/
theorem WalkL.comp {K : PySem.W.Frag} {a : Addr} {xs : List V} {caps : List Nat} {tc : TT} {te : TE} {σ : St} {H : Hp} {Q : VK} (e : H a = some (.lst xs)) (Pv : Nat → List V → Hp → Prop) (h0 : Pv 0 [] H) (hx : xs.length ≤ 100000)
    (hy : ∀ i ys H', Pv i ys H' → ys.length ≤ i)
    (hs : ∀ i x ys H', xs[i]? = some x → Same H H' → Pv i ys H' → tc (blkSt caps σ (some x)) H' fun b H2 => if b = true then te (blkSt caps σ (some x)) H2 fun y H3 => Same H H3 ∧ Pv (i + 1) (ys ++ [y]) H3 else Same H H2 ∧ Pv (i + 1) ys H2)
    (hd : ∀ p ys H1 H2, Same H H1 → Same H1 H2 → Pv xs.length ys H1 → H1 p = none → H2 p = some (.lst ys) → Q (.ref p) H2) : WalkL K (.ref a) H fun J H1 => wComp J caps tc te σ H1 Q :=
  ⟨a, rfl, ⟨xs, e⟩, comp_list (fun i ys H' => Same H H' ∧ Pv i ys H') ⟨Same.refl H, h0⟩ (small_size hx) (fun i ys H' p => hy i ys H' p.2) (fun i ys H' _ p => SqL.of (p.1 _ _ e)) (fun i x ys H' ex p => hs i x ys H' ex p.1 p.2) fun ys H' p q n => hd q ys H' _ p.1 (same_new n _) p.2 n upd_same⟩

theorem dps_le {k : Nat} : ∀ {ds : List D}, (∀ d ∈ ds, d.dp ≤ k) → D.dps ds ≤ k
  | [], _ => by simp [D.dps]
  | d :: ds, h => by
    simp only [D.dps]
    have h1 := h d (by simp)
    have h2 := dps_le (ds := ds) fun x hx => h x (by simp [hx])
    omega
end L2

namespace L2
open PySem PySem.Spec PyProof.Rows
/-! ### texts as lists of codes -/
theorem cps_append (x y : Str) : (x ++ y).cps.toList = x.cps.toList ++ y.cps.toList := by
  show (Str.append x y).cps.toList = _
  simp [Str.append]
theorem len_cps (x : Str) : x.length = x.cps.toList.length := by simp [Str.length]
/-! ### the reading of a text -/
section
variable {X : Cx}
/-! ### f-strings of texts; a try whose body refuses nothing -/
end
end L2

/-! ### exceptions of own classes -/
namespace L2
open PySem PySem.Spec PyProof.Rows
open PySem.W (hideAll hideAll_get hideAll_none of_hideAll funFrames_hide fresh_of_stays)
theorem objOk_get {P : Program} {w : World} {H : Hp} {h : Heap} {a : Addr} : ∀ {o : HO}, ObjOk P w H h a o → ∃ ob, h.get? a = some ob
  | .lst _, x => by obtain ⟨_, _, _, _, e⟩ := x; exact ⟨_, e⟩
  | .tup _, x => by obtain ⟨_, _, _, o, e, _⟩ := x; exact ⟨_, e⟩
  | .dK _, x => by obtain ⟨_, _, _, _, o, _, _, e, _⟩ := x; exact ⟨_, e⟩
  | .dT _, x => by obtain ⟨_, _, _, _, o, _, _, e, _⟩ := x; exact ⟨_, e⟩
  | .set _ _, x => by obtain ⟨o, _, _, _, e, _⟩ := x; exact ⟨_, e⟩
  | .ins _ _ _, x => by obtain ⟨_, _, _, e, _⟩ := x; exact ⟨_, e⟩
  | .own _, x => x
  | .xd _, x => by obtain ⟨_, ⟨o, _, _, e, _⟩, _⟩ := x; exact ⟨_, e⟩
  | .met _ _, x => ⟨_, x⟩
  | .rng _ _, x => by obtain ⟨_, _, _, e⟩ := x; exact ⟨_, e⟩
  | .frz _ _, x => ⟨_, x.1⟩
  | .tbl _, x => ⟨_, x⟩
  | .ext _, x => x.2.1
/-- in flight ahead of the frames l: the exception at e, its trace at T -/
noncomputable def Flies (l : List Env) (e C T : Addr) (h : Heap) : Prop := ∃ a0, Heap.FlyingW (hideAll h (e :: T :: frs l)) l e (.ref C) a0 h
noncomputable def CXE (P : Program) (w : World) : CXT := fun outer H s E x s' => ∃ (e C T : Addr) (H' : Hp), x = .ref e ∧ Flies outer e C T s'.heap ∧ (H' e = none ∧ H' T = none ∧ s.heap.get? e = none ∧ s.heap.get? T = none) ∧
  s'.os = s.os ∧ AllBare s'.gens ∧ Un (frs outer) [] H H' s.heap s'.heap ∧ HOk P w H' s'.heap ∧ E (.ref C) none H'
theorem mem_frs {l : List Env} {env : Env} {a : Addr} (h : env ∈ l) (e : env.frame = some a) : a ∈ frs l := List.mem_filterMap.mpr ⟨env, h, e⟩
theorem Flies.mk {B h : Heap} {l : List Env} {e C : Addr} {a0 : Value} (f : Heap.FlyingW B l e (.ref C) a0 h) : ∃ T, B.get? T = none ∧ Flies l e C T h ∧ ∃ oT ts, h.get? T = some oT ∧ oT.data = .fields ts := by
  obtain ⟨f1, f2, f3, oe, vs, T, oT, ts, a1, a2, a3, a4, a5, a6, a7, a8, a9⟩ := f
  exact ⟨T, a5, ⟨a0, fun b o q => of_hideAll _ q, hideAll_none _ (by simp), funFrames_hide f3 (fun env he a ha => by simp [mem_frs he ha]), oe, vs, T, oT, ts, a1, a2, a3, a4, hideAll_none _ (by simp), a6, a7, a8, a9⟩, oT, ts, a7, a8⟩
/-- what an exception that leaves a frame makes of the heap -/
structure Left (l : List Env) (hid : List Addr) (h h' : Heap) : Prop where
  keep : ∀ b o, h.get? b = some o → b ∉ hid → b ∉ frs l → h'.get? b = some o
  slot : ∀ b o, h.get? b = some o → b ∈ frs l → ∃ sl, h'.get? b = some { o with slots := sl }
section
variable {X : Cx} {pins : List (Addr × Obj)} {σ : St} {H : Hp} {s : Shared}
theorem Inv.fr_there (I : Inv X pins σ H s) {b : Addr} (hb : b ∈ frs X.stack) : ∃ o, s.heap.get? b = some o ∧ ∀ vs, o.data ≠ .fields vs := by
  obtain ⟨_, o, ho, hn⟩ := I.stack.mem hb
  exact ⟨o, ho, hn⟩
/-- the wish of a body whose exceptions leave -/
structure Lv (X : Cx) (E : XK) : Prop where
  stk : X.stack = X.env :: X.outer
  fr : X.env.frame = some X.env.locals
  ex : X.ex = []
  xe : ∀ x s', wpAny (model X.prog X.w) X.A (leaving X.env x) (fun _ s'' => CXE X.prog X.w X.outer X.H₀ X.s₀ E x s'') (fun _ _ => False) s' → X.xe x s'
theorem left_ok (L : Lv X E) {H' : Hp} {h1 h' : Heap} {s1 : Shared} {e C T0 : Addr} {a0 : Value} (I : Inv X pins σ H s) (un : Un (frs X.stack) [] H H' s.heap h1) (hok : HOk X.prog X.w H' h1)
    (ne : H' e = none) (nT : H' T0 = none) (ge : s.heap.get? e = none) (gT : s.heap.get? T0 = none) (fl : Heap.FlyingW (hideAll h1 (e :: T0 :: frs X.stack)) X.outer e (.ref C) a0 h')
    (sm : h1.UpToSlots h') (os : s1.os = s.os) (bare : AllBare s1.gens) (q : E (.ref C) none H') : CXE X.prog X.w X.outer X.H₀ X.s₀ E (.ref e) { s1 with heap := h' } := by
  have ex := L.ex
  have hstk := L.stk
  have fs : frs X.stack = X.env.locals :: X.fs := by rw [hstk]; show List.filterMap _ _ = _; rw [List.filterMap_cons_some L.fr]; rfl
  have stay : ∀ b o, h1.get? b = some o → b ≠ e → b ≠ T0 → b ∉ frs X.stack → h'.get? b = some o := fun b o q n1 n2 n3 => fl.1 b o (hideAll_get _ q (by simp [n1, n2, n3]))
  have frd : ∀ b ∈ frs X.stack, ∃ o, h1.get? b = some o ∧ ∀ vs, o.data ≠ .fields vs := fun b hb => by
    obtain ⟨o, ho, hn⟩ := I.fr_there hb
    obtain ⟨sl, e1⟩ := un.any ho (I.stkFree b hb) (by simp)
    exact ⟨_, e1, hn⟩
  have frn : ∀ b ∈ frs X.stack, H' b = none := fun b hb => by
    obtain ⟨o, ho, hn⟩ := I.fr_there hb
    exact un.free b o ho (I.stkFree b hb) (by simp)
  obtain ⟨T, hB, F, oT, ts, hT, dT⟩ := Flies.mk fl
  have old : ∀ b o, X.s₀.heap.get? b = some o → ∃ o', s.heap.get? b = some o' := fun b o q => I.base.there b o q (by rw [ex]; simp)
  have T_hid : ∀ o, h1.get? T = some o → T = e ∨ T = T0 ∨ T ∈ frs X.stack := fun o ho => by
    by_cases h1e : T = e
    · exact .inl h1e
    by_cases h2e : T = T0
    · exact .inr (.inl h2e)
    by_cases h3e : T ∈ frs X.stack
    · exact .inr (.inr h3e)
    · rw [hideAll_get _ ho (by simp [h1e, h2e, h3e])] at hB; cases hB
  have T_fr : ¬ T ∈ frs X.stack := fun hb => by
    obtain ⟨o, ho, hn⟩ := frd T hb
    obtain ⟨sl, e1⟩ := sm T o ho hn
    rw [hT] at e1
    cases e1
    exact hn _ dT
  refine ⟨e, C, T, H', rfl, F, ⟨ne, ?_, ?_, ?_⟩, ?_, bare, ?_, ?_, q⟩
  · cases hh : H' T with
    | none => rfl
    | some o =>
      obtain ⟨ob, hob⟩ := objOk_get (hok T o hh)
      rcases T_hid ob hob with z | z | z
      · rw [z, ne] at hh; cases hh
      · rw [z, nT] at hh; cases hh
      · exact absurd z T_fr
  · cases hh : X.s₀.heap.get? e with
    | none => rfl
    | some o => obtain ⟨o', h2⟩ := old e o hh; rw [ge] at h2; cases h2
  · cases hh : X.s₀.heap.get? T with
    | none => rfl
    | some o =>
      obtain ⟨o', h2⟩ := old T o hh
      obtain ⟨o2, h3⟩ := un.there T o' h2 (by simp)
      rcases T_hid o2 h3 with z | z | z
      · rw [z, ge] at h2; cases h2
      · rw [z, gT] at h2; cases h2
      · exact absurd z T_fr
  · exact os.trans I.os
  · have nl : ∀ b o, X.s₀.heap.get? b = some o → b ≠ X.env.locals := fun b o q z => by
      have h1 := Heap.lt_size q
      have h2 := I.ok.above
      exact absurd (Nat.lt_of_lt_of_le h1 h2) (by rw [z]; exact Nat.lt_irrefl _)
    refine ⟨fun b o q n hb _ => ?_, fun b o q n hb _ => ?_, fun b o q n _ => ?_, fun b o q _ => ?_, fun b xs q => un.tups b xs (I.base.tups b xs q), fun b o u q => un.frzs b o u (I.base.frzs b o u q), fun b ps q => ?_⟩
    · have k1 := I.base.keep b o q n hb (by rw [ex]; simp)
      have n1 := I.base.free b o q n (by rw [ex]; simp)
      have hb' : b ∉ frs X.stack := by rw [fs]; simp [nl b o q]; exact hb
      have k2 := un.keep b o k1 n1 hb' (by simp)
      exact stay b o k2 (fun z => by rw [z, ge] at k1; cases k1) (fun z => by rw [z, gT] at k1; cases k1) hb'
    · obtain ⟨sl, k1⟩ := I.base.slot b o q n hb (by rw [ex]; simp)
      have n1 := I.base.free b o q n (by rw [ex]; simp)
      have hb' : b ∈ frs X.stack := by rw [fs]; exact List.mem_cons_of_mem _ hb
      obtain ⟨sl2, k2⟩ := un.slot b _ k1 n1 hb' (by simp)
      obtain ⟨o', ho', hn'⟩ := frd b hb'
      rw [k2] at ho'
      cases ho'
      obtain ⟨sl3, k3⟩ := sm b _ k2 hn'
      exact ⟨sl3, k3⟩
    · obtain ⟨o', h2⟩ := old b o q
      exact un.free b o' h2 (I.base.free b o q n (by rw [ex]; simp)) (by simp)
    · obtain ⟨o', h2⟩ := old b o q
      obtain ⟨o2, h3⟩ := un.there b o' h2 (by simp)
      by_cases hb : b ∈ frs X.stack
      · obtain ⟨o3, ho3, hn3⟩ := frd b hb
        obtain ⟨sl, k⟩ := sm b o3 ho3 hn3
        exact ⟨_, k⟩
      · exact ⟨o2, stay b o2 h3 (fun z => by rw [z, ge] at h2; cases h2) (fun z => by rw [z, gT] at h2; cases h2) hb⟩
    · obtain ⟨m1, e1⟩ := I.base.tbls b ps q
      obtain ⟨m2, e2⟩ := un.tbls b _ e1
      exact ⟨m1 ++ m2, by rw [e2, Array.append_assoc]⟩
  · intro a o ho
    refine (hok a o ho).stay (fun b u hb q => ?_) (fun _ z => z) fun _ _ z => z
    have hb' : H' b ≠ none := by
      rcases hb with z | z
      · rw [z, ho]; simp
      · rw [z]; simp
    exact stay b u q (fun z => hb' (by rw [z]; exact ne)) (fun z => hb' (by rw [z]; exact nT)) fun z => hb' (frn b z)
/-- an exception of a callee leaves this frame too -/
theorem passE (L : Lv X E) : Passes (CXE X.prog X.w) X E := by
  intro pins σ H s x s' I h
  obtain ⟨e, C, T, H', rfl, ⟨a0, fl⟩, ⟨n1, n2, g1, g2⟩, os, bare, un, hok, q⟩ := h
  refine L.xe _ _ ?_
  have fl' := fl
  rw [L.stk] at fl'
  refine wpAny_leaves_onW (by rw [I.ok.frames, L.stk]) L.fr fl' fun h' fl2 sm => ?_
  rw [← L.stk] at fl2
  exact left_ok L I un hok n1 n2 g1 g2 fl2 sm os bare q
end
end L2

namespace L2
open PySem PySem.Spec PyProof.Rows
open PySem.W (hideAll hideAll_get hideAll_none of_hideAll funFrames_hide fresh_of_stays flyingW_base)
/-! ### own error classes under ValueError -/
abbrev bmV : List Value := [.type "ValueError", .type "Exception", .type "BaseException", .type "object"]
noncomputable def ErrAt (K : PySem.W.Frag) (C : Addr) : Prop := PySem.W.excIn K C bmV "ValueError.__new__" = true
/-- C is F or stands under it -/
noncomputable def subOf (K : PySem.W.Frag) (C F : Addr) : Bool := match K.lookup C with
  | some ⟨_, _, .cls cd, _⟩ => cd.mro.contains (.ref F)
  | _ => false
theorem ErrAt.obj {K : PySem.W.Frag} {h : Heap} {C : Addr} (q : ErrAt K C) (X : K.In h) : ∃ bm N nm q bs hdct sn sub ab col dd k0 k1 k2 k3 k5 mN, h.get? C = some (excClassObj nm q C N bs bm hdct sn sub ab col dd k0 k1 k2 k3 k5 "ValueError.__new__") ∧ h.Ns N mN ∧ mN "__init__" = none ∧ OwnTail h bmV bm ∧
    ∀ F, subOf K C F = (Value.ref C :: bm).contains (.ref F) := by
  have q : PySem.W.excIn K C bmV "ValueError.__new__" = true := q
  unfold PySem.W.excIn at q
  split at q
  · rename_i dd cd sl lk
    split at q
    · rename_i C' bm k0 k1 k2 k3 nid k5 em es
      simp only [beq_iff_eq, Bool.and_eq_true, Bool.not_eq_true'] at q
      obtain ⟨⟨⟨⟨⟨q1, q2⟩, q3⟩, q4⟩, q5⟩, q6⟩ := q
      cases q1
      cases q2
      cases cd with
      | mk nm bs mro ns qn hd sn sub ab col del =>
        simp only at em q3 q5 q6
        cases em
        cases q3
        have hs : sl = #[k0, k1, k2, k3, some (.builtin "ValueError.__new__"), k5] := by
          cases sl with
          | mk l => simp only at es; rw [es]
        cases hs
        exact ⟨bm, ns, nm, qn, bs, hd, sn, sub, ab, col, dd, k0, k1, k2, k3, k5, _, X _ _ lk, Heap.Ns.of_isNs (PySem.W.isNs_of_in X q5), PySem.W.nsMap_none_of_in X q5 q6, PySem.W.tail_of_in X q4, fun F => by unfold subOf; rw [lk]⟩
    · cases q
  · cases q
theorem ErrAt.own {K : PySem.W.Frag} {h : Heap} {mg : Str → Option Value} {x : Str} {C : Addr} (q : ErrAt K C) (X : K.In h) (e : mg x = some (.ref C)) : OwnCls x C bmV "ValueError.__new__" mg h := by
  obtain ⟨bm, N, nm, qn, bs, hdct, sn, sub, ab, col, dd, k0, k1, k2, k3, k5, mN, hC, hN, hni, TL, _⟩ := q.obj X
  exact ⟨e, bm, N, nm, qn, bs, hdct, sn, sub, ab, col, dd, k0, k1, k2, k3, k5, mN, hC, hN, hni, TL⟩
section
variable {X : Cx} {E : XK}
theorem gone {P : Program} {w : World} {H : Hp} {h : Heap} {a : Addr} (hok : HOk P w H h) (e : h.get? a = none) : H a = none := by
  cases q : H a with
  | none => rfl
  | some o => obtain ⟨ob, hb⟩ := objOk_get (hok a o q); rw [e] at hb; cases hb
theorem hide_less {h : Heap} {xs ys : List Addr} (s : ∀ a ∈ ys, a ∈ xs) : (hideAll h xs).StaysIn (hideAll h ys) := fun b o q => by
  have hb : b ∉ xs := fun z => by rw [hideAll_none _ z] at q; cases q
  exact hideAll_get _ (of_hideAll _ q) fun z => hb (s b z)
/-! ### raise C(..) -/
noncomputable def tRaise (C : Addr) (E : XK) (ta : TA) : TS := fun _ σ H => ta σ H fun vs H1 => vs.length ≤ sizeLine ∧ E (.ref C) none H1
theorem a_tRaise {C : Addr} {E : XK} {ta : TA} {D : Ends} {σ : St} {H : Hp} : tRaise C E ta D σ H = (ta σ H fun vs H1 => vs.length ≤ sizeLine ∧ E (.ref C) none H1) := rfl
theorem ps_raise {x : Str} {C : Addr} {e0 : Expr} {es : List Expr} {ta : TA} {np cpos pos : Pos} (L : Lv X E) (hg : Gl X x) (hm : X.mg x = some (.ref C)) (q : ErrAt X.K C) (hc : X.calm = true) (ha : PA X (e0 :: es) ta)
    (hdb : (x == ("__debug__" : Str)) = false := by decide) (he : starEach (e0 :: es) X.env = (false, eval e0 X.env) :: starEach es X.env := by rfl) (hpl : (backTo cpos (starEach es X.env)).any (·.1) = false := by rfl) :
    PS X (.Raise (some (.Call (.Name x np) (e0 :: es) [] cpos)) none pos) (tRaise C E ta) := by
  intro pins s σ H D I h
  have O := q.own I.ok.mod.kin hm
  obtain ⟨bm, N, nm, qn, bs, hdct, sn, sub, ab, col, dd, k0, k1, k2, k3, k5, mN, hC, hN, hni, TL⟩ := O.obj
  refine wpAny_Raise_call_subT (C := C) (nm := nm) (q := qn) (N := N) (bs := bs) (bm := bm) (hdct := hdct) (sn := sn) (sub := sub) (ab := ab) (col := col) (dd := dd) (k0 := k0) (k1 := k1) (k2 := k2) (k3 := k3) (k5 := k5)
    PySem.F.excBase_ValueError (mN := mN) (TL.hasType PySem.F.excBase_ValueError.hasBase) (I.ok.hd hc) (by rw [he]; show (false || (backTo cpos (starEach es X.env)).any (·.1)) = false; rw [hpl]; rfl) hni (ld_glob I hg hm ⟨rfl, ?_⟩ hdb)
  have z := ha cpos pins s σ H _ I h
  rw [he] at z ⊢
  refine Calls.evalArgs_plain (wpAny_mono z (fun us s2 ⟨vs, H2, I2, r, hl, qE⟩ => ⟨rfl, by rw [← r.length]; exact hl, I2.bk _ _ hC, hN.keeps I2.bk, TL.keeps I2.bk, fun h' e hx => ?_⟩) fun _ _ y => y)
  refine L.xe _ _ ?_
  have hin : ∀ env ∈ X.env :: X.outer, ∀ a, env.frame = some a → a ∈ frs X.stack := fun env he a ha => by rw [L.stk]; exact mem_frs he ha
  have fun2 : s2.heap.FunFrames (hideAll s2.heap (frs X.stack)) (X.env :: X.outer) := funFrames_hide (L.stk ▸ I2.stack) hin
  refine wpAny_leaves_madeW (base := hideAll s2.heap (frs X.stack)) (h := s2.heap) (by rw [I2.ok.frames, L.stk]) L.fr (fun b o q => of_hideAll _ q) fun2 hx fun h2 t fl _ _ sm => ?_
  have ne := gone I2.hok hx.new
  exact left_ok (s1 := s2) L I2 Un.refl I2.hok ne ne hx.new hx.new (flyingW_base (hide_less (by intro a ha; simp [ha])) fl) ((Heap.UpToSlots.of_keeps hx.keeps).trans sm) rfl I2.bare qE
end
/-! ### a def that may refuse -/
section
variable {P : Program} {w : World} {K : PySem.W.Frag} {mg : Str → Option Value} {base : Heap}
theorem Fun.okE {x qual : Str} {st : Stmt} {f : Addr} {fd : FuncData} {N ps : List Str} {k : Nat} {sp : Sp} (F : Fun K x qual st f fd) (S : FnScope N ps (defScope st)) (len : ∀ vs H Q E, sp vs H Q E → vs.length = ps.length)
    (hbody : ∀ (cdv : Value) (A : Around) (outer : List Env) (s : Shared) (H : Hp) (vs : List V) (Q : VK) (E : XK), Room k (A.deeper (envOfC qual (defScope st) s.heap.objs.size f cdv)) → sp vs H Q E →
      Lv (cxOf (CXE P w) P w K mg base N qual (defScope st) f cdv A outer s H E) E →
      ∃ t, PSs (cxOf (CXE P w) P w K mg base N qual (defScope st) f cdv A outer s H E) (defBody st) t ∧ t { nx := fun _ H' => Q .non H', rt := Q } (start N vs) H) : FnOk P w K mg base (CXE P w) (k + 1) f fd ps sp := by
  obtain ⟨oc, od, kV, doc, pm, an, cdv, ct, osl, rfl, lk, hcd⟩ := F.ex
  refine fn_of lk hcd S len fun A outer s H vs Q E hr hsp => hbody cdv A outer s H vs Q E hr hsp ⟨rfl, rfl, rfl, fun x s' h => wpAny_mono h (fun _ _ z => z) fun _ _ z => z.elim⟩
end
end L2

namespace L2
open PySem PySem.Spec PyProof.Rows
open PySem.W (hideAll hideAll_get hideAll_none of_hideAll funFrames_hide fresh_of_stays flyingW_base)
/-! ### a call within a try -/
noncomputable def tCallJ (J : St → Prop) (sp : Sp) (dvs : List V) (E : XK) (t : TA) : TE := fun σ H Q => t σ H fun vs H1 => J σ ∧ sp (vs ++ dvs) H1 Q E
theorem a_tCallJ {J : St → Prop} {sp : Sp} {dvs : List V} {E : XK} {t : TA} {σ : St} {H : Hp} {Q : VK} : tCallJ J sp dvs E t σ H Q = (t σ H fun vs H1 => J σ ∧ sp (vs ++ dvs) H1 Q E) := rfl
section
variable {X : Cx} {CX : CXT} {k : Nat} {f : Addr} {fd : FuncData} {ps : List Str} {sp : Sp} {dvs : List V} {ds : List Value} {E : XK} {x : Str} {p pos : Pos} {e : Expr} {es : List Expr} {t : TA} {J : St → Prop}
noncomputable def PassJ (CX : CXT) (X : Cx) (J : St → Prop) (E : XK) : Prop := ∀ (pins : List (Addr × Obj)) (σ : St) (H : Hp) (s : Shared) (e : Value) (s' : Shared), Inv X pins σ H s → J σ → CX X.stack H s E e s' → X.xe e s'
theorem pe_callJ (F : FnOk X.prog X.w X.K X.mg X.base CX k f fd ps sp) (hr : Room k X.A) (hg : Gl X x) (hm : X.mg x = some (.ref f)) (hk : PySem.W.keepIn X.K (.ref f) = true) (hb : Binds X.K fd ps ds) (hd : Vals dvs ds) (hx : PassJ CX X J E)
    (ha : PA X (e :: es) t) (hdb : (x == ("__debug__" : Str)) = false := by decide) (he : starEach (e :: es) X.env = (false, eval e X.env) :: starEach es X.env := by rfl) (hpl : (backTo pos (starEach es X.env)).any (·.1) = false := by rfl) :
    PE X (.Call (.Name x p) (e :: es) [] pos) (tCallJ J sp dvs E t) := by
  intro pins s σ H Q I h
  refine wpAny_Call_Name_kw (ld_glob I hg hm ?_ hdb)
  refine PySem.W.callWith_K (h₀ := X.base) I.ok.mod.kin hk (thn (ha pos pins s σ H _ I h) fun us s1 ⟨vs, H1, I1, r, hj, q⟩ => ⟨I1.kIn, ?_⟩) he hpl
  have r2 : Vals (vs ++ dvs) (us ++ ds) := r.append hd
  have hl : (us ++ ds).length = ps.length := by rw [← r2.length]; exact F.len _ _ _ _ q
  refine wpAny_call (codeAny_mono (F.run X.A X.stack s1 H1 ⟨us, []⟩ (us ++ ds) (vs ++ dvs) Q E hr I1.env0 (hb s1 us I1.kIn hl) r2 q) fun r s' hq => ?_)
  cases r with
  | error e => exact hx pins σ H1 s1 e s' I1 hj hq
  | ok fl =>
    cases fl with
    | ret u => exact I1.after hq
    | next => exact False.elim hq
    | brk => exact False.elim hq
    | cont => exact False.elim hq
end
/-! ### contexts -/
section
variable {X : Cx} {pins pn : List (Addr × Obj)} {σ : St} {H : Hp} {s : Shared} {E : XK}
noncomputable abbrev Cx.pinned (X : Cx) (pn : List (Addr × Obj)) : Cx := { X with pn := X.pn ++ pn }
theorem Cx.Ok.pinned (ok : X.Ok) (pn : List (Addr × Obj)) : (X.pinned pn).Ok :=
  ⟨ok.mod, ok.kind, ok.glob, ok.blt, ok.above, ok.inj, ok.has, ok.cab, ok.hd, ok.frames, ok.stk, ok.exf, ok.bs, ok.bsz, ok.noex, ok.exfs, ok.funs, ok.frf⟩
theorem Cx.Ok.unpinned (ok : (X.pinned pn).Ok) : X.Ok :=
  ⟨ok.mod, ok.kind, ok.glob, ok.blt, ok.above, ok.inj, ok.has, ok.cab, ok.hd, ok.frames, ok.stk, ok.exf, ok.bs, ok.bsz, ok.noex, ok.exfs, ok.funs, ok.frf⟩
theorem Inv.topn (I : Inv X pins σ H s) : Inv (X.pinned pins) [] σ H s := ⟨I.ok.pinned _, I.os, I.bare, I.base, I.loc, I.cell, I.free, I.freeC, fun p hp => I.pin p (by simpa using hp), I.hok, I.len⟩
theorem Inv.unpn (I : Inv (X.pinned pn) pins σ H s) : Inv X pn σ H s := ⟨I.ok.unpinned, I.os, I.bare, I.base, I.loc, I.cell, I.free, I.freeC, fun p hp => I.pin p (List.mem_append_left _ hp), I.hok, I.len⟩
noncomputable abbrev Cx.tryB (X : Cx) (pn : List (Addr × Obj)) (J : St → Prop) (E : XK) : Cx :=
  (X.pinned pn).wish fun x s' => ∃ pins σ H s, Inv (X.pinned pn) pins σ H s ∧ J σ ∧ CXE X.prog X.w X.stack H s E x s'
theorem passJ {J : St → Prop} : PassJ (CXE X.prog X.w) (X.tryB pn J E) J E := fun pins σ H s _ _ I j h => ⟨pins, σ, H, s, I.unwish, j, h⟩
theorem SP.untry {J : St → Prop} {D : Ends} {f : Flow} {s' : Shared} (h : SP (X.tryB pn J E) pins D f s') : SP X pn D f s' := by
  cases f with
  | next => obtain ⟨σ', H', I, q⟩ := h; exact ⟨σ', H', I.unwish.unpn, q⟩
  | brk => obtain ⟨σ', H', I, q⟩ := h; exact ⟨σ', H', I.unwish.unpn, q⟩
  | cont => obtain ⟨σ', H', I, q⟩ := h; exact ⟨σ', H', I.unwish.unpn, q⟩
  | ret u => obtain ⟨v, σ', H', I, r, q⟩ := h; exact ⟨v, σ', H', I.unwish.unpn, r, q⟩
/-- within an except suite of the exception at e; nothing leaves it -/
noncomputable abbrev Cx.hnd (X : Cx) (e : Addr) : Cx := { X with A := X.A.mark (some (.ref e)), calm := false, xe := fun _ _ => False }
theorem Cx.Ok.hnd (ok : X.Ok) (e : Addr) : (X.hnd e).Ok :=
  ⟨ok.mod, ok.kind, ok.glob, ok.blt, ok.above, ok.inj, ok.has, ok.cab, fun z => (Bool.false_ne_true z).elim, ok.frames, ok.stk, ok.exf, ok.bs, ok.bsz, ok.noex, ok.exfs, ok.funs, ok.frf⟩
theorem Inv.hnd (I : Inv X pins σ H s) (e : Addr) : Inv (X.hnd e) pins σ H s := ⟨I.ok.hnd e, I.os, I.bare, I.base, I.loc, I.cell, I.free, I.freeC, I.pin, I.hok, I.len⟩
theorem Inv.unhnd {e : Addr} (ok : X.Ok) (I : Inv (X.hnd e) pins σ H s) : Inv X pins σ H s := ⟨ok, I.os, I.bare, I.base, I.loc, I.cell, I.free, I.freeC, I.pin, I.hok, I.len⟩
/-- the heap behind an exception that is taken here -/
theorem fly_keep {H' : Hp} {h1 h' : Heap} {e C T0 : Addr} {a0 : Value} {l : List Env} (I : Inv X pins σ H s) (un : Un (frs X.stack) [] H H' s.heap h1) (hok : HOk X.prog X.w H' h1)
    (ne : H' e = none) (nT : H' T0 = none) (ge : s.heap.get? e = none) (gT : s.heap.get? T0 = none) (fl : Heap.FlyingW (hideAll h1 (e :: T0 :: frs X.stack)) l e (.ref C) a0 h') (sm : h1.UpToSlots h') :
    Un (frs X.stack) [] H H' s.heap h' ∧ HOk X.prog X.w H' h' := by
  have stay : ∀ b o, h1.get? b = some o → b ≠ e → b ≠ T0 → b ∉ frs X.stack → h'.get? b = some o := fun b o q n1 n2 n3 => fl.1 b o (hideAll_get _ q (by simp [n1, n2, n3]))
  have frd : ∀ b ∈ frs X.stack, ∃ o, h1.get? b = some o ∧ ∀ vs, o.data ≠ .fields vs := fun b hb => by
    obtain ⟨o, ho, hn⟩ := I.fr_there hb
    obtain ⟨sl, e1⟩ := un.any ho (I.stkFree b hb) (by simp)
    exact ⟨_, e1, hn⟩
  have frn : ∀ b ∈ frs X.stack, H' b = none := fun b hb => by
    obtain ⟨o, ho, hn⟩ := I.fr_there hb
    exact un.free b o ho (I.stkFree b hb) (by simp)
  refine ⟨⟨fun b o q n hb hx => ?_, fun b o q n hb hx => ?_, un.free, fun b o q hx => ?_, un.tups, un.frzs, un.tbls⟩, fun a o ho => ?_⟩
  · exact stay b o (un.keep b o q n hb hx) (fun z => by rw [z, ge] at q; cases q) (fun z => by rw [z, gT] at q; cases q) hb
  · obtain ⟨sl, k2⟩ := un.slot b o q n hb hx
    obtain ⟨o', ho', hn'⟩ := frd b hb
    rw [k2] at ho'
    cases ho'
    obtain ⟨sl3, k3⟩ := sm b _ k2 hn'
    exact ⟨sl3, k3⟩
  · obtain ⟨o2, h3⟩ := un.there b o q hx
    by_cases hb : b ∈ frs X.stack
    · obtain ⟨o3, ho3, hn3⟩ := frd b hb
      obtain ⟨sl, k⟩ := sm b o3 ho3 hn3
      exact ⟨_, k⟩
    · exact ⟨o2, stay b o2 h3 (fun z => by rw [z, ge] at q; cases q) (fun z => by rw [z, gT] at q; cases q) hb⟩
  · refine (hok a o ho).stay (fun b u hb q => ?_) (fun _ z => z) fun _ _ z => z
    have hb' : H' b ≠ none := by
      rcases hb with z | z
      · rw [z, ho]; simp
      · rw [z]; simp
    exact stay b u q (fun z => hb' (by rw [z]; exact ne)) (fun z => hb' (by rw [z]; exact nT)) fun z => hb' (frn b z)
/-- an exception that is held by a name -/
noncomputable def ExcO (e C : Addr) : HO := .ext fun h => ∃ ob, h.get? e = some ob ∧ ob.cls = .ref C
theorem exc_inv {H' : Hp} {s1 : Shared} {h1 h' : Heap} {e C T0 : Addr} {a0 : Value} {l : List Env} (I : Inv X pins σ H s) (un : Un (frs X.stack) [] H H' s.heap h1) (hok : HOk X.prog X.w H' h1)
    (ne : H' e = none) (nT : H' T0 = none) (ge : s.heap.get? e = none) (gT : s.heap.get? T0 = none) (fl : Heap.FlyingW (hideAll h1 (e :: T0 :: frs X.stack)) l e (.ref C) a0 h') (sm : h1.UpToSlots h') (os : s1.os = s.os) (bare : AllBare s1.gens) :
    Inv X pins σ H' { s1 with heap := h' } ∧ Inv X pins σ (upd H' e (ExcO e C)) { s1 with heap := h' } := by
  obtain ⟨u, k⟩ := fly_keep I un hok ne nT ge gT fl sm
  obtain ⟨ob, hob, hoc⟩ := fl.there
  have k2 : HOk X.prog X.w (upd H' e (ExcO e C)) h' := k.adopt ne ⟨⟨ob, hob, hoc⟩, ⟨ob, hob⟩, fun h1 h2 ⟨o, h, c⟩ st => ⟨o, st o h, c⟩⟩
  have u2 : Un (frs X.stack) [] H (upd H' e (ExcO e C)) s.heap h' := by
    refine ⟨u.keep, u.slot, fun b o q n hx => ?_, u.there, fun b xs q => ?_, fun b o w q => ?_, fun b ps q => ?_⟩
    · rw [upd_ne (fun z => by rw [z, ge] at q; cases q)]; exact u.free b o q n hx
    · have := u.tups b xs q
      rw [upd_ne (ne_of_none this ne)]; exact this
    · have := u.frzs b o w q
      rw [upd_ne (ne_of_none this ne)]; exact this
    · obtain ⟨more, this⟩ := u.tbls b ps q
      exact ⟨more, by rw [upd_ne (ne_of_none this ne)]; exact this⟩
  exact ⟨I.call' (s' := { s1 with heap := h' }) os u k bare (by simp), I.call' (s' := { s1 with heap := h' }) os u2 k2 bare (by simp)⟩
end
/-! ### which clause takes it -/
theorem excMatch_own {M : Model} {A : Around} {E : Value → Shared → Prop} {s : Shared} {Q : Bool → Shared → Prop} {K : PySem.W.Frag} {e C F : Addr} {ob : Obj} (X : K.In s.heap) (qC : ErrAt K C) (qF : ErrAt K F) (he : s.heap.get? e = some ob) (hc : ob.cls = .ref C)
    (hq : Q (subOf K C F) s) : wpAny M A (excMatches (.ref e) (.ref F)) Q E s := by
  obtain ⟨bm, N, nm, qn, bs, hdct, sn, sub, ab, col, dd, k0, k1, k2, k3, k5, mN, hC, hN, hni, TL, hS⟩ := qC.obj X
  obtain ⟨bm', N', nm', qn', bs', hdct', sn', sub', ab', col', dd', j0, j1, j2, j3, j5, mN', hF, _, _, TL', _⟩ := qF.obj X
  have hB : (Value.ref F :: bm').contains (.type "BaseException") = true := by rw [List.contains_cons, TL'.hasType PySem.F.excBase_ValueError.hasBase, Bool.or_true]
  have f := tc_notTuple
  rw [hS] at hq
  obtain ⟨h, g, d, t, os⟩ := s
  generalize hb : (Value.ref C :: bm).contains (.ref F) = b at hq
  unfold excMatches
  repeat (first | (with_reducible refine wpAny_loadPart_at he ?_; rw [hc]) | with_reducible refine wpAny_loadPart_at hF ?_ | with_reducible refine wpAny_loadPart_at hC ?_ | (with_reducible refine wpAny_isSubtype_exc hF ?_; rw [hB]) | (with_reducible refine wpAny_isSubtype_exc hC ?_; rw [hb]) | wp_step)
  cases b <;> (wp_walk; exact hq)
end L2

namespace L2
open PySem PySem.Spec PyProof.Rows
open PySem.W (hideAll hideAll_get hideAll_none of_hideAll funFrames_hide fresh_of_stays flyingW_base)
section
variable {X : Cx} {pins : List (Addr × Obj)} {σ : St} {H : Hp} {s : Shared}
/-! ### try: except F as n -/
noncomputable def EhN (K : PySem.W.Frag) (CF : Addr) (J : St → St → Prop) (ts : TS) (D : Ends) (σ0 : St) : XK := fun Cv _ H' => ∃ C, Cv = .ref C ∧ ErrAt K C ∧ subOf K C CF = true ∧ ∀ σ', J σ0 σ' → ts D σ' H'
noncomputable def tTry (tb : Ends → St → TS) : TS := fun D σ H => tb D σ D σ H
theorem a_tTry {tb : Ends → St → TS} {D : Ends} {σ : St} {H : Hp} : tTry tb D σ H = tb D σ D σ H := rfl
theorem ps_tryE {body suite : List Stmt} {b0 : Stmt} {F : Str} {np hpos pos : Pos} {CF : Addr} {J : St → St → Prop} {ts : TS} {tb : Ends → St → TS} (hstk : X.stack = X.env :: X.outer) (hfr : X.env.frame = some X.env.locals)
    (hgF : Gl X F) (hmF : X.mg F = some (.ref CF)) (qF : ErrAt X.K CF)
    (hb : ∀ D σ0 pn, PSs (X.tryB pn (J σ0) (EhN X.K CF J ts D σ0)) body (tb D σ0)) (hs : ∀ e, PSs (X.hnd e) (b0 :: suite) ts) (hdb : (F == ("__debug__" : Str)) = false := by decide) :
    PS X (.Try body [.ExceptHandler (some (.Name F np)) none (b0 :: suite) hpos] [] [] pos) (tTry tb) := by
  intro pins s σ H D I h
  refine wpAny_Try_except (wpAny_mono (hb D σ pins [] s σ H D (I.topn.wish _) h) (fun f s1 q => ?_) fun x s1 q => ?_)
  · have q := q.untry
    cases f with
    | next => exact wpAny_execs_nil q
    | _ => exact q
  obtain ⟨pins', σ', H1, s0, I1, hj, hx⟩ := q
  obtain ⟨e, C, T, H', rfl, ⟨a0, fl⟩, ⟨n1, n2, g1, g2⟩, os, bare, un, hok, C', eC, qC, hsub, hts⟩ := hx
  cases eC
  have fl' := fl
  rw [hstk] at fl'
  refine wpAny_looks_onW (by rw [I.ok.frames, hstk]) hfr fl' fun h4 held4 sm4 => ?_
  refine wpAny_landsW held4 fun h5 fl5 sm5 => ?_
  have fl5' := fl5
  rw [← hstk] at fl5'
  have I5 := (exc_inv I1.unpn un hok n1 n2 g1 g2 fl5' (sm4.trans sm5) os bare).1
  obtain ⟨ob, hob, hobc⟩ := fl5.there
  refine wpAny_handleBy_cons (codeAny_handlers_test (ld_glob (X := X.hnd e) (I5.hnd e) hgF hmF ?_ hdb)) (by intro q; cases q)
  refine excMatch_own I5.kIn qC qF hob hobc ?_
  rw [hsub]
  refine codeAny_handlers_suite ?_
  refine lands_againW fl5 fun h6 fl6 sm6 => ?_
  have fl6' := fl6
  rw [← hstk] at fl6'
  have I6 := (exc_inv I1.unpn un hok n1 n2 g1 g2 fl6' ((sm4.trans sm5).trans sm6) os bare).1
  refine wpAny_mono (hs e pins _ _ _ D (I6.hnd e) (hts σ' hj)) (fun f s8 q8 => ?_) fun _ _ z => z.elim
  cases f with
  | next => obtain ⟨σ8, H8, I8, q8⟩ := q8; exact ⟨_, _, I8.unhnd I.ok, q8⟩
  | brk => obtain ⟨σ8, H8, I8, q8⟩ := q8; exact ⟨_, _, I8.unhnd I.ok, q8⟩
  | cont => obtain ⟨σ8, H8, I8, q8⟩ := q8; exact ⟨_, _, I8.unhnd I.ok, q8⟩
  | ret u => obtain ⟨v, σ8, H8, I8, r8, q8⟩ := q8; exact ⟨v, _, _, I8.unhnd I.ok, r8, q8⟩
end
end L2

namespace L2
open PySem PySem.Spec PyProof.Rows PySem.Builtin PySem.Builtin.ObjectAttr PySem.Builtin.Getset_descriptor
/-! ### isinstance of an exception that is held -/
/-- what the text must have of an own error class for isinstance -/
structure ErrIs (K : PySem.W.Frag) (C : Addr) : Prop where
  at_ : ErrAt K C
  ga : PySem.W.findIn K (.ref C) "__getattribute__" = some (some (.builtin "BaseException.__getattribute__"))
  gx : PySem.W.findIn K (.ref C) "__getattr__" = some none
  cl : PySem.W.findIn K (.ref C) "__class__" = some (some (.builtin "object.__class__"))
  sp : PySem.W.specialIn K (.builtin "object.__class__") "__get__" = some (some (.builtin "getset_descriptor.__get__"))
  tk : PySem.W.takesIn K (.builtin "object.__class__") = some true
  mr : PySem.W.mroIn K C (.type "object") = some true
  cs : (PySem.W.clsIn K C).isSome = true
section
variable {prog : Program} {w : World} {A : Around} {E : Value → Shared → Prop} {s : Shared} {K : PySem.W.Frag} {e C : Addr} {ob : Obj}
end
section
variable {X : Cx}
end
end L2

namespace L2
open PySem PySem.Spec PyProof.Rows
/-! ### plain data shown as texts -/
mutual
noncomputable def D.py : D → PyData
  | .non => .none
  | .bl b => .bool b
  | .int i => .int i
  | .str x => .str x
  | .tup ds => .tuple (D.pys ds)
  | .lst ds => .list (D.pys ds)
noncomputable def D.pys : List D → List PyData
  | [] => []
  | d :: ds => D.py d :: D.pys ds
end
mutual
/-- how long its text may be -/
noncomputable def D.wd : D → Nat
  | .non => 4
  | .bl _ => 5
  | .int _ => 1921
  | .str x => 10 * x.length + 2
  | .tup ds => D.wds ds + 3
  | .lst ds => D.wds ds + 3
noncomputable def D.wds : List D → Nat
  | [] => 0
  | d :: ds => D.wd d + 2 + D.wds ds
end
section
variable {P : Program} {w : World} {H : Hp} {h : Heap}
end
/-! ### fields of f-strings whose text does not matter -/
section
variable {X : Cx} {k : Nat}
/-- {i}, i a whole number: its text does not matter -/
noncomputable def tFmtI (te : TE) : TE := fun σ H Q => te σ H fun v H1 => ∃ i, v = .int i ∧ i.natAbs.log2 < 1920 ∧ ∀ z : Str, z.length ≤ 1921 → Q (.str z) H1
theorem pe_fmtI {e : Expr} {te : TE} {pos : Pos} (h : PE X e te) : PE X (.FormattedValue e (-1) none pos) (tFmtI te) := by
  intro pins s σ H Q I hw
  refine wpAny_FormattedValue_plain (thn (h pins s σ H _ I hw) fun v s1 ⟨x, H1, I1, r1, q1⟩ => ?_)
  obtain ⟨i, rfl, hi, q⟩ := q1
  obtain ⟨t, rfl⟩ := r1
  exact wpAny_formatField_int hi ⟨.str _, H1, I1.tok _, ⟨_, rfl⟩, q _ (int_text_len_1921 hi)⟩
theorem a_tFmtI {te : TE} {σ : St} {H : Hp} {Q : VK} : tFmtI te σ H Q = (te σ H fun v H1 => ∃ i, v = .int i ∧ i.natAbs.log2 < 1920 ∧ ∀ z : Str, z.length ≤ 1921 → Q (.str z) H1) := rfl
theorem b_rSlT {K : PySem.W.Frag} {x : V} {lo hi : Option Int} {H : Hp} {Q : VK} : rSlT K x lo hi H Q = (∃ a xs, x = .ref a ∧ SqT K H a xs ∧ ¬ (HT.sIx xs.length 0 lo = 0 ∧ HT.sIx xs.length xs.length hi = xs.length) ∧ NewO H (.tup (cutV xs lo hi)) Q) := rfl
end
end L2

namespace L2
open PySem PySem.Spec PyProof.Rows
/-! ### the greatest and the least of some whole numbers -/
theorem ints_items : ∀ {is : List Int} {us : List Value}, Vals (is.map V.int) us → ∃ xs : List (Int × Tok), us = xs.map (fun p => Value.int p.1 p.2) ∧ xs.map (·.1) = is
  | [], us, r => by cases r; exact ⟨[], rfl, rfl⟩
  | i :: is, us, r => by
    cases r with
    | cons r rt =>
      obtain ⟨t, rfl⟩ := r
      obtain ⟨xs, rfl, e⟩ := ints_items rt
      exact ⟨(i, t) :: xs, rfl, by simp [e]⟩
theorem num_at {xs : List (Int × Tok)} {i : Nat} (h : i < xs.length) : numAt xs.toArray i ∈ xs.map (·.1) := by
  have : numAt xs.toArray i = (xs[i]).1 := by simp [numAt, h]
  rw [this]
  exact List.mem_map.mpr ⟨xs[i], List.getElem_mem h, rfl⟩
theorem num_of {xs : List (Int × Tok)} {j : Int} (h : j ∈ xs.map (·.1)) : ∃ i, i < xs.length ∧ numAt xs.toArray i = j := by
  obtain ⟨p, hp, rfl⟩ := List.mem_map.mp h
  obtain ⟨i, hi, e⟩ := List.mem_iff_getElem.mp hp
  exact ⟨i, hi, by simp [numAt, hi, e]⟩
section
variable {X : Cx}
noncomputable def rMaxS : List V → Hp → VK → Prop := fun xs H Q => ∃ p is, xs = [.ref p] ∧ itemsOf (H p) = some (is.map V.int) ∧ is ≠ [] ∧ ∀ m, m ∈ is → (∀ j ∈ is, j ≤ m) → Q (.int m) H
noncomputable def rMinS : List V → Hp → VK → Prop := fun xs H Q => ∃ p is, xs = [.ref p] ∧ itemsOf (H p) = some (is.map V.int) ∧ is ≠ [] ∧ ∀ m, m ∈ is → (∀ j ∈ is, m ≤ j) → Q (.int m) H
theorem a_rMaxS {xs : List V} {H : Hp} {Q : VK} : rMaxS xs H Q = (∃ p is, xs = [.ref p] ∧ itemsOf (H p) = some (is.map V.int) ∧ is ≠ [] ∧ ∀ m, m ∈ is → (∀ j ∈ is, j ≤ m) → Q (.int m) H) := rfl
theorem a_rMinS {xs : List V} {H : Hp} {Q : VK} : rMinS xs H Q = (∃ p is, xs = [.ref p] ∧ itemsOf (H p) = some (is.map V.int) ∧ is ≠ [] ∧ ∀ m, m ∈ is → (∀ j ∈ is, m ≤ j) → Q (.int m) H) := rfl
theorem tup_walk {M : Program} {w : World} {A : Around} {E : Value → Shared → Prop} {s : Shared} {a : Addr} {items : Array Value} {R : Value → Shared → Prop} (hh : A.handled = none) (ht : s.heap.IsTuple a items)
    (h : ∀ I s2, Walks M w A I [I, a] [I] items.size (fun i v => items[i]? = some v) (fun i h => h.IsTupleIter I a i ∧ h.IsTuple a items) → (s2.heap.IsTupleIter I a 0 ∧ s2.heap.IsTuple a items) → (∀ b ∈ [I, a], b < s2.heap.objs.size) →
      (∀ h' tk, (∀ b o, b ∉ [I] → s2.heap.get? b = some o → h'.get? b = some o) → (∀ b o, s.heap.get? b = some o → h'.get? b = some o) ∧ ({ s2 with heap := h', toks := tk } : Shared) = { s with heap := h', toks := tk }) → R (.ref I) s2) :
    wpAny (model M w) A (pyIter (.ref a)) R E s := by
  have hlt : a < s.heap.objs.size := by obtain ⟨_, e, _⟩ := ht; exact Heap.lt_size e
  refine wpAny_pyIter_tuple ht (h _ _ (Walks.tuple hh _ a (Nat.ne_of_lt hlt) items) ⟨⟨_, Heap.get?_push_size _ rfl, rfl, rfl⟩, ht.push _⟩ (fun b hb => ?_) fun h' tk hk => ⟨fun b o e => ?_, rfl⟩)
  · show b < (s.heap.push _).objs.size
    rw [Heap.size_push]
    simp only [List.mem_cons, List.not_mem_nil, or_false] at hb
    rcases hb with rfl | rfl
    · exact Nat.lt_succ_self _
    · exact Nat.lt_succ_of_lt hlt
  · refine hk b o (fun hm => ?_) (Heap.get?_push_of_some _ e)
    have := Heap.lt_size e
    rw [List.mem_singleton.mp hm] at this
    exact Nat.lt_irrefl _ this
theorem call_maxS (hc : X.calm = true) : CallR X (.builtin "max") rMaxS := by
  intro pins s σ H xs us Q I r h
  obtain ⟨p, is, rfl, e, hne, q⟩ := h
  obtain ⟨u, rfl, ru⟩ := vals1 r
  cases ru
  have done : ∀ {zs : List (Int × Tok)} {v : Value} {h' : Heap} {tk : Nat}, zs.map (·.1) = is → (intItems zs.toArray)[argBest (fun i j => decide (numAt zs.toArray i > numAt zs.toArray j)) (zs.toArray.size - 1)]? = some v → (∀ b o, s.heap.get? b = some o → h'.get? b = some o) →
      EP X pins σ Q v { s with heap := h', toks := tk } := fun {zs v h' tk} ez hv hk => by
    obtain ⟨t, rfl⟩ := intItems_at hv
    obtain ⟨h1, h2⟩ := argBest_gt (numAt zs.toArray) (zs.toArray.size - 1)
    have hz : 0 < zs.length := by rw [← List.length_map (f := (·.1)), ez]; exact List.length_pos_iff.mpr hne
    simp only [List.size_toArray] at h1 h2
    refine ⟨.int _, H, I.kept hk, ⟨t, rfl⟩, q _ ?_ fun j hj => ?_⟩
    · rw [← ez]; exact num_at (by simp only [List.size_toArray]; omega)
    · rw [← ez] at hj
      obtain ⟨i, hi, rfl⟩ := num_of hj
      exact h2 i (by omega)
  cases ho : H p with
  | none => rw [ho] at e; cases e
  | some o =>
    rw [ho] at e
    cases o with
    | lst vs =>
      cases e
      obtain ⟨_, its, n, rv, hl⟩ := I.hok p _ ho
      obtain ⟨zs, rfl, ez⟩ := ints_items rv
      refine max_intList (xs := zs.toArray) (I.ok.hd hc) ⟨_, hl, rfl, n, by simp [intItems]⟩ ?_ fun v h' tk hv hk => done ez hv hk
      simp only [List.size_toArray]
      rw [← List.length_map (f := (·.1)), ez]; exact List.length_pos_iff.mpr hne
    | tup vs =>
      cases e
      obtain ⟨_, its, rv, o, hl, hcl, n, hdt⟩ := I.hok p _ ho
      obtain ⟨zs, rfl, ez⟩ := ints_items rv
      have ht : s.heap.IsTuple p (intItems zs.toArray) := ⟨o, hl, hcl, n, by rw [hdt]; simp [intItems]⟩
      refine call_max_walk (tup_walk (I.ok.hd hc) ht fun Ia s2 W st hfp hk => ⟨Ia, _, _, _, _, _, _, rfl, W, st, hfp, ?_, CmpOf.ints_gt (numAt zs.toArray) (fun _ _ => intItems_at), fun v h' tk hv hk2 => ?_⟩)
      · simp only [intItems, Array.size_map, List.size_toArray]
        rw [← List.length_map (f := (·.1)), ez]; exact List.length_pos_iff.mpr hne
      · obtain ⟨k1, k2⟩ := hk h' tk hk2
        rw [k2]
        exact done ez (by simpa [intItems] using hv) k1
    | _ => cases e
theorem call_minS (hc : X.calm = true) : CallR X (.builtin "min") rMinS := by
  intro pins s σ H xs us Q I r h
  obtain ⟨p, is, rfl, e, hne, q⟩ := h
  obtain ⟨u, rfl, ru⟩ := vals1 r
  cases ru
  have done : ∀ {zs : List (Int × Tok)} {v : Value} {h' : Heap} {tk : Nat}, zs.map (·.1) = is → (intItems zs.toArray)[argBest (fun i j => decide (numAt zs.toArray i < numAt zs.toArray j)) (zs.toArray.size - 1)]? = some v → (∀ b o, s.heap.get? b = some o → h'.get? b = some o) →
      EP X pins σ Q v { s with heap := h', toks := tk } := fun {zs v h' tk} ez hv hk => by
    obtain ⟨t, rfl⟩ := intItems_at hv
    obtain ⟨h1, h2⟩ := argBest_lt (numAt zs.toArray) (zs.toArray.size - 1)
    have hz : 0 < zs.length := by rw [← List.length_map (f := (·.1)), ez]; exact List.length_pos_iff.mpr hne
    simp only [List.size_toArray] at h1 h2
    refine ⟨.int _, H, I.kept hk, ⟨t, rfl⟩, q _ ?_ fun j hj => ?_⟩
    · rw [← ez]; exact num_at (by simp only [List.size_toArray]; omega)
    · rw [← ez] at hj
      obtain ⟨i, hi, rfl⟩ := num_of hj
      exact h2 i (by omega)
  cases ho : H p with
  | none => rw [ho] at e; cases e
  | some o =>
    rw [ho] at e
    cases o with
    | lst vs =>
      cases e
      obtain ⟨_, its, n, rv, hl⟩ := I.hok p _ ho
      obtain ⟨zs, rfl, ez⟩ := ints_items rv
      refine min_intList (xs := zs.toArray) (I.ok.hd hc) ⟨_, hl, rfl, n, by simp [intItems]⟩ ?_ fun v h' tk hv hk => done ez hv hk
      simp only [List.size_toArray]
      rw [← List.length_map (f := (·.1)), ez]; exact List.length_pos_iff.mpr hne
    | tup vs =>
      cases e
      obtain ⟨_, its, rv, o, hl, hcl, n, hdt⟩ := I.hok p _ ho
      obtain ⟨zs, rfl, ez⟩ := ints_items rv
      have ht : s.heap.IsTuple p (intItems zs.toArray) := ⟨o, hl, hcl, n, by rw [hdt]; simp [intItems]⟩
      refine call_min_walk (tup_walk (I.ok.hd hc) ht fun Ia s2 W st hfp hk => ⟨Ia, _, _, _, _, _, _, rfl, W, st, hfp, ?_, CmpOf.ints_lt (numAt zs.toArray) (fun _ _ => intItems_at), fun v h' tk hv hk2 => ?_⟩)
      · simp only [intItems, Array.size_map, List.size_toArray]
        rw [← List.length_map (f := (·.1)), ez]; exact List.length_pos_iff.mpr hne
      · obtain ⟨k1, k2⟩ := hk h' tk hk2
        rw [k2]
        exact done ez (by simpa [intItems] using hv) k1
    | _ => cases e
end
/-! ### small things that more than one law needs -/
theorem comp_tup {K : PySem.W.Frag} {a : Addr} {xs : List V} {caps : List Nat} {tc : TT} {te : TE} {σ : St} {H : Hp} {Q : VK} (Pv : Nat → List V → Hp → Prop) (h0 : Pv 0 [] H) (hx : xs.length < sizeLine) (hy : ∀ i ys H, Pv i ys H → ys.length ≤ i)
    (hl : ∀ i ys H, i ≤ xs.length → Pv i ys H → SqT K H a xs)
    (hs : ∀ i x ys H, xs[i]? = some x → Pv i ys H → tc (blkSt caps σ (some x)) H fun b H2 => if b = true then te (blkSt caps σ (some x)) H2 fun y H3 => Pv (i + 1) (ys ++ [y]) H3 else Pv (i + 1) ys H2)
    (hd : ∀ ys H, Pv xs.length ys H → ∀ p, H p = none → Q (.ref p) (upd H p (.lst ys))) : wComp (Itt K a) caps tc te σ H Q := by
  refine ⟨fun i m ys H => m = xs.length - i ∧ i ≤ xs.length ∧ Pv i ys H, ⟨xs.length, by simp, Nat.zero_le _, h0⟩, ?_⟩
  rintro i m ys H ⟨rfl, hi, p⟩
  have q := hl i ys H hi p
  by_cases hlt : i < xs.length
  · refine .inr ⟨⟨xs, xs[i], q, by simp [hlt]⟩, Nat.lt_of_le_of_lt (Nat.le_trans (hy i ys H p) hi) hx, Pv (i + 1), fun ys' H' p' => ⟨xs.length - (i + 1), by omega, rfl, hlt, p'⟩, fun x H' y => ?_⟩
    obtain ⟨e, y⟩ := y
    subst e
    exact hs i x ys _ (y xs q) p
  · have e : i = xs.length := by omega
    subst e
    exact .inl ⟨⟨xs, q, Nat.le_refl _⟩, hd ys H p⟩
theorem WalkT.comp {K : PySem.W.Frag} {a : Addr} {xs : List V} {caps : List Nat} {tc : TT} {te : TE} {σ : St} {H : Hp} {Q : VK} (e : H a = some (.tup xs)) (Pv : Nat → List V → Hp → Prop) (h0 : Pv 0 [] H) (hx : xs.length ≤ 100000)
    (hy : ∀ i ys H', Pv i ys H' → ys.length ≤ i)
    (hs : ∀ i x ys H', xs[i]? = some x → Same H H' → Pv i ys H' → tc (blkSt caps σ (some x)) H' fun b H2 => if b = true then te (blkSt caps σ (some x)) H2 fun y H3 => Same H H3 ∧ Pv (i + 1) (ys ++ [y]) H3 else Same H H2 ∧ Pv (i + 1) ys H2)
    (hd : ∀ p ys H1 H2, Same H H1 → Same H1 H2 → Pv xs.length ys H1 → H1 p = none → H2 p = some (.lst ys) → Q (.ref p) H2) : WalkT K (.ref a) H fun J H1 => wComp J caps tc te σ H1 Q :=
  ⟨a, rfl, ⟨xs, e⟩, comp_tup (fun i ys H' => Same H H' ∧ Pv i ys H') ⟨Same.refl H, h0⟩ (small_size hx) (fun i ys H' p => hy i ys H' p.2) (fun i ys H' _ p => SqT.of (p.1 _ _ e)) (fun i x ys H' ex p => hs i x ys H' ex p.1 p.2) fun ys H' p q n => hd q ys H' _ p.1 (same_new n _) p.2 n upd_same⟩
end L2

namespace L2
open PySem PySem.Spec PyProof.Rows
theorem slen (a b : Str) : (a ++ b).length = a.length + b.length := by simp only [len_cps, cps_append, List.length_append]
theorem len_nil : Str.empty.length = 0 := by decide +kernel
noncomputable def isK (t : Tree) : Bool := !t.isL
/-! ### deeds as data -/
noncomputable abbrev Deed := M.Deed Str
noncomputable def vDeed : Deed → List V
  | .take x i => [.str (Str.ofString "take"), .str x, .int i]
  | .join f i j h => [.str (Str.ofString "join"), .str f, .int i, .int j, .int h]
  | .put i s => [.str (Str.ofString "put"), .int i, .int s]
  | .fetch s i => [.str (Str.ofString "fetch"), .int s, .int i]
noncomputable def dDeed : Deed → D
  | .take x i => .tup [.str (Str.ofString "take"), .str x, .int i]
  | .join f i j h => .tup [.str (Str.ofString "join"), .str f, .int i, .int j, .int h]
  | .put i s => .tup [.str (Str.ofString "put"), .int i, .int s]
  | .fetch s i => .tup [.str (Str.ofString "fetch"), .int s, .int i]
theorem deed_of {H : Hp} {d : Deed} {v : V} (h : Dt H (dDeed d) v) : ∃ a, v = .ref a ∧ H a = some (.tup (vDeed d)) := by
  cases d <;> (obtain ⟨a, vs, rfl, e, h⟩ := isD_tup.mp h; refine ⟨a, rfl, ?_⟩; simp only [isDs_cons, isD_str, isD_int, isDs_nil] at h)
  · obtain ⟨_, _, rfl, rfl, _, _, rfl, rfl, _, _, rfl, rfl, rfl⟩ := h; exact e
  · obtain ⟨_, _, rfl, rfl, _, _, rfl, rfl, _, _, rfl, rfl, _, _, rfl, rfl, _, _, rfl, rfl, rfl⟩ := h; exact e
  · obtain ⟨_, _, rfl, rfl, _, _, rfl, rfl, _, _, rfl, rfl, rfl⟩ := h; exact e
  · obtain ⟨_, _, rfl, rfl, _, _, rfl, rfl, _, _, rfl, rfl, rfl⟩ := h; exact e
theorem deed_mk {H : Hp} {d : Deed} {a : Addr} (e : H a = some (.tup (vDeed d))) : Dt H (dDeed d) (.ref a) := by
  cases d
  · exact Dt.tup e (.cons (isD_str.mpr rfl) (.cons (isD_str.mpr rfl) (.cons (isD_int.mpr rfl) .nil)))
  · exact Dt.tup e (.cons (isD_str.mpr rfl) (.cons (isD_str.mpr rfl) (.cons (isD_int.mpr rfl) (.cons (isD_int.mpr rfl) (.cons (isD_int.mpr rfl) .nil)))))
  · exact Dt.tup e (.cons (isD_str.mpr rfl) (.cons (isD_int.mpr rfl) (.cons (isD_int.mpr rfl) .nil)))
  · exact Dt.tup e (.cons (isD_str.mpr rfl) (.cons (isD_int.mpr rfl) (.cons (isD_int.mpr rfl) .nil)))
theorem dDeed_dp (d : Deed) : (dDeed d).dp ≤ 1 := by cases d <;> exact Nat.le_refl 1
/-- the words -/
theorem w_tj : (Str.ofString "take" == Str.ofString "join") = false := by decide +kernel
theorem w_tp : (Str.ofString "take" == Str.ofString "put") = false := by decide +kernel
theorem w_tf : (Str.ofString "take" == Str.ofString "fetch") = false := by decide +kernel
theorem w_jt : (Str.ofString "join" == Str.ofString "take") = false := by decide +kernel
theorem w_jp : (Str.ofString "join" == Str.ofString "put") = false := by decide +kernel
theorem w_jf : (Str.ofString "join" == Str.ofString "fetch") = false := by decide +kernel
theorem w_pt : (Str.ofString "put" == Str.ofString "take") = false := by decide +kernel
theorem w_pj : (Str.ofString "put" == Str.ofString "join") = false := by decide +kernel
theorem w_pf : (Str.ofString "put" == Str.ofString "fetch") = false := by decide +kernel
theorem w_ft : (Str.ofString "fetch" == Str.ofString "take") = false := by decide +kernel
theorem w_fj : (Str.ofString "fetch" == Str.ofString "join") = false := by decide +kernel
theorem w_fp : (Str.ofString "fetch" == Str.ofString "put") = false := by decide +kernel
theorem w_no {x y : Str} (h : (x == y) = false) : decide (V.str x = V.str y) = false := decide_eq_false fun z => by
  have := V.str.inj z
  rw [this] at h
  simp at h
theorem w_yes {x : Str} : decide (V.str x = V.str x) = true := decide_eq_true rfl
/-! ### list(x), tuple(x) -/
noncomputable def rListF : List V → Hp → VK → Prop := fun xs H Q => ∃ p ys, xs = [.ref p] ∧ itemsOf (H p) = some ys ∧ NewO H (.lst ys) Q
theorem call_listF {X : Cx} : CallR X (.type "list") rListF := fun pins s σ H xs us Q I r h => by
  obtain ⟨p, ys, e, h, q⟩ := h
  exact call_list_of pins s σ H xs us Q I r ⟨p, ys, e, itemsOf_sq h, q⟩
theorem a_rListF {xs : List V} {H : Hp} {Q : VK} : rListF xs H Q = (∃ p ys, xs = [.ref p] ∧ itemsOf (H p) = some ys ∧ NewO H (.lst ys) Q) := rfl
noncomputable def rTupF : List V → Hp → VK → Prop := fun xs H Q => ∃ p ys, xs = [.ref p] ∧ H p = some (.lst ys) ∧ NewO H (.tup ys) Q
theorem call_tupF {X : Cx} : CallR X (.type "tuple") rTupF := fun pins s σ H xs us Q I r h => by
  obtain ⟨p, ys, e, h, q⟩ := h
  exact call_tuple_of pins s σ H xs us Q I r ⟨p, ys, e, .inl ⟨SqL.of h, q⟩⟩
theorem a_rTupF {xs : List V} {H : Hp} {Q : VK} : rTupF xs H Q = (∃ p ys, xs = [.ref p] ∧ H p = some (.lst ys) ∧ NewO H (.tup ys) Q) := rfl
/-! ### a tuple cut, or left whole -/
noncomputable def rSlU (K : PySem.W.Frag) : V → Option Int → Option Int → Hp → VK → Prop := fun x lo hi H Q => ∃ a xs, x = .ref a ∧ H a = some (.tup xs) ∧
  ((HT.sIx xs.length 0 lo = 0 ∧ HT.sIx xs.length xs.length hi = xs.length) → Q (.ref a) H) ∧ (¬ (HT.sIx xs.length 0 lo = 0 ∧ HT.sIx xs.length xs.length hi = xs.length) → NewO H (.tup (cutV xs lo hi)) Q)
theorem a_rSlU {K : PySem.W.Frag} {x : V} {lo hi : Option Int} {H : Hp} {Q : VK} : rSlU K x lo hi H Q = (∃ a xs, x = .ref a ∧ H a = some (.tup xs) ∧
  ((HT.sIx xs.length 0 lo = 0 ∧ HT.sIx xs.length xs.length hi = xs.length) → Q (.ref a) H) ∧ (¬ (HT.sIx xs.length 0 lo = 0 ∧ HT.sIx xs.length xs.length hi = xs.length) → NewO H (.tup (cutV xs lo hi)) Q)) := rfl
open HT in
theorem item_whole {P : Program} {w : World} {AA : Around} {EE : Value → Shared → Prop} {s : Shared} {t sl : Addr} {its : Array Value} {vl vu : Value} {lo hi : Option Int} {Q : Value → Shared → Prop} (ht : IsTup s.heap t its) (hs : s.heap.IsSliceOf sl vl vu .none) (pl : IsPart vl lo) (pu : IsPart vu hi)
    (hw : sIx its.size 0 lo = 0 ∧ sIx its.size its.size hi = its.size) (h : Q (.ref t) s) : wpAny (model P w) AA (getItem (.ref t) (.ref sl)) Q EE s := by
  obtain ⟨os, a1, a2, a3⟩ := id hs
  unfold getItem
  try with_reducible refine wpAny_holding ?_
  first | refine wpAny_bind (wpAny_pure ?_) | skip
  refine wpAny_bind (wpAny_sequenceKey ht.typeIs (by decide) ?_)
  have kind : s.TypeIs (.ref sl) "slice" := ⟨os, a1, a2⟩
  refine wpAny_bind (wpAny_callSpecial?_slot (name := Str.ofString "__getitem__") ht.typeIs PyProof.Rows.slot_tuple_getitem
    (wpAny_call_entry PyProof.Rows.slot_tuple_getitem ht.typeIs entry_tuple_getitem ?_ (args_tuple_getitem _ _)))
  show wpAny _ _ (Builtin.Tuple.tupleItemsOf (.ref t) >>= _) _ _ s
  refine wpAny_bind (tupleItemsOf_ ht ?_)
  refine wpAny_bind (wpAny_typeOf kind ?_)
  rw [if_pos (by decide)]
  refine wpAny_bind (sliceApplied_gen hs pl pu ?_)
  have yes : (((sIx its.size 0 lo : Nat) : Int) == 0 && (1 : Int) == 1 && (sIx its.size its.size hi - sIx its.size 0 lo) == its.size) = true := by
    rw [hw.1, hw.2]; simp
  show wpAny _ _ (if (((sIx its.size 0 lo : Nat) : Int) == 0 && (1 : Int) == 1 && (sIx its.size its.size hi - sIx its.size 0 lo) == its.size) = true then _ else _) _ _ s
  rw [if_pos yes]
  refine wpAny_bind (wpAny_bind (m := typeOf _) (wpAny_typeOf ht.typeIs (wpAny_pure ?_)))
  rw [if_pos (by decide)]
  first
    | exact wpAny_bind (wpAny_pure (wpAny_pure ⟨_, rfl, wpAny_pure h⟩))
    | exact wpAny_pure ⟨_, rfl, wpAny_pure h⟩
    | exact wpAny_bind (wpAny_rule (wpAny_pure ⟨_, rfl, wpAny_pure h⟩))
theorem sl_tupU {X : Cx} : SlR X (rSlU X.K) := by
  intro pins s σ H x v vl vu lo hi sl Q I rx hs pl pu h
  obtain ⟨a, xs, rfl, hx, h1, h2⟩ := h
  by_cases hw : HT.sIx xs.length 0 lo = 0 ∧ HT.sIx xs.length xs.length hi = xs.length
  · cases rx
    obtain ⟨its, r, ht, hz⟩ := I.tuple (SqT.of (K := X.K) hx)
    have hlen : its.toArray.size = xs.length := by rw [List.size_toArray]; exact r.length.symm
    exact ⟨"tuple", _, PyProof.Rows.slot_tuple_getitem.lookup, ht.typeIs, item_whole ht hs pl pu (by rw [hlen]; exact hw) ⟨.ref a, _, I, rfl, h1 hw⟩⟩
  · exact sl_tup pins s σ H (.ref a) v vl vu lo hi sl Q I rx hs pl pu ⟨a, xs, rfl, SqT.of hx, hw, h2 hw⟩
/-! ### states: two lists -/
theorem st_mk {H : Hp} {B S : List D} {p b s : Addr} {vs us : List V} (e : H p = some (.tup [.ref b, .ref s])) (eb : H b = some (.lst vs)) (es : H s = some (.lst us)) (db : Dts H B vs) (ds : Dts H S us) : Dt H (.tup [.lst B, .lst S]) (.ref p) :=
  Dt.tup e (.cons (Dt.lst eb db) (.cons (Dt.lst es ds) .nil))
/-- a new state, its lists new -/
noncomputable def RetS (H : Hp) (st : List D × List D) (Q : VK) : Prop := ∀ p b s vs us H', Same H H' → H' p = some (.tup [.ref b, .ref s]) → H b = none → H s = none → b ≠ s → H' b = some (.lst vs) → H' s = some (.lst us) → Dts H' st.1 vs → Dts H' st.2 us → Q (.ref p) H'
theorem RetS.d {H : Hp} {B S : List D} {Q : VK} (h : RetD H (.tup [.lst B, .lst S]) Q) : RetS H (B, S) Q := fun p b s vs us H' S' e _ _ _ eb es db ds => h _ _ S' (st_mk e eb es db ds)
theorem Dts.len {H : Hp} {B : List D} {vs : List V} (h : Dts H B vs) : vs.length = B.length := h.length
theorem getD_at {H : Hp} {B : List D} {vs : List V} {i : Int} (h : Dts H B vs) (hi : M.inN B.length i) : ∃ v, atI vs i = some v ∧ Dt H (B.getD i.toNat .non) v := by
  have hlt : i.toNat < B.length := by have := hi.1; have := hi.2; omega
  obtain ⟨v, e, d⟩ := h.get (List.getElem?_eq_getElem hlt)
  refine ⟨v, atI_int hi.1 e, ?_⟩
  rw [List.getD_eq_getElem?_getD, List.getElem?_eq_getElem hlt]
  exact d
end L2

namespace L2
open PySem PySem.Spec PyProof.Rows
/-! ### a body cut in two: the rest is a letter -/
section
variable {D : Ends} {σ : St} {H : Hp} {a b c d e f g h i j k l B : TS}
end
/-! ### the rest, with its ends, as one letter -/
section
variable {D : Ends} {σ : St} {H : Hp} {a b c d e f B : TS}
theorem cutC1 (q : ∀ C : St → Hp → Prop, C = B D → tSeq a (fun _ => C) D σ H) : tSeq a B D σ H := q _ rfl
theorem cutC2 (q : ∀ C : St → Hp → Prop, C = B D → tSeq a (tSeq b fun _ => C) D σ H) : tSeq a (tSeq b B) D σ H := q _ rfl
theorem cutC3 (q : ∀ C : St → Hp → Prop, C = B D → tSeq a (tSeq b (tSeq c fun _ => C)) D σ H) : tSeq a (tSeq b (tSeq c B)) D σ H := q _ rfl
theorem cutC4 (q : ∀ C : St → Hp → Prop, C = B D → tSeq a (tSeq b (tSeq c (tSeq d fun _ => C))) D σ H) : tSeq a (tSeq b (tSeq c (tSeq d B))) D σ H := q _ rfl
end
theorem lst1 {p : List Value → Prop} (h : ∀ a, p [a]) (us : List Value) (hl : us.length = 1) : p us := by
  obtain _ | ⟨a, us⟩ := us
  · cases hl
  obtain _ | ⟨_, _⟩ := us
  · exact h a
  · simp at hl
theorem lst2 {p : List Value → Prop} (h : ∀ a b, p [a, b]) (us : List Value) (hl : us.length = 2) : p us := by
  obtain _ | ⟨a, us⟩ := us
  · cases hl
  obtain _ | ⟨b, us⟩ := us
  · cases hl
  obtain _ | ⟨_, _⟩ := us
  · exact h a b
  · simp at hl
theorem lst3 {p : List Value → Prop} (h : ∀ a b c, p [a, b, c]) (us : List Value) (hl : us.length = 3) : p us := by
  obtain _ | ⟨a, us⟩ := us
  · cases hl
  obtain _ | ⟨b, us⟩ := us
  · cases hl
  obtain _ | ⟨c, us⟩ := us
  · cases hl
  obtain _ | ⟨_, _⟩ := us
  · exact h a b c
  · simp at hl
theorem lst4 {p : List Value → Prop} (h : ∀ a b c d, p [a, b, c, d]) (us : List Value) (hl : us.length = 4) : p us := by
  obtain _ | ⟨a, us⟩ := us
  · cases hl
  obtain _ | ⟨b, us⟩ := us
  · cases hl
  obtain _ | ⟨c, us⟩ := us
  · cases hl
  obtain _ | ⟨d, us⟩ := us
  · cases hl
  obtain _ | ⟨_, _⟩ := us
  · exact h a b c d
  · simp at hl
theorem Fun.binds1 {K : PySem.W.Frag} {x qual : Str} {st : Stmt} {f : Addr} {fd : FuncData} {ps : List Str} (F : Fun K x qual st f fd) (hn : ps.length = 1) (h : ∀ (kV doc pm : Value) (an : Option Addr) (cdv ct : Value) (a : Value), bindArgs (PySem.W.fnOf x qual (defArgs st) (defBody st) (defScope st) .none kV doc pm an cdv ct) ⟨[a], []⟩ = pure (ps.zip [a])) : Binds K fd ps [] :=
  F.binds fun kV doc pm an cdv ct us hl => lst1 (p := fun us => bindArgs (PySem.W.fnOf x qual (defArgs st) (defBody st) (defScope st) .none kV doc pm an cdv ct) ⟨us, []⟩ = pure (ps.zip us)) (h kV doc pm an cdv ct) us (hl.trans hn)
theorem Fun.binds2 {K : PySem.W.Frag} {x qual : Str} {st : Stmt} {f : Addr} {fd : FuncData} {ps : List Str} (F : Fun K x qual st f fd) (hn : ps.length = 2) (h : ∀ (kV doc pm : Value) (an : Option Addr) (cdv ct : Value) (a b : Value), bindArgs (PySem.W.fnOf x qual (defArgs st) (defBody st) (defScope st) .none kV doc pm an cdv ct) ⟨[a, b], []⟩ = pure (ps.zip [a, b])) : Binds K fd ps [] :=
  F.binds fun kV doc pm an cdv ct us hl => lst2 (p := fun us => bindArgs (PySem.W.fnOf x qual (defArgs st) (defBody st) (defScope st) .none kV doc pm an cdv ct) ⟨us, []⟩ = pure (ps.zip us)) (h kV doc pm an cdv ct) us (hl.trans hn)
theorem Fun.binds3 {K : PySem.W.Frag} {x qual : Str} {st : Stmt} {f : Addr} {fd : FuncData} {ps : List Str} (F : Fun K x qual st f fd) (hn : ps.length = 3) (h : ∀ (kV doc pm : Value) (an : Option Addr) (cdv ct : Value) (a b c : Value), bindArgs (PySem.W.fnOf x qual (defArgs st) (defBody st) (defScope st) .none kV doc pm an cdv ct) ⟨[a, b, c], []⟩ = pure (ps.zip [a, b, c])) : Binds K fd ps [] :=
  F.binds fun kV doc pm an cdv ct us hl => lst3 (p := fun us => bindArgs (PySem.W.fnOf x qual (defArgs st) (defBody st) (defScope st) .none kV doc pm an cdv ct) ⟨us, []⟩ = pure (ps.zip us)) (h kV doc pm an cdv ct) us (hl.trans hn)
theorem Fun.binds4 {K : PySem.W.Frag} {x qual : Str} {st : Stmt} {f : Addr} {fd : FuncData} {ps : List Str} (F : Fun K x qual st f fd) (hn : ps.length = 4) (h : ∀ (kV doc pm : Value) (an : Option Addr) (cdv ct : Value) (a b c d : Value), bindArgs (PySem.W.fnOf x qual (defArgs st) (defBody st) (defScope st) .none kV doc pm an cdv ct) ⟨[a, b, c, d], []⟩ = pure (ps.zip [a, b, c, d])) : Binds K fd ps [] :=
  F.binds fun kV doc pm an cdv ct us hl => lst4 (p := fun us => bindArgs (PySem.W.fnOf x qual (defArgs st) (defBody st) (defScope st) .none kV doc pm an cdv ct) ⟨us, []⟩ = pure (ps.zip us)) (h kV doc pm an cdv ct) us (hl.trans hn)
theorem Dts.strs {H : Hp} {f : Nat → Str} {n : Nat} {vs : List V} (h : Dts H ((List.range n).map fun k => D.str (f k)) vs) : vs = ((List.range n).map f).map V.str := by
  have : ((List.range n).map fun k => D.str (f k)) = ((List.range n).map f).map D.str := by rw [List.map_map]; rfl
  rw [this] at h
  exact Dts.of_str h
end L2

namespace L2
open PySem PySem.Spec PyProof.Rows
section
variable {X : Cx} {pins : List (Addr × Obj)} {σ : St} {H H' : Hp} {s : Shared} {h' : Heap}
/-- some untracked records of ours have turned -/
theorem turnedL {fp : List Addr} {t' : Nat} (I : Inv X pins σ H s) (k : ∀ b o, b ∉ fp → s.heap.get? b = some o → h'.get? b = some o) (hf : ∀ b ∈ fp, FpOk X pins H b) : Inv X pins σ H { s with heap := h', toks := t' } := by
  have nit : ∀ b u, H b = some u → b ∉ fp := fun b u e z => by
    have := (hf b z).1
    rw [e] at this; cases this
  have far : ∀ b ∈ fp, b ≠ X.env.locals := fun b z => (hf b z).2.1
  refine I.step (g' := s.gens) (d' := s.drawn) (ch := fp) (fun b hb => ?_) (fun b o _ _ hc e _ => k b o hc e) (fun b o _ _ hc e _ => ⟨o.slots, k b o hc e⟩) (fun _ _ _ _ n => n) (fun b o hc e => ⟨o, k b o hc e⟩) (fun _ _ e => e) (fun _ _ _ e => e) (fun b ps e => ⟨#[], by rw [e]; simp⟩) (fun m hm => ?_) (fun b u e => ?_) I.bare
  · obtain ⟨_, f1, _, f3, f4, f5⟩ := hf b hb
    exact ⟨f3, f1, f4, f5⟩
  · obtain ⟨o, es, ep, ho, r⟩ := hm
    exact ⟨o, es, ep, k _ o (fun z => far _ z rfl) ho, r⟩
  · refine (I.hok b u e).stay (fun c v hc q => k c v ?_ q) (fun _ q => q) fun _ _ q => q
    rcases hc with z | z
    · rw [z]; exact nit b u e
    · exact nit c _ z
/-- a pair that an iterator of ours has made -/
theorem pairLaid {fp : List Addr} {t' : Nat} {x y : V} {u v : Value} (I : Inv X pins σ H s) (hx : RelV x u) (hy : RelV y v) (hf : ∀ b ∈ fp, FpOk X pins H b) (ho : ∀ b ∈ fp, ∃ o, s.heap.get? b = some o)
    (new : h'.get? s.heap.objs.size = some { cls := .type "tuple", data := .seq #[u, v] }) (k : ∀ b o, b ∉ fp → s.heap.get? b = some o → h'.get? b = some o) :
    Inv X pins σ (upd H s.heap.objs.size (.tup [x, y])) { s with heap := h', toks := t' } ∧ ∀ b ∈ fp, FpOk X pins (upd H s.heap.objs.size (.tup [x, y])) b := by
  have lt : ∀ b ∈ fp, b ≠ s.heap.objs.size := fun b hb => by
    obtain ⟨o, e⟩ := ho b hb
    exact Nat.ne_of_lt (Heap.lt_size e)
  have hf' : ∀ b ∈ fp, FpOk X pins (upd H s.heap.objs.size (.tup [x, y])) b := fun b hb => by
    obtain ⟨f0, r⟩ := hf b hb
    exact ⟨by rw [upd_ne (lt b hb)]; exact f0, r⟩
  refine ⟨?_, hf'⟩
  have I1 : Inv X pins σ (upd H s.heap.objs.size (.tup [x, y])) { s with heap := s.heap.push { cls := .type "tuple", data := .seq #[u, v] } } :=
    I.laid (t' := s.toks) (fun b o q => Heap.get?_push_of_some _ q) (Nat.le_refl _) ⟨show 2 ≤ sizeLine by decide, [u, v], .cons hx (.cons hy .nil), IsTup.new _ _⟩
  refine turnedL (s := { s with heap := s.heap.push { cls := .type "tuple", data := .seq #[u, v] } }) (fp := fp) I1 (fun b o hb e => ?_) hf'
  rcases Heap.get?_push_cases e with ⟨rfl, rfl⟩ | q
  · exact new
  · exact k b o hb q
end
/-! ### enumerate(l) -/
noncomputable def Ite (a : Addr) : It := ⟨fun i H => ∃ xs x, H a = some (.lst xs) ∧ xs[i]? = some x,
  fun i H x H' => ∃ T y, x = .ref T ∧ H T = none ∧ H' = upd H T (.tup [.int (i : Int), y]) ∧ ∀ ys, H a = some (.lst ys) → ys[i]? = some y,
  fun i H => ∃ xs, H a = some (.lst xs) ∧ xs.length ≤ i⟩
noncomputable def WalkE (x : V) (H : Hp) (R : It → Hp → Prop) : Prop := ∃ a, x = .ref a ∧ (∃ xs, H a = some (.lst xs)) ∧ R (Ite a) H
theorem WalkE.for {a : Addr} {xs : List V} {g : TG} {tb : TS} {D : Ends} {σ : St} {H : Hp} (e : H a = some (.lst xs)) (Pv : Nat → St → Hp → Prop) (h0 : Pv 0 σ H) (hl : ∀ i σ H, i ≤ xs.length → Pv i σ H → H a = some (.lst xs))
    (hs : ∀ i x σ H T H', xs[i]? = some x → Pv i σ H → Same H H' → H T = none → H' T = some (.tup [.int (i : Int), x]) → g (.ref T) σ H' fun σ2 H2 => tb { D with nx := Pv (i + 1), ct := Pv (i + 1), bk := D.nx } σ2 H2) (hd : ∀ σ H, Pv xs.length σ H → D.nx σ H) : WalkE (.ref a) H fun J H1 => ForW J g tb D σ H1 := by
  refine ⟨a, rfl, ⟨xs, e⟩, fun i m σ H => i + m = xs.length ∧ Pv i σ H, ⟨xs.length, by simp, h0⟩, fun i m σ H h => ?_⟩
  obtain ⟨h1, h2⟩ := h
  have ea := hl i σ H (by omega) h2
  by_cases c : m = 0
  · subst c
    have : i = xs.length := by omega
    subst this
    exact .inl ⟨⟨xs, ea, Nat.le_refl _⟩, hd σ H h2⟩
  · have hi : i < xs.length := by omega
    refine .inr ⟨⟨xs, _, ea, List.getElem?_eq_getElem hi⟩, Pv (i + 1), fun σ' H' q => ⟨m - 1, by omega, by omega, q⟩, fun x H' y => ?_⟩
    obtain ⟨T, z, rfl, nT, rfl, hz⟩ := y
    exact hs i z σ H T _ (hz xs ea) h2 (same_new nT _) nT upd_same
/-! ### zip(l, m) -/
noncomputable def Itz (a b : Addr) : It := ⟨fun i H => ∃ xs ys x y, H a = some (.lst xs) ∧ H b = some (.lst ys) ∧ xs[i]? = some x ∧ ys[i]? = some y,
  fun i H x H' => ∃ T y z, x = .ref T ∧ H T = none ∧ H' = upd H T (.tup [y, z]) ∧ (∀ ys, H a = some (.lst ys) → ys[i]? = some y) ∧ ∀ ys, H b = some (.lst ys) → ys[i]? = some z,
  fun i H => ∃ xs ys, H a = some (.lst xs) ∧ H b = some (.lst ys) ∧ (xs.length ≤ i ∨ ys.length ≤ i)⟩
structure Apart5 (z TI TO i1 i2 : Addr) : Prop where
  a : TI ≠ z
  b : TO ≠ z
  c : i1 ≠ z
  d : i2 ≠ z
  e : TI ≠ TO
  f : TI ≠ i1
  g : TI ≠ i2
  h : TO ≠ i1
  i : TO ≠ i2
  j : i1 ≠ i2
theorem ne5 (n : Nat) : Apart5 (n + 4) (n + 2) (n + 3) n (n + 1) := by
  constructor <;> (intro z; have z' : @Eq Nat _ _ := z; omega)
noncomputable def WalkZ (x y : V) (H : Hp) (R : It → Hp → Prop) : Prop := ∃ a b, x = .ref a ∧ y = .ref b ∧ (∃ xs, H a = some (.lst xs)) ∧ (∃ xs, H b = some (.lst xs)) ∧ R (Itz a b) H
theorem boot_zip : bootBuiltins "zip" = some (.type "zip") := by decide +kernel
theorem WalkZ.for {a b : Addr} {xs ys : List V} {g : TG} {tb : TS} {D : Ends} {σ : St} {H : Hp} (e : H a = some (.lst xs)) (e2 : H b = some (.lst ys)) (hxy : xs.length = ys.length) (Pv : Nat → St → Hp → Prop) (h0 : Pv 0 σ H) (hl : ∀ i σ H, i ≤ xs.length → Pv i σ H → H a = some (.lst xs) ∧ H b = some (.lst ys))
    (hs : ∀ i x y σ H T H', xs[i]? = some x → ys[i]? = some y → Pv i σ H → Same H H' → H T = none → H' T = some (.tup [x, y]) → g (.ref T) σ H' fun σ2 H2 => tb { D with nx := Pv (i + 1), ct := Pv (i + 1), bk := D.nx } σ2 H2) (hd : ∀ σ H, Pv xs.length σ H → D.nx σ H) : WalkZ (.ref a) (.ref b) H fun J H1 => ForW J g tb D σ H1 := by
  refine ⟨a, b, rfl, rfl, ⟨xs, e⟩, ⟨ys, e2⟩, fun i m σ H => i + m = xs.length ∧ Pv i σ H, ⟨xs.length, by simp, h0⟩, fun i m σ H h => ?_⟩
  obtain ⟨h1, h2⟩ := h
  obtain ⟨ea, eb⟩ := hl i σ H (by omega) h2
  by_cases c : m = 0
  · subst c
    have : i = xs.length := by omega
    subst this
    exact .inl ⟨⟨xs, ys, ea, eb, .inl (Nat.le_refl _)⟩, hd σ H h2⟩
  · have hi : i < xs.length := by omega
    refine .inr ⟨⟨xs, ys, _, _, ea, eb, List.getElem?_eq_getElem hi, List.getElem?_eq_getElem (by omega)⟩, Pv (i + 1), fun σ' H' q => ⟨m - 1, by omega, by omega, q⟩, fun x H' y => ?_⟩
    obtain ⟨T, z1, z2, rfl, nT, rfl, hz1, hz2⟩ := y
    exact hs i z1 z2 σ H T _ (hz1 xs ea) (hz2 ys eb) h2 (same_new nT _) nT upd_same
end L2

namespace L2
open PySem PySem.Spec PyProof.Rows
/-! ### greater whole numbers -/
noncomputable abbrev bits (x : Int) : Nat := Builtin.Int.intBits x
/-! ### dicts by texts -/
noncomputable def GivD (H : Hp) (p : Addr) (giv : Str → Int) (ok : Str → Prop) : Prop := ∃ kvs : List (Key × V), H p = some (.dK kvs) ∧ ∀ x, ok x → valV kvs (.inr x) = some (.int (giv x))
noncomputable abbrev Four := Int × Int × Int × Int
noncomputable def vFour (q : Four) : List V := [.int q.1, .int q.2.1, .int q.2.2.1, .int q.2.2.2]
noncomputable def MeanD (H : Hp) (p : Addr) (mean : Str → Four) (ok : Str → Prop) : Prop := ∃ kvs : List (Key × V), H p = some (.dK kvs) ∧ ∀ f, ok f → ∃ a, valV kvs (.inr f) = some (.ref a) ∧ H a = some (.tup (vFour (mean f)))
theorem GivD.same {H H' : Hp} {p : Addr} {giv : Str → Int} {ok : Str → Prop} (h : GivD H p giv ok) (S : Same H H') : GivD H' p giv ok := by
  obtain ⟨kvs, e, q⟩ := h
  exact ⟨kvs, S _ _ e, q⟩
theorem MeanD.same {H H' : Hp} {p : Addr} {mean : Str → Four} {ok : Str → Prop} (h : MeanD H p mean ok) (S : Same H H') : MeanD H' p mean ok := by
  obtain ⟨kvs, e, q⟩ := h
  exact ⟨kvs, S _ _ e, fun f hf => let ⟨a, h1, h2⟩ := q f hf; ⟨a, h1, S _ _ h2⟩⟩
theorem GivD.get {H : Hp} {p : Addr} {giv : Str → Int} {ok : Str → Prop} {x : Str} (h : GivD H p giv ok) (hx : ok x) : DGet H p (.str x) (some (.int (giv x))) := by
  obtain ⟨kvs, e, q⟩ := h
  exact .inl ⟨kvs, .inr x, Rd.of e, rfl, (q x hx).symm⟩
theorem MeanD.get {H : Hp} {p : Addr} {mean : Str → Four} {ok : Str → Prop} {f : Str} (h : MeanD H p mean ok) (hf : ok f) : ∃ a, DGet H p (.str f) (some (.ref a)) ∧ H a = some (.tup (vFour (mean f))) := by
  obtain ⟨kvs, e, q⟩ := h
  obtain ⟨a, h1, h2⟩ := q f hf
  exact ⟨a, .inl ⟨kvs, .inr f, Rd.of e, rfl, h1.symm⟩, h2⟩
end L2

namespace L2
open PySem PySem.Spec PyProof.Rows
/-! ### range(a, b, -1) -/
section
variable {X : Cx} {tg : Expr}
end
/-! ### l.index(m), a list of whole numbers -/
section
variable {X : Cx}
noncomputable def isInt (m : Int) : Value → Bool | .int i _ => i == m | _ => false
theorem vals_intsAt : ∀ {is : List Int} {its : List Value}, Vals (is.map V.int) its → ∀ j (hj : j < its.length), ∃ t, its[j] = .int (is.getD j 0) t
  | [], _, .nil, j, hj => absurd hj (by simp)
  | i :: is, _, .cons r rr, j, hj => by
    obtain ⟨t, rfl⟩ := r
    cases j with
    | zero => exact ⟨t, rfl⟩
    | succ j => simpa using vals_intsAt rr j (by simpa using hj)
noncomputable def rIndexI : V → List V → Hp → VK → Prop := fun x vs H Q => ∃ (l : Addr) (is : List Int) (m : Int) (j : Nat), x = .ref l ∧ vs = [.int m] ∧ H l = some (.lst (is.map V.int)) ∧ is[j]? = some m ∧ (∀ i : Nat, i < j → is[i]? ≠ some m) ∧ Q (.int j) H
theorem mt_indexI : MtR X "list.index" rIndexI := by
  intro pins s σ H x vs v us Q I rx rv h
  obtain ⟨l, is, m, j, rfl, rfl, hH, hj, hn, q⟩ := h
  cases rx
  obtain ⟨u, rfl, ru⟩ := rv.one
  obtain ⟨t, rfl⟩ := ru
  obtain ⟨z, its, n, r, hl, e⟩ := I.lstM hH
  rw [List.length_map] at hl z
  have hj1 : j < is.length := (List.getElem?_eq_some_iff.mp hj).1
  have hz : sizeLine < 2 ^ 62 := by decide
  refine call_meets F.slot_list_index ⟨_, e, rfl⟩ F.entry_list_index (F.args_list_index_2 _ _)
    (MeetsSeq.list_index l its.toArray n (.int m t) (isInt m) (fun y hy => ?_) j (by simp; (first | lia | omega)) (by (first | (clear hH hj hl e; lia) | omega)) ?_ fun k hk hkj => ?_) ⟨e, ?_⟩
  · obtain ⟨k, hk, rfl⟩ := List.mem_iff_getElem.mp (by simpa using hy)
    obtain ⟨t', e'⟩ := vals_intsAt r k hk
    rw [e']
    have := MeetsSeq.EqGives.int (is.getD k 0) m t' t
    simpa [isInt] using this
  · obtain ⟨t', e'⟩ := vals_intsAt r j (by (first | lia | omega))
    simp only [List.getElem_toArray, e', isInt, beq_iff_eq]
    simp [List.getD, hj]
  · obtain ⟨t', e'⟩ := vals_intsAt r k (by simpa using hk)
    have := hn k hkj
    simp only [List.getElem_toArray, e', isInt, beq_eq_false_iff_ne, ne_eq]
    intro e2
    apply this
    rw [List.getElem?_eq_getElem (by (first | (clear hH hj z e' this e2 hl e hz; lia) | omega))]
    simp [List.getD, List.getElem?_eq_getElem (show k < is.length by (first | (clear hH hj z e' this e2 hl e hz; lia) | omega))] at e2
    rw [e2]
  · exact ⟨.int j, H, I.kept (t' := s.toks + 1) fun b o e => e, ⟨_, rfl⟩, q⟩
end
theorem a_rIndexI {x : V} {vs : List V} {H : Hp} {Q : VK} : rIndexI x vs H Q = (∃ (l : Addr) (is : List Int) (m : Int) (j : Nat), x = .ref l ∧ vs = [.int m] ∧ H l = some (.lst (is.map V.int)) ∧ is[j]? = some m ∧ (∀ i : Nat, i < j → is[i]? ≠ some m) ∧ Q (.int j) H) := rfl
/-! ### the heap without one list, which is being written -/
theorem Dts.snoc {H : Hp} {ds : List D} {d : D} {us : List V} {v : V} (h : Dts H ds us) (g : Dt H d v) : Dts H (ds ++ [d]) (us ++ [v]) := h.append (.one g)
/-! ### a list walked within a comprehension -/
/-! ### any of a list of truth values -/
section
variable {X : Cx}
end
end L2

namespace L2
open PySem PySem.Spec PyProof.Rows
/-! ### reversed(l) -/
section
variable {X : Cx} {tg : Expr}
/-! ### for x in reversed(l), the list staying as it is -/
end
end L2

namespace L2
open PySem PySem.Spec PyProof.Rows
/-! ### l != l2, the items alike in this program and world -/
/-! ### dict(d) -/
end L2

namespace L2
open PySem PySem.Spec PyProof.Rows
open PySem.W (hideAll hideAll_get hideAll_none of_hideAll funFrames_hide fresh_of_stays flyingW_base)
/-! ### a try whose body has loops: the exception is looked at first -/
section
variable {X : Cx} {pins pn : List (Addr × Obj)} {σ : St} {H : Hp} {s : Shared} {E : XK}
end
/-! ### a dict's display -/
theorem a_tDisp {trs : List (TE × TE)} {σ : St} {H : Hp} {Q : VK} : tDisp trs σ H Q = (∀ p, H p = none → tPairs trs σ (upd H p (.dK [])) fun ps H2 => H2 p = some (.dK []) ∧ ∃ kvs : List (Key × V), ps = kvs.map (fun kv => (kV kv.1, kv.2)) ∧ kvs.length ≤ 15 ∧ Q (.ref p) (upd H2 p (.dK (mergeK [] kvs)))) := (rfl)
theorem a_pNil {σ : St} {H : Hp} {Q : List (V × V) → Hp → Prop} : tPairs [] σ H Q = Q [] H := (rfl)
theorem a_pCons {tk tv : TE} {r : List (TE × TE)} {σ : St} {H : Hp} {Q : List (V × V) → Hp → Prop} : tPairs ((tk, tv) :: r) σ H Q = (tk σ H fun x H1 => tv σ H1 fun y H2 => tPairs r σ H2 fun ps H3 => Q ((x, y) :: ps) H3) := (rfl)
end L2

namespace L2
open PySem PySem.Spec PyProof.Rows
/-! ### zip of lists, tuples and texts -/
section
variable {prog : Program} {w : World} {A : Around} {E : Value → Shared → Prop} {s : Shared}
theorem nextOf_tup {j l : Addr} {i : Nat} {its} {x : Value} {Q : Value → Shared → Prop} (t1 : s.heap.IsTupleIter j l i) (t2 : s.heap.IsTuple l its) (ex : its[i]? = some x)
    (q : ∀ h', h'.IsTupleIter j l (i + 1) → Heap.SameBut j s.heap h' → Q x { s with heap := h' }) : wpAny (model prog w) A (Builtin.SmallTypes.nextOf (.ref j)) Q E s := by
  obtain ⟨ob, g, gc, gd⟩ := id t1
  obtain ⟨ol, gl, _, nl, dl⟩ := t2
  unfold Builtin.SmallTypes.nextOf
  refine wpAny_bind (wpAny_callSpecial?_slot (name := Str.ofString "__next__") t1.typeIs F.slot_tuple_iterator_next (wpAny_call_entry F.slot_tuple_iterator_next t1.typeIs F.entry_tuple_iterator_next ?_ (F.args_tuple_iterator_next_1 _)))
  show wpAny _ _ (field (.ref j) 0 >>= _) _ _ s
  refine wpAny_bind (wpAny_field g gd (x := .ref l) rfl ?_); rw [if_neg (show ¬ ((Value.ref l == Value.none) = true) from Bool.false_ne_true)]
  show wpAny _ _ (field (.ref j) 1 >>= _) _ _ s
  refine wpAny_bind (wpAny_field g gd (x := .int i 0) rfl (show wpAny _ _ (seqItems? (.ref l) >>= _) _ _ s from wpAny_bind (wpAny_seqItems gl dl ?_)))
  simp only [ex, Int.toNat_natCast]
  refine wpAny_bind (wpAny_setField g gd (by simp) (wpAny_pure ⟨x, rfl, wpAny_pure (q _ ⟨_, Heap.get?_update_self _ g (Obj.isFreed_of_fields (Obj.data_mapFields gd _)), (Obj.cls_mapFields ..).trans gc, ?_⟩ (Heap.SameBut.update ..))⟩))
  rw [Obj.data_mapFields gd]; simp [rawInt]
theorem nextOf_tup_end {j l : Addr} {i : Nat} {its} {Q : Value → Shared → Prop} (nh : A.handled = none) (t1 : s.heap.IsTupleIter j l i) (t2 : s.heap.IsTuple l its) (ex : its[i]? = none)
    (q : ∀ h' e, Heap.ExtBut j s.heap h' → (∃ o, h'.get? e = some o ∧ o.cls = .type "StopIteration") → E (.ref e) { s with heap := h' }) : wpAny (model prog w) A (Builtin.SmallTypes.nextOf (.ref j)) Q E s := by
  obtain ⟨ob, g, gc, gd⟩ := id t1
  obtain ⟨ol, gl, _, nl, dl⟩ := t2
  unfold Builtin.SmallTypes.nextOf
  refine wpAny_bind (wpAny_callSpecial?_slot (name := Str.ofString "__next__") t1.typeIs F.slot_tuple_iterator_next (wpAny_call_entry F.slot_tuple_iterator_next t1.typeIs F.entry_tuple_iterator_next ?_ (F.args_tuple_iterator_next_1 _)))
  show wpAny _ _ (field (.ref j) 0 >>= _) _ _ s
  refine wpAny_bind (wpAny_field g gd (x := .ref l) rfl ?_); rw [if_neg (show ¬ ((Value.ref l == Value.none) = true) from Bool.false_ne_true)]
  show wpAny _ _ (field (.ref j) 1 >>= _) _ _ s
  refine wpAny_bind (wpAny_field g gd (x := .int i 0) rfl (show wpAny _ _ (seqItems? (.ref l) >>= _) _ _ s from wpAny_bind (wpAny_seqItems gl dl ?_)))
  simp only [ex, Int.toNat_natCast]
  refine wpAny_bind (wpAny_rule (wpAny_bind (wpAny_setField g gd (by simp) (show wpAny _ _ (newExc (.type "StopIteration") [] >>= _) _ _ _ from wpAny_bind ?_))))
  simp only [newTuple, newExc]
  refine wpAny_bind (wpAny_newObj_type (wpAny_bind (m := firstArgMember _ _) (wpAny_of_eq (a := Value.none) (by first | rfl | (simp only [firstArgMember]; rfl)) (wpAny_newObj_type ?_ (by size_fits)))) (by size_fits))
  unfold raiseNew
  refine wpAny_bind (wpAny_handled (by (first | rw [show A.in1.handled = none from nh] | rw [nh]); exact wpAny_bind (wpAny_pure (wpAny_throw (q _ _ (((Heap.SameBut.update ..).extBut.push _).push _) ⟨_, Heap.get?_push_size _ rfl, rfl⟩)))))
end
theorem drawsT {prog : Program} {w : World} {A : Around} (nh : A.handled = none) (j l : Addr) (ne : l ≠ j) (its : Array Value) :
    Draws prog w A j [j, l] its.size (fun i v => its[i]? = some v) (fun i h => h.IsTupleIter j l i ∧ h.IsTuple l its) where
  live := fun _ _ st => let ⟨o, q, _⟩ := st.1; ⟨o, q⟩
  frame := fun _ _ _ st k => ⟨st.1.at fun o e => k j (by simp) o e, let ⟨o, q, r⟩ := st.2; ⟨o, k l (by simp) o q, r⟩⟩
  item := fun i s Q E hi st q => nextOf_tup st.1 st.2 (x := its[i]) (by simp [hi]) fun h' a b => q _ h' s.toks (by simp [hi]) ⟨a, st.2.extBut b.extBut ne⟩ b
  done := fun s Q E st q => nextOf_tup_end nh st.1 st.2 (by simp) q
theorem Draws.map {prog : Program} {w : World} {A : Around} {j : Addr} {fp : List Addr} {n : Nat} {P P' : Nat → Value → Prop} {St : Nat → Heap → Prop} (D : Draws prog w A j fp n P St) (h : ∀ i v, P i v → P' i v) : Draws prog w A j fp n P' St where
  live := D.live
  frame := D.frame
  item := fun i s Q E hi st q => D.item i s Q E hi st fun x h' tk p => q x h' tk (h _ _ p)
  done := D.done
/-- the two drawn from, and the zip's own records, apart -/
structure ZApart (z TI TO i1 i2 : Addr) (f1 f2 : List Addr) : Prop where
  own : Apart5 z TI TO i1 i2
  m1 : i1 ∈ f1
  m2 : i2 ∈ f2
  z1 : z ∉ f1
  z2 : z ∉ f2
  t1 : TO ∉ f1
  t2 : TO ∉ f2
  x1 : i2 ∉ f1
  x2 : i1 ∉ f2
section
variable {prog : Program} {w : World} {A : Around} {E : Value → Shared → Prop} {s : Shared} {z TI TO i1 i2 : Addr} {f1 f2 : List Addr} {n1 n2 k : Nat} {P1 P2 : Nat → Value → Prop} {S1 S2 : Nat → Heap → Prop} {a b : Value}
theorem fr_but {h h' : Heap} {c : Addr} {f : List Addr} (e : Heap.ExtBut c h h') (n : c ∉ f) : ∀ b ∈ f, ∀ o, h.get? b = some o → h'.get? b = some o := fun b hb o q => e b o (fun y => n (y ▸ hb)) q
theorem zipD_item {Q : Value → Shared → Prop} (ap : ZApart z TI TO i1 i2 f1 f2) (D1 : Draws prog w A i1 f1 n1 P1 S1) (D2 : Draws prog w A i2 f2 n2 P2 S2) (qz : IsZip s.heap z TI TO .none) (qI : IsPair s.heap TI (.ref i1) (.ref i2)) (qO : IsPair s.heap TO a b)
    (st1 : S1 k s.heap) (st2 : S2 k s.heap) (l1 : k < n1) (l2 : k < n2)
    (q : ∀ h' tk x y, P1 k x → P2 k y → IsZip h' z TI TO (rawInt s.heap.objs.size) → IsPair h' TO x y → S1 (k + 1) h' → S2 (k + 1) h' → IsPair h' s.heap.objs.size x y →
      (∀ c o, c ≠ z → c ≠ TO → c ≠ i1 → c ≠ i2 → s.heap.get? c = some o → h'.get? c = some o) → Q (.ref s.heap.objs.size) { s with heap := h', toks := tk }) :
    wpAny (model prog w) A (Builtin.«zip.__next__» ⟨[.ref z], []⟩) (fun fin s' => ∃ v, fin = .done (.ret v) ∧ Q v s') E s := by
  show wpAny _ _ (field (.ref z) 2 >>= _) _ _ _
  refine wpAny_bind (wpAny_field qz rfl (x := .bool false) rfl (show wpAny _ _ (field (.ref z) 3 >>= _) _ _ _ from wpAny_bind (wpAny_field qz rfl (x := .ref TI) rfl (wpAny_bind (wpAny_seqItems qI rfl ?_)))))
  show wpAny _ _ (Builtin.SmallTypes.ownedTupleIsFree (.ref z) >>= _) _ _ _
  unfold Builtin.SmallTypes.ownedTupleIsFree
  refine wpAny_bind (wpAny_bind (wpAny_field qz rfl (x := .none) rfl (wpAny_pure ?_)))
  rw [if_pos rfl]
  refine wpAny_bind (wpAny_rule (wpAny_bind (wpAny_field qz rfl (x := .ref TO) rfl (wpAny_bind (wpAny_setField_rec qz (by simp) fun h₁ z₁ b₁ => wpAny_bind ?_)))))
  replace z₁ : IsZip h₁ z TI TO .ellipsis := z₁
  simp only [List.forIn_nil, List.forIn_cons, List.zipIdx_nil, List.zipIdx_cons]
  refine wpAny_bind (wpAny_bind (wpAny_onRaise (show wpAny _ _ (Builtin.SmallTypes.nextOf (.ref i1) >>= _) _ _ _ from wpAny_bind (D1.item k _ _ _ l1 (D1.frame _ _ _ st1 (fr_but b₁.extBut ap.z1)) fun x h₂ t₂ px s1 b₂ => wpAny_pure ?_))))
  have O₂ : IsPair h₂ TO a b := b₂.extBut _ _ ap.own.h (b₁.extBut _ _ ap.own.b qO)
  refine wpAny_bind (wpAny_seqItems O₂ rfl (wpAny_bind (wpAny_updateSeq_pair O₂ fun h₃ O₃ b₃ => wpAny_bind (wpAny_letGo (wpAny_pure ?_)))))
  replace O₃ : IsPair h₃ TO x b := O₃
  have st2' : S2 k h₃ := D2.frame _ _ _ (D2.frame _ _ _ (D2.frame _ _ _ st2 (fr_but b₁.extBut ap.z2)) (fr_but b₂.extBut ap.x2)) (fr_but b₃.extBut ap.t2)
  refine wpAny_bind (wpAny_bind (wpAny_onRaise (show wpAny _ _ (Builtin.SmallTypes.nextOf (.ref i2) >>= _) _ _ _ from wpAny_bind (D2.item k _ _ _ l2 st2' fun y h₄ t₄ py s2 b₄ => wpAny_pure ?_))))
  have O₄ : IsPair h₄ TO x b := b₄.extBut _ _ ap.own.i O₃
  refine wpAny_bind (wpAny_seqItems O₄ rfl (wpAny_bind (wpAny_updateSeq_pair O₄ fun h₅ O₅ b₅ => wpAny_bind (wpAny_letGo (wpAny_pure (wpAny_pure ?_))))))
  replace O₅ : IsPair h₅ TO x y := O₅
  refine wpAny_bind (wpAny_seqItems O₅ rfl (wpAny_bind (wpAny_newTuple ?_)))
  have sz : h₅.objs.size = s.heap.objs.size := by rw [b₅.1, b₄.1, b₃.1, b₂.1, b₁.1]
  have z₅ : IsZip h₅ z TI TO .ellipsis := b₅.extBut _ _ ap.own.b.symm (b₄.extBut _ _ ap.own.d.symm (b₃.extBut _ _ ap.own.b.symm (b₂.extBut _ _ ap.own.c.symm z₁)))
  have k₅ : ∀ c o, c ≠ z → c ≠ TO → c ≠ i1 → c ≠ i2 → s.heap.get? c = some o → h₅.get? c = some o := fun c o c1 c2 c3 c4 e => b₅.extBut _ _ c2 (b₄.extBut _ _ c4 (b₃.extBut _ _ c2 (b₂.extBut _ _ c3 (b₁.extBut _ _ c1 e))))
  have e1 : S1 (k + 1) h₅ := D1.frame _ _ _ (D1.frame _ _ _ (D1.frame _ _ _ s1 (fr_but b₃.extBut ap.t1)) (fr_but b₄.extBut ap.x1)) (fr_but b₅.extBut ap.t1)
  have e2 : S2 (k + 1) h₅ := D2.frame _ _ _ s2 (fr_but b₅.extBut ap.t2)
  have zl : z < h₅.objs.size := Heap.lt_size z₅
  show wpAny _ _ (Builtin.SmallTypes.ownedTupleHandOut (.ref z) (.ref h₅.objs.size) >>= _) _ _ _
  unfold Builtin.SmallTypes.ownedTupleHandOut
  refine wpAny_bind (wpAny_bind (wpAny_setField_rec (show IsZip (h₅.push { cls := .type "tuple", data := .seq #[x, y] }) z TI TO .ellipsis from Heap.get?_push_of_some _ z₅) (by simp) fun h₇ z₇ b₇ => ?_))
  replace z₇ : IsZip h₇ z TI TO (rawInt h₅.objs.size) := z₇
  refine wpAny_setField_rec z₇ (by simp) fun h₈ z₈ b₈ => wpAny_pure ⟨_, rfl, ?_⟩
  replace z₈ : IsZip h₈ z TI TO (rawInt h₅.objs.size) := z₈
  have up : ∀ c o, c ≠ z → h₅.get? c = some o → h₈.get? c = some o := fun c o c1 e => b₈.extBut _ _ c1 (b₇.extBut _ _ c1 (Heap.get?_push_of_some _ e))
  have T₈ : IsPair h₈ h₅.objs.size x y := b₈.extBut _ _ (Nat.ne_of_gt zl) (b₇.extBut _ _ (Nat.ne_of_gt zl) (Heap.get?_push_size _ rfl))
  rw [sz] at z₈ T₈
  show Q (.ref h₅.objs.size) _
  rw [sz]
  exact q h₈ _ x y px py z₈ (up _ _ ap.own.b O₅) (D1.frame _ _ _ e1 fun c hc o e => up c o (fun y => ap.z1 (y ▸ hc)) e) (D2.frame _ _ _ e2 fun c hc o e => up c o (fun y => ap.z2 (y ▸ hc)) e) T₈ fun c o c1 c2 c3 c4 e => up c o c1 (k₅ c o c1 c2 c3 c4 e)
theorem zipD_end {Q : Fin → Shared → Prop} (ap : ZApart z TI TO i1 i2 f1 f2) (D1 : Draws prog w A i1 f1 n1 P1 S1) (D2 : Draws prog w A i2 f2 n2 P2 S2) (qz : IsZip s.heap z TI TO .none) (qI : IsPair s.heap TI (.ref i1) (.ref i2)) (qO : IsPair s.heap TO a b)
    (st1 : S1 k s.heap) (st2 : S2 k s.heap) (fin : n1 = k ∨ k < n1 ∧ n2 = k)
    (q : ∀ h' tk e, (∀ c o, c ≠ z → c ≠ TO → c ≠ i1 → c ≠ i2 → s.heap.get? c = some o → h'.get? c = some o) → (∃ o, h'.get? e = some o ∧ o.cls = .type "StopIteration") → E (.ref e) { s with heap := h', toks := tk }) :
    wpAny (model prog w) A (Builtin.«zip.__next__» ⟨[.ref z], []⟩) Q E s := by
  show wpAny _ _ (field (.ref z) 2 >>= _) _ _ _
  refine wpAny_bind (wpAny_field qz rfl (x := .bool false) rfl (show wpAny _ _ (field (.ref z) 3 >>= _) _ _ _ from wpAny_bind (wpAny_field qz rfl (x := .ref TI) rfl (wpAny_bind (wpAny_seqItems qI rfl ?_)))))
  show wpAny _ _ (Builtin.SmallTypes.ownedTupleIsFree (.ref z) >>= _) _ _ _
  unfold Builtin.SmallTypes.ownedTupleIsFree
  refine wpAny_bind (wpAny_bind (wpAny_field qz rfl (x := .none) rfl (wpAny_pure ?_)))
  rw [if_pos rfl]
  refine wpAny_bind (wpAny_rule (wpAny_bind (wpAny_field qz rfl (x := .ref TO) rfl (wpAny_bind (wpAny_setField_rec qz (by simp) fun h₁ z₁ b₁ => wpAny_bind ?_)))))
  replace z₁ : IsZip h₁ z TI TO .ellipsis := z₁
  simp only [List.forIn_nil, List.forIn_cons, List.zipIdx_nil, List.zipIdx_cons]
  have st1' : S1 k h₁ := D1.frame _ _ _ st1 (fr_but b₁.extBut ap.z1)
  rcases fin with rfl | ⟨l1, rfl⟩
  · refine wpAny_bind (wpAny_bind (wpAny_onRaise (show wpAny _ _ (Builtin.SmallTypes.nextOf (.ref i1) >>= _) _ _ _ from wpAny_bind (D1.done _ _ _ st1' fun h₂ e b₂ he => ?_))))
    obtain ⟨oe, g1, g2⟩ := he
    have z₂ : IsZip h₂ z TI TO .ellipsis := b₂ _ _ ap.own.c.symm z₁
    have ne : e ≠ z := fun y => by rw [y, z₂] at g1; cases g1; simp at g2
    exact wpAny_setField_rec z₂ (by simp) fun h₃ _ b₃ => q h₃ s.toks e (fun c o c1 _ c3 _ y => b₃.extBut _ _ c1 (b₂ _ _ c3 (b₁.extBut _ _ c1 y))) ⟨oe, b₃.extBut _ _ ne g1, g2⟩
  · refine wpAny_bind (wpAny_bind (wpAny_onRaise (show wpAny _ _ (Builtin.SmallTypes.nextOf (.ref i1) >>= _) _ _ _ from wpAny_bind (D1.item n2 _ _ _ l1 st1' fun x h₂ t₂ px s1 b₂ => wpAny_pure ?_))))
    have O₂ : IsPair h₂ TO a b := b₂.extBut _ _ ap.own.h (b₁.extBut _ _ ap.own.b qO)
    refine wpAny_bind (wpAny_seqItems O₂ rfl (wpAny_bind (wpAny_updateSeq_pair O₂ fun h₃ O₃ b₃ => wpAny_bind (wpAny_letGo (wpAny_pure ?_)))))
    have st2' : S2 n2 h₃ := D2.frame _ _ _ (D2.frame _ _ _ (D2.frame _ _ _ st2 (fr_but b₁.extBut ap.z2)) (fr_but b₂.extBut ap.x2)) (fr_but b₃.extBut ap.t2)
    refine wpAny_bind (wpAny_bind (wpAny_onRaise (show wpAny _ _ (Builtin.SmallTypes.nextOf (.ref i2) >>= _) _ _ _ from wpAny_bind (D2.done _ _ _ st2' fun h₄ e b₄ he => ?_))))
    obtain ⟨oe, g1, g2⟩ := he
    have z₄ : IsZip h₄ z TI TO .ellipsis := b₄ _ _ ap.own.d.symm (b₃.extBut _ _ ap.own.b.symm (b₂.extBut _ _ ap.own.c.symm z₁))
    have ne : e ≠ z := fun y => by rw [y, z₄] at g1; cases g1; simp at g2
    exact wpAny_setField_rec z₄ (by simp) fun h₅ _ b₅ => q h₅ _ e (fun c o c1 c2 c3 c4 y => b₅.extBut _ _ c1 (b₄ _ _ c4 (b₃.extBut _ _ c2 (b₂.extBut _ _ c3 (b₁.extBut _ _ c1 y))))) ⟨oe, b₅.extBut _ _ ne g1, g2⟩
theorem pyNext_zipD {Q : Option Value → Shared → Prop} (ap : ZApart z TI TO i1 i2 f1 f2) (D1 : Draws prog w A.in1 i1 f1 n1 P1 S1) (D2 : Draws prog w A.in1 i2 f2 n2 P2 S2) (qz : IsZip s.heap z TI TO .none) (qI : IsPair s.heap TI (.ref i1) (.ref i2)) (qO : IsPair s.heap TO a b)
    (st1 : S1 k s.heap) (st2 : S2 k s.heap) (l1 : k < n1) (l2 : k < n2)
    (q : ∀ h' tk x y, P1 k x → P2 k y → IsZip h' z TI TO (rawInt s.heap.objs.size) → IsPair h' TO x y → S1 (k + 1) h' → S2 (k + 1) h' → IsPair h' s.heap.objs.size x y →
      (∀ c o, c ≠ z → c ≠ TO → c ≠ i1 → c ≠ i2 → s.heap.get? c = some o → h'.get? c = some o) → Q (some (.ref s.heap.objs.size)) { s with heap := h', toks := tk }) :
    wpAny (model prog w) A (pyNext (.ref z)) Q E s := by
  have ht : s.TypeIs (.ref z) "zip" := ⟨_, qz, rfl⟩
  unfold pyNext
  exact wpAny_bind (wpAny_attempt (wpAny_callSpecial?_slot (name := Str.ofString "__next__") ht F.slot_zip_next (wpAny_call_entry F.slot_zip_next ht F.entry_zip_next (zipD_item ap D1 D2 qz qI qO st1 st2 l1 l2 fun h' tk x y p1 p2 a1 a2 a3 a4 a5 a6 => wpAny_pure (q h' tk x y p1 p2 a1 a2 a3 a4 a5 a6)) (F.args_zip_next_1 _))))
theorem pyNext_zipD_end {Q : Option Value → Shared → Prop} (ap : ZApart z TI TO i1 i2 f1 f2) (D1 : Draws prog w A.in1 i1 f1 n1 P1 S1) (D2 : Draws prog w A.in1 i2 f2 n2 P2 S2) (qz : IsZip s.heap z TI TO .none) (qI : IsPair s.heap TI (.ref i1) (.ref i2)) (qO : IsPair s.heap TO a b)
    (st1 : S1 k s.heap) (st2 : S2 k s.heap) (fin : n1 = k ∨ k < n1 ∧ n2 = k)
    (q : ∀ h' tk, (∀ c o, c ≠ z → c ≠ TO → c ≠ i1 → c ≠ i2 → s.heap.get? c = some o → h'.get? c = some o) → Q none { s with heap := h', toks := tk }) : wpAny (model prog w) A (pyNext (.ref z)) Q E s := by
  have ht : s.TypeIs (.ref z) "zip" := ⟨_, qz, rfl⟩
  unfold pyNext
  refine wpAny_bind (wpAny_attempt (wpAny_callSpecial?_slot (name := Str.ofString "__next__") ht F.slot_zip_next (wpAny_call_entry F.slot_zip_next ht F.entry_zip_next (zipD_end ap D1 D2 qz qI qO st1 st2 fin fun h' tk e hk he => ?_) (F.args_zip_next_1 _))))
  obtain ⟨o, g1, g2⟩ := he
  exact wpAny_bind (wpAny_isInstance (T := "StopIteration") (b := true) ⟨o, g1, g2⟩ isSubtype_stop (wpAny_pure (q _ tk hk)))
end
/-- a list, a tuple or a text that is drawn from -/
inductive Kd where
  | l (a : Addr)
  | t (a : Addr)
  | s (x : Str)
noncomputable def Kd.v : Kd → V
  | .l a => .ref a
  | .t a => .ref a
  | .s x => .str x
noncomputable def signsV (x : Str) : List V := x.cps.toList.map fun c => V.str ⟨#[c]⟩
noncomputable def Kd.has (K : PySem.W.Frag) (H : Hp) : Kd → List V → Prop
  | .l a, xs => SqL K H a xs
  | .t a, xs => SqT K H a xs
  | .s x, xs => xs = signsV x
noncomputable def Kd.it (j : Addr) (i : Nat) (h : Heap) : Kd → Prop
  | .l a => h.IsListIter j a i
  | .t a => h.IsTupleIter j a i
  | .s x => ∃ t, h.IsStrIter j (strIterType x) x t i
theorem Kd.it_at {j : Addr} {i : Nat} {h h' : Heap} (p : Kd) (x : p.it j i h) (e : ∀ o, h.get? j = some o → h'.get? j = some o) : p.it j i h' := by
  cases p with
  | l a => exact Heap.IsListIter.at x e
  | t a => exact Heap.IsTupleIter.at x e
  | s z => obtain ⟨t, o, q, r⟩ := x; exact ⟨t, o, e o q, r⟩
theorem Kd.it_obj {j : Addr} {i : Nat} {h : Heap} (p : Kd) (x : p.it j i h) : ∃ o, h.get? j = some o ∧ ∀ v, o.data ≠ .cell v := by
  cases p with
  | l a => obtain ⟨o, q, _, d⟩ := x; exact ⟨o, q, fun v z => by rw [d] at z; cases z⟩
  | t a => obtain ⟨o, q, _, d⟩ := x; exact ⟨o, q, fun v z => by rw [d] at z; cases z⟩
  | s z => obtain ⟨t, o, q, _, d⟩ := x; exact ⟨o, q, fun v z => by rw [d] at z; cases z⟩
theorem kfar {X : Cx} {pins : List (Addr × Obj)} {σ : St} {H : Hp} {s : Shared} {a b : Addr} {o : Obj} (I : Inv X pins σ H s) (hk : X.K.lookup a = some o) (f : FpOk X pins H b) : a ≠ b := fun e => by
  subst e
  have hb := I.ok.mod.kin a o hk
  rcases f.2.2.2.1 with z | z
  · exact I.ok.noex a o hb z
  · exact absurd (Nat.lt_of_lt_of_le (Heap.lt_size hb) (Nat.le_trans I.ok.bsz z)) (Nat.lt_irrefl _)
theorem rdfar {X : Cx} {pins : List (Addr × Obj)} {H : Hp} {a b : Addr} {u : HO} (r : Rd H a u) (f : FpOk X pins H b) : a ≠ b := fun e => by
  have := f.1
  rcases r with r | ⟨o, r⟩ <;> (rw [e, this] at r; cases r)
theorem Kd.draws {X : Cx} {pins : List (Addr × Obj)} {σ : St} {H : Hp} {s : Shared} {j : Addr} {xs : List V} (p : Kd) (I : Inv X pins σ H s) (hc : X.calm = true) (hp : p.has X.K H xs) (fj : FpOk X pins H j) {i0 : Nat} (st : p.it j i0 s.heap) :
    ∃ fp P S, Draws X.prog X.w X.A.in1 j fp xs.length P S ∧ S i0 s.heap ∧ (∀ i h', S i h' → p.it j i h') ∧ (∀ i v, P i v → ∃ x, xs[i]? = some x ∧ RelV x v) ∧ j ∈ fp ∧ ∀ b, FpOk X pins H b → b ≠ j → b ∉ fp := by
  have nh : X.A.in1.handled = none := I.ok.hd hc
  cases p with
  | l a =>
    obtain ⟨its, rv, pl, hz⟩ := I.list hp
    have far : ∀ b, FpOk X pins H b → a ≠ b := fun b f => by
      rcases hp with r | ⟨o, _, _, hk, _⟩
      · exact rdfar r f
      · exact kfar I hk f
    have e : its.toArray.size = xs.length := by rw [List.size_toArray]; exact rv.length.symm
    refine ⟨[j, a], _, _, e ▸ Draws.list nh j a (far j fj) its.toArray, ⟨st, pl.isList⟩, fun i h' h => h.1, fun i v h => ?_, by simp, fun b f nb hb => ?_⟩
    · have h : its[i]? = some v := by simpa using h
      have hi : i < xs.length := by have := (List.getElem?_eq_some_iff.mp h).1; rw [rv.length]; exact this
      obtain ⟨u, hu, ru⟩ := rv.get (List.getElem?_eq_getElem hi)
      rw [h] at hu; cases hu
      exact ⟨_, List.getElem?_eq_getElem hi, ru⟩
    · simp only [List.mem_cons, List.not_mem_nil, or_false] at hb
      rcases hb with hb | hb
      · exact nb hb
      · exact far b f hb.symm
  | t a =>
    obtain ⟨its, rv, pl, hz⟩ := I.tuple hp
    have far : ∀ b, FpOk X pins H b → a ≠ b := fun b f => by
      rcases hp with r | ⟨o, _, _, hk, _⟩
      · exact rdfar r f
      · exact kfar I hk f
    have e : its.toArray.size = xs.length := by rw [List.size_toArray]; exact rv.length.symm
    refine ⟨[j, a], _, _, e ▸ drawsT nh j a (far j fj) its.toArray, ⟨st, pl⟩, fun i h' h => h.1, fun i v h => ?_, by simp, fun b f nb hb => ?_⟩
    · have h : its[i]? = some v := by simpa using h
      have hi : i < xs.length := by have := (List.getElem?_eq_some_iff.mp h).1; rw [rv.length]; exact this
      obtain ⟨u, hu, ru⟩ := rv.get (List.getElem?_eq_getElem hi)
      rw [h] at hu; cases hu
      exact ⟨_, List.getElem?_eq_getElem hi, ru⟩
    · simp only [List.mem_cons, List.not_mem_nil, or_false] at hb
      rcases hb with hb | hb
      · exact nb hb
      · exact far b f hb.symm
  | s z =>
    have hp : xs = signsV z := hp
    have e : z.cps.size = xs.length := by rw [hp]; simp [signsV]
    have pt : ∀ (i : Nat) (v : Value), (∃ (c : Nat) (u : Tok), z.cps[i]? = some c ∧ v = Value.str ⟨#[c]⟩ u) → ∃ x, xs[i]? = some x ∧ RelV x v := fun i v h => by
      obtain ⟨c, u, h1, h2⟩ := h
      refine ⟨.str ⟨#[c]⟩, ?_, ⟨u, h2⟩⟩
      rw [hp]
      simp only [signsV, List.getElem?_map, Array.getElem?_toList, h1, Option.map_some]
    obtain ⟨t, st⟩ := st
    cases ha : z.cps.all (· < 128) with
    | true =>
      have et : strIterType z = "str_ascii_iterator" := by simp [strIterType, ha]
      rw [et] at st
      refine ⟨[j], _, _, e ▸ Draws.strAscii nh j z t, st, fun i h' h => ⟨t, by rw [et]; exact h⟩, pt, by simp, fun b f nb hb => nb (by simpa using hb)⟩
    | false =>
      have et : strIterType z = "str_iterator" := by simp [strIterType, ha]
      rw [et] at st
      refine ⟨[j], _, _, e ▸ Draws.strWide nh j z t, st, fun i h' h => ⟨t, by rw [et]; exact h⟩, pt, by simp, fun b f nb hb => nb (by simpa using hb)⟩
theorem Kd.has_inj {X : Cx} {pins : List (Addr × Obj)} {σ : St} {H : Hp} {s : Shared} {xs ys : List V} (p : Kd) (I : Inv X pins σ H s) (h1 : p.has X.K H xs) (h2 : p.has X.K H ys) : xs = ys := by
  cases p with
  | l a => exact I.list_inj h1 h2
  | t a => exact I.tuple_inj h1 h2
  | s z => exact Eq.trans h1 (Eq.symm h2)
noncomputable def Itk (K : PySem.W.Frag) (p q : Kd) : It := ⟨fun i H => ∃ xs ys, p.has K H xs ∧ q.has K H ys ∧ i < xs.length ∧ i < ys.length,
  fun i H x H' => ∃ T y z, x = .ref T ∧ H T = none ∧ H' = upd H T (.tup [y, z]) ∧ (∀ ys, p.has K H ys → ys[i]? = some y) ∧ ∀ ys, q.has K H ys → ys[i]? = some z,
  fun i H => ∃ xs ys, p.has K H xs ∧ q.has K H ys ∧ (xs.length = i ∨ i < xs.length ∧ ys.length = i)⟩
theorem turn_zipK {P : Program} {w : World} {K : PySem.W.Frag} {elts : List Expr} {n : Nat} {ps : Pos} (p q : Kd) (z TI TO i1 i2 : Addr) (ap : Apart5 z TI TO i1 i2) : Turn P w K (.Tuple elts n ps) (Itk K p q) [z, TI, TO, i1, i2] z
    (fun i h => IsZip h z TI TO .none ∧ IsPair h TI (.ref i1) (.ref i2) ∧ (∃ u v, IsPair h TO u v) ∧ p.it i1 i h ∧ q.it i2 i h) where
  mem := by simp
  obj := fun i h st c hc => by
    obtain ⟨s1, s2, ⟨u, v, s3⟩, s4, s5⟩ := st
    simp only [List.mem_cons, List.not_mem_nil, or_false] at hc
    rcases hc with rfl | rfl | rfl | rfl | rfl
    · exact ⟨_, s1, fun v z => by
        have z' : Data.fields _ = Data.cell v := z
        cases z'⟩
    · exact ⟨_, s2, fun v z => by
        have z' : Data.seq _ = Data.cell v := z
        cases z'⟩
    · exact ⟨_, s3, fun v z => by
        have z' : Data.seq _ = Data.cell v := z
        cases z'⟩
    · exact p.it_obj s4
    · exact q.it_obj s5
  keep := fun i h h' st k => by
    obtain ⟨s1, s2, ⟨u, v, s3⟩, s4, s5⟩ := st
    exact ⟨k _ (by simp) _ s1, k _ (by simp) _ s2, ⟨u, v, k _ (by simp) _ s3⟩, p.it_at s4 fun o e => k _ (by simp) o e, q.it_at s5 fun o e => k _ (by simp) o e⟩
  item := by
    intro X hP hw hK hc i pins s σ H E I hf st hg
    subst hP hw hK
    obtain ⟨s1, s2, ⟨u0, v0, s3⟩, s4, s5⟩ := st
    obtain ⟨xs, ys, hx, hy, lx, ly⟩ := hg
    obtain ⟨f1, P1, S1, D1, d1, b1, v1, m1, n1⟩ := p.draws I hc hx (hf i1 (by simp)) s4
    obtain ⟨f2, P2, S2, D2, d2, b2, v2, m2, n2⟩ := q.draws I hc hy (hf i2 (by simp)) s5
    have za : ZApart z TI TO i1 i2 f1 f2 := ⟨ap, m1, m2, n1 z (hf z (by simp)) ap.c.symm, n2 z (hf z (by simp)) ap.d.symm, n1 TO (hf TO (by simp)) ap.h, n2 TO (hf TO (by simp)) ap.i, n1 i2 (hf i2 (by simp)) ap.j.symm, n2 i1 (hf i1 (by simp)) ap.j⟩
    have hob : ∀ c ∈ [z, TI, TO, i1, i2], ∃ o, s.heap.get? c = some o := fun c hc => by
      simp only [List.mem_cons, List.not_mem_nil, or_false] at hc
      rcases hc with rfl | rfl | rfl | rfl | rfl
      · exact ⟨_, s1⟩
      · exact ⟨_, s2⟩
      · exact ⟨_, s3⟩
      · obtain ⟨o, e, _⟩ := p.it_obj s4; exact ⟨o, e⟩
      · obtain ⟨o, e, _⟩ := q.it_obj s5; exact ⟨o, e⟩
    refine pyNext_zipD za D1 D2 s1 s2 s3 d1 d2 lx ly fun h1 tk u v p1 p2 g1 g2 g3 g4 g5 g7 => ?_
    obtain ⟨x, ex, ru⟩ := v1 i u p1
    obtain ⟨y, ey, rv⟩ := v2 i v p2
    refine ⟨_, rfl, wpAny_letOwnedTupleGo_zip (s := { s with heap := h1, toks := tk }) g1 fun h2 t1 t2 => ?_⟩
    have hT : s.heap.objs.size ≠ z := Nat.ne_of_gt (Heap.lt_size s1)
    obtain ⟨I2, f2⟩ := pairLaid (t' := tk) (h' := h2) (x := x) (y := y) (u := u) (v := v) I ru rv hf hob (by rw [t2.2 _ hT]; exact g5) (fun c o hb e => by
      simp only [List.mem_cons, List.not_mem_nil, or_false, not_or] at hb
      rw [t2.2 _ hb.1]; exact g7 c o hb.1 hb.2.2.1 hb.2.2.2.1 hb.2.2.2.2 e)
    refine ⟨.ref s.heap.objs.size, _, I2, rfl, ⟨_, x, y, rfl, I.hok.fresh (Nat.le_refl _), rfl, fun ys' h' => by rw [p.has_inj I h' hx]; exact ex, fun ys' h' => by rw [q.has_inj I h' hy]; exact ey⟩, ⟨t1, ?_, ⟨u, v, ?_⟩, ?_, ?_⟩, fun b hb => (f2 b hb).1⟩
    · show h2.get? TI = _
      rw [t2.2 _ ap.a]; exact g7 TI _ ap.a ap.e ap.f ap.g s2
    · show h2.get? TO = _
      rw [t2.2 _ ap.b]; exact g2
    · exact p.it_at (b1 _ _ g3) fun o e => by rw [t2.2 _ ap.c]; exact e
    · exact q.it_at (b2 _ _ g4) fun o e => by rw [t2.2 _ ap.d]; exact e
  done := by
    intro X hP hw hK hc i pins s σ H E I hf st hg
    subst hP hw hK
    obtain ⟨s1, s2, ⟨u0, v0, s3⟩, s4, s5⟩ := st
    obtain ⟨xs, ys, hx, hy, fin⟩ := hg
    obtain ⟨f1, P1, S1, D1, d1, b1, v1, m1, n1⟩ := p.draws I hc hx (hf i1 (by simp)) s4
    obtain ⟨f2, P2, S2, D2, d2, b2, v2, m2, n2⟩ := q.draws I hc hy (hf i2 (by simp)) s5
    have za : ZApart z TI TO i1 i2 f1 f2 := ⟨ap, m1, m2, n1 z (hf z (by simp)) ap.c.symm, n2 z (hf z (by simp)) ap.d.symm, n1 TO (hf TO (by simp)) ap.h, n2 TO (hf TO (by simp)) ap.i, n1 i2 (hf i2 (by simp)) ap.j.symm, n2 i1 (hf i1 (by simp)) ap.j⟩
    refine pyNext_zipD_end za D1 D2 s1 s2 s3 d1 d2 fin fun h' tk eb => ⟨rfl, turnedL (fp := [z, TI, TO, i1, i2]) (t' := tk) I (fun c o hb e => ?_) hf⟩
    simp only [List.mem_cons, List.not_mem_nil, or_false, not_or] at hb
    exact eb c o hb.1 hb.2.2.1 hb.2.2.2.1 hb.2.2.2.2 e
  self := fun _ _ _ _ _ st h => wpAny_pyIter_zip st.1 h
noncomputable def Kd.val (t : Tok) : Kd → Value
  | .l a => .ref a
  | .t a => .ref a
  | .s x => .str x t
noncomputable def Kd.obj (t : Tok) : Kd → Obj
  | .l a => { cls := .type "list_iterator", data := .fields #[.ref a, .int 0 0] }
  | .t a => { cls := .type "tuple_iterator", data := .fields #[.ref a, .int 0 0] }
  | .s x => { cls := .type (strIterType x), data := .fields #[.str x t, .int 0 0] }
noncomputable def Kd.inH (h : Heap) : Kd → Prop
  | .l a => ∃ its, h.IsList a its
  | .t a => ∃ its, h.IsTuple a its
  | .s _ => True
theorem Kd.inH_push {h : Heap} (p : Kd) (o : Obj) (e : p.inH h) : p.inH (h.push o) := by
  cases p with
  | l a => obtain ⟨i, e⟩ := e; exact ⟨i, e.push o⟩
  | t a => obtain ⟨i, e⟩ := e; exact ⟨i, e.push o⟩
  | s x => trivial
theorem Kd.iter {prog : Program} {w : World} {A : Around} {E : Value → Shared → Prop} {s : Shared} {Q : Value → Shared → Prop} {t : Tok} (p : Kd) (e : p.inH s.heap)
    (q : Q (.ref s.heap.objs.size) { s with heap := s.heap.push (p.obj t) }) : wpAny (model prog w) A (pyIter (p.val t)) Q E s := by
  cases p with
  | l a => obtain ⟨i, e⟩ := e; exact wpAny_pyIter_list e q
  | t a => obtain ⟨i, e⟩ := e; exact wpAny_pyIter_tuple e q
  | s x => exact wpAny_pyIter_strU q
theorem zip_newK (p1 p2 : Kd) (t1 t2 : Tok) : Meets (Builtin.«zip.__new__» ⟨[.type "zip", p1.val t1, p2.val t2], []⟩) (fun _ R s => p1.inH s.heap ∧ p2.inH s.heap ∧
      ∀ g1 g2 g3 g4 g5 : Heap, g1 = s.heap.push (p1.obj t1) → g2 = g1.push (p2.obj t2) → g3 = g2.push { cls := .type "tuple", data := .seq #[.ref s.heap.objs.size, .ref g1.objs.size] } → g4 = g3.push { cls := .type "tuple", data := .seq #[.none, .none] } →
        g5 = g4.push { cls := .type "zip", data := .fields #[.none, .bool false, .bool false, .ref g2.objs.size, .ref g3.objs.size] } → R (.ok (.ret (.ref g4.objs.size))) { s with heap := g5 }) :=
  .of_wp fun prog w A R s h => by
    obtain ⟨hp, g, d, tk, os⟩ := s; obtain ⟨l1, l2, h⟩ := h
    have sb := sub_zip
    have h := h _ _ _ _ _ rfl rfl rfl rfl rfl
    wp_walk using (Kd.iter p1 (t := t1) (s := ⟨hp, g, d, tk, os⟩) l1), (Kd.iter p2 (t := t2) (s := ⟨hp.push (p1.obj t1), g, d, tk, os⟩) (p2.inH_push _ l2))
    exact ⟨_, rfl, h⟩
theorem call_zipK {prog : Program} {w : World} {A : Around} {E : Value → Shared → Prop} {s : Shared} {Q : Value → Shared → Prop} {t1 t2 : Tok} (p1 p2 : Kd) (l1 : p1.inH s.heap) (l2 : p2.inH s.heap)
    (h : ∀ h', IsZip h' (s.heap.objs.size + 4) (s.heap.objs.size + 2) (s.heap.objs.size + 3) .none → IsPair h' (s.heap.objs.size + 2) (.ref s.heap.objs.size) (.ref (s.heap.objs.size + 1)) → IsPair h' (s.heap.objs.size + 3) .none .none →
      h'.get? s.heap.objs.size = some (p1.obj t1) → h'.get? (s.heap.objs.size + 1) = some (p2.obj t2) → (∀ c o, s.heap.get? c = some o → h'.get? c = some o) → Q (.ref (s.heap.objs.size + 4)) { s with heap := h' }) :
    wpAny (model prog w) A (call (.type "zip") [p1.val t1, p2.val t2]) Q E s := by
  refine callType_new F.called_zip (by decide) (F.typeCall_zip_2 _ _) (F.newCall_zip_2 _ _) (fun obj => F.args_object_init_3 obj _ _) F.entry_zip_new (zip_newK p1 p2 t1 t2) ⟨l1, l2, ?_⟩
  intro g1 g2 g3 g4 g5 e1 e2 e3 e4 e5
  have z1 : g1.objs.size = s.heap.objs.size + 1 := by rw [e1]; exact Heap.size_push ..
  have z2 : g2.objs.size = s.heap.objs.size + 2 := by rw [e2, Heap.size_push, z1]
  have z3 : g3.objs.size = s.heap.objs.size + 3 := by rw [e3, Heap.size_push, z2]
  have z4 : g4.objs.size = s.heap.objs.size + 4 := by rw [e4, Heap.size_push, z3]
  have u5 : ∀ {c o}, g4.get? c = some o → g5.get? c = some o := fun q => by rw [e5]; exact Heap.get?_push_of_some _ q
  have u4 : ∀ {c o}, g3.get? c = some o → g4.get? c = some o := fun q => by rw [e4]; exact Heap.get?_push_of_some _ q
  have u3 : ∀ {c o}, g2.get? c = some o → g3.get? c = some o := fun q => by rw [e3]; exact Heap.get?_push_of_some _ q
  have u2 : ∀ {c o}, g1.get? c = some o → g2.get? c = some o := fun q => by rw [e2]; exact Heap.get?_push_of_some _ q
  have w5 : g5.get? (s.heap.objs.size + 4) = some { cls := .type "zip", data := .fields #[.none, .bool false, .bool false, .ref (s.heap.objs.size + 2), .ref (s.heap.objs.size + 3)] } := by
    rw [← z4, ← z3, ← z2, e5]; exact Heap.get?_push_size _ rfl
  have w4 : g4.get? (s.heap.objs.size + 3) = some { cls := .type "tuple", data := .seq #[.none, .none] } := by rw [← z3, e4]; exact Heap.get?_push_size _ rfl
  have w3 : g3.get? (s.heap.objs.size + 2) = some { cls := .type "tuple", data := .seq #[.ref s.heap.objs.size, .ref (s.heap.objs.size + 1)] } := by rw [← z2, ← z1, e3]; exact Heap.get?_push_size _ rfl
  have w2 : g2.get? (s.heap.objs.size + 1) = some (p2.obj t2) := by rw [← z1, e2]; exact Heap.get?_push_size _ (by cases p2 <;> rfl)
  have w1 : g1.get? s.heap.objs.size = some (p1.obj t1) := by rw [e1]; exact Heap.get?_push_size _ (by cases p1 <;> rfl)
  show _ ∧ _
  rw [z4]
  exact ⟨⟨_, w5, rfl⟩, h g5 w5 (u5 (u4 w3)) (u5 w4) (u5 (u4 (u3 (u2 w1)))) (u5 (u4 (u3 w2))) fun c o q => u5 (u4 (u3 (u2 (by rw [e1]; exact Heap.get?_push_of_some _ q))))⟩
theorem Kd.it0 {j : Addr} {h : Heap} {t : Tok} (p : Kd) (e : h.get? j = some (p.obj t)) : p.it j 0 h := by
  cases p with
  | l a => exact ⟨_, e, rfl, rfl⟩
  | t a => exact ⟨_, e, rfl, rfl⟩
  | s x => exact ⟨t, _, e, rfl, rfl⟩
theorem Kd.inH_of {X : Cx} {pins : List (Addr × Obj)} {σ : St} {H : Hp} {s : Shared} {xs : List V} (p : Kd) (I : Inv X pins σ H s) (h : p.has X.K H xs) : p.inH s.heap := by
  cases p with
  | l a => obtain ⟨its, _, pl, _⟩ := I.list h; exact ⟨_, pl.isList⟩
  | t a => obtain ⟨its, _, pl, _⟩ := I.tuple h; exact ⟨_, pl⟩
  | s x => trivial
theorem Kd.val_of {u : Value} (p : Kd) (r : RelV p.v u) : ∃ t, u = p.val t := by
  cases p with
  | l a => cases r; exact ⟨0, rfl⟩
  | t a => cases r; exact ⟨0, rfl⟩
  | s x => obtain ⟨t, r⟩ := r; exact ⟨t, r⟩
noncomputable def WalkK (K : PySem.W.Frag) (x y : V) (H : Hp) (R : It → Hp → Prop) : Prop := ∃ p q : Kd, x = p.v ∧ y = q.v ∧ (∃ xs, p.has K H xs) ∧ (∃ xs, q.has K H xs) ∧ R (Itk K p q) H
noncomputable def iZipK (K : PySem.W.Frag) (ta : TA) : TI := fun σ H R => ta σ H fun vs H1 => ∃ x y, vs = [x, y] ∧ WalkK K x y H1 R
theorem a_iZipK {K : PySem.W.Frag} {ta : TA} {σ : St} {H : Hp} {R : It → Hp → Prop} : iZipK K ta σ H R = (ta σ H fun vs H1 => ∃ x y, vs = [x, y] ∧ WalkK K x y H1 R) := (rfl)
theorem pi_zipK {X : Cx} {K : PySem.W.Frag} {elts : List Expr} {n : Nat} {ps : Pos} {a b : Expr} {ta : TA} {p pos : Pos} (hK : X.K = K) (hg : Gl X "zip") (hm : X.mg "zip" = none) (ha : PA X [a, b] ta) (hs : starEach [a, b] X.env = [(false, eval a X.env), (false, eval b X.env)] := by rfl) (hs2 : starEach [b] X.env = [(false, eval b X.env)] := by rfl) : PI X (.Tuple elts n ps) (.Call (.Name "zip" p) [a, b] [] pos) (iZipK K ta) := by
  intro pins s σ H R I h
  subst hK
  refine Call_ (ld_blt I hg hm boot_zip (PyProof.Rows.callWith_type1 (thn (ha pos pins s σ H _ I h) fun us s1 ⟨vs, H1, I1, r1, q1⟩ => ?_) (by rw [hs, hs2]) (by rw [hs2]; rfl)))
  obtain ⟨x, y, rfl, p, q, rfl, rfl, ⟨xs, hx⟩, ⟨ys, hy⟩, qq⟩ := q1
  cases r1 with
  | cons r rr =>
  cases rr with
  | cons r' rr =>
  cases rr
  obtain ⟨t1, rfl⟩ := p.val_of r
  obtain ⟨t2, rfl⟩ := q.val_of r'
  refine call_zipK p q (p.inH_of I1 hx) (q.inH_of I1 hy) fun h' g1 g2 g3 g4 g5 g7 => wpAny_pyIter_zip g1 ?_
  have I2 : Inv X pins σ H1 { s1 with heap := h' } := I1.kept (t' := s1.toks) g7
  refine ⟨_, [s1.heap.objs.size + 4, s1.heap.objs.size + 2, s1.heap.objs.size + 3, s1.heap.objs.size, s1.heap.objs.size + 1], _, Itk X.K p q, H1, rfl, I2, turn_zipK p q (s1.heap.objs.size + 4) (s1.heap.objs.size + 2) (s1.heap.objs.size + 3) s1.heap.objs.size (s1.heap.objs.size + 1) (ne5 _), ⟨g1, g2, ⟨_, _, g3⟩, p.it0 g4, q.it0 g5⟩, fun e he => ?_, qq⟩
  have he : s1.heap.objs.size ≤ e := by
    simp only [List.mem_cons, List.not_mem_nil, or_false] at he
    rcases he with rfl | rfl | rfl | rfl | rfl <;> omega
  exact I1.fpOk he (I1.hok.fresh he)
theorem WalkK.for {K : PySem.W.Frag} {p q : Kd} {xs ys : List V} {g : TG} {tb : TS} {D : Ends} {σ : St} {H : Hp} (e : p.has K H xs) (e2 : q.has K H ys) (hxy : xs.length = ys.length) (Pv : Nat → St → Hp → Prop) (h0 : Pv 0 σ H) (hl : ∀ i σ H, i ≤ xs.length → Pv i σ H → p.has K H xs ∧ q.has K H ys)
    (hs : ∀ i x y σ H T H', xs[i]? = some x → ys[i]? = some y → Pv i σ H → Same H H' → H T = none → H' T = some (.tup [x, y]) → g (.ref T) σ H' fun σ2 H2 => tb { D with nx := Pv (i + 1), ct := Pv (i + 1), bk := D.nx } σ2 H2) (hd : ∀ σ H, Pv xs.length σ H → D.nx σ H) : WalkK K p.v q.v H fun J H1 => ForW J g tb D σ H1 := by
  refine ⟨p, q, rfl, rfl, ⟨xs, e⟩, ⟨ys, e2⟩, fun i m σ H => i + m = xs.length ∧ Pv i σ H, ⟨xs.length, by simp, h0⟩, fun i m σ H h => ?_⟩
  obtain ⟨h1, h2⟩ := h
  obtain ⟨ea, eb⟩ := hl i σ H (by omega) h2
  by_cases c : m = 0
  · subst c
    have : i = xs.length := by omega
    subst this
    exact .inl ⟨⟨xs, ys, ea, eb, .inl rfl⟩, hd σ H h2⟩
  · have hi : i < xs.length := by omega
    refine .inr ⟨⟨xs, ys, ea, eb, hi, by omega⟩, Pv (i + 1), fun σ' H' q => ⟨m - 1, by omega, by omega, q⟩, fun x H' y => ?_⟩
    obtain ⟨T, z1, z2, rfl, nT, rfl, hz1, hz2⟩ := y
    exact hs i z1 z2 σ H T _ (hz1 xs ea) (hz2 ys eb) h2 (same_new nT _) nT upd_same
end L2

/-! ### a comprehension whose turn has two names -/
namespace L2
open PySem PySem.Spec PyProof.Rows
section
variable {prog : Program} {w : World} {A : Around} {s : Shared} {env : Env} {R : Result → Shared → Prop}
end
structure CS2 (X : Cx) (scope : Scope) (x y : Str) (N : List Str) (caps : List Nat) : Prop where
  kind : scope.kind = .function
  nocellB : (scope.names.all fun y => y.2 != NameKind.cell) = true
  namesB : (scope.names.all fun y => y.2 != NameKind.local || scope.names.lookup y.1 == some NameKind.local) = true
  lx : scope.names.lookup x = some .local
  ly : scope.names.lookup y = some .local
  nd : N.Nodup
  n0 : N[0]? = some x
  n1 : N[1]? = some y
  capN : caps.map (fun j => X.N[j]?) = (N.drop 2).map some
  capFB : ((N.drop 2).all fun y => scope.names.lookup y == some NameKind.free) = true
  freesB : (scope.names.all fun y => y.2 != NameKind.free || X.env.scope.names.lookup y.1 == some NameKind.cell || X.env.scope.names.lookup y.1 == some NameKind.free) = true
theorem CS2.shape {X : Cx} {scope : Scope} {x y : Str} {N : List Str} {caps : List Nat} (S : CS2 X scope x y N caps) : ∃ r, N = x :: y :: r := by
  have h0 := S.n0
  have h1 := S.n1
  cases N with
  | nil => cases h0
  | cons a r =>
    cases r with
    | nil => cases h1
    | cons b r => cases h0; cases h1; exact ⟨r, rfl⟩
theorem CS2.c {X : Cx} {scope : Scope} {x y : Str} {N : List Str} {caps : List Nat} (S : CS2 X scope x y N caps) : CSc X scope x (x :: N.drop 2) caps := by
  obtain ⟨r, e⟩ := S.shape
  refine ⟨S.kind, S.nocellB, S.namesB, S.lx, ?_, rfl, S.capN, S.capFB, S.freesB⟩
  have h := S.nd
  rw [e] at h ⊢
  simp only [List.nodup_cons, List.mem_cons, not_or] at h
  exact List.nodup_cons.mpr ⟨h.1.2, h.2.2⟩
noncomputable def blkS2 (caps : List Nat) (σ : St) (o p : Option V) : St := o :: p :: caps.map fun j => (σ[j]?).join
section
variable {X : Cx} {pins : List (Addr × Obj)} {σ : St} {H : Hp} {s : Shared} {scope : Scope} {x y : Str} {N : List Str} {caps : List Nat} {fp : List Addr}
theorem CS2.len (S : CS2 X scope x y N caps) : N.length = caps.length + 2 := by
  obtain ⟨r, e⟩ := S.shape
  have h := S.c.len
  rw [e] at h ⊢
  simpa using h
theorem CS2.at (S : CS2 X scope x y N caps) {i : Nat} {z : Str} (h : N[i + 2]? = some z) : ∃ j, caps[i]? = some j ∧ X.N[j]? = some z ∧ scope.names.lookup z = some .free := by
  obtain ⟨r, e⟩ := S.shape
  refine S.c.at (i := i) ?_
  rw [e] at h ⊢
  simpa using h
/-- [elt for x, y in iter if c] -/
noncomputable def wComp2 (K : PySem.W.Frag) (J : It) (caps : List Nat) (tc : TT) (te : TE) (σ : St) (H1 : Hp) (Q : VK) : Prop :=
  ∃ W : Nat → Nat → List V → Hp → Prop, (∃ m, W 0 m [] H1) ∧ ∀ i m ys H, W i m ys H →
    (J.stop i H ∧ ∀ p, H p = none → Q (.ref p) (upd H p (.lst ys))) ∨
    (J.go i H ∧ ys.length < sizeLine ∧ ∃ N : List V → Hp → Prop, (∀ ys' H', N ys' H' → ∃ m', m' < m ∧ W (i + 1) m' ys' H') ∧ ∀ v H', J.yld i H v H' →
      ∃ T a b, v = .ref T ∧ SqT K H' T [a, b] ∧ tc (blkS2 caps σ (some a) (some b)) H' fun c H2 => if c = true then te (blkS2 caps σ (some a) (some b)) H2 fun y H3 => N (ys ++ [y]) H3 else N ys H2)

end
theorem Rd.same {H H' : Hp} {a : Addr} {u : HO} (S : Same H H') (r : Rd H a u) : Rd H' a u := by
  rcases r with r | ⟨o, r⟩
  · exact .inl (S _ _ r)
  · exact .inr ⟨o, S _ _ r⟩
theorem Kd.same {K : PySem.W.Frag} {H H' : Hp} {xs : List V} (p : Kd) (S : Same H H') (h : p.has K H xs) : p.has K H' xs := by
  cases p with
  | l a =>
    rcases h with h | h
    · exact .inl (h.same S)
    · exact .inr h
  | t a =>
    rcases h with h | h
    · exact .inl (h.same S)
    · exact .inr h
  | s x => exact h
theorem WalkK.comp {K : PySem.W.Frag} {p q : Kd} {xs zs : List V} {caps : List Nat} {tc : TT} {te : TE} {σ : St} {H : Hp} {Q : VK} (e : p.has K H xs) (e2 : q.has K H zs) (hxy : xs.length = zs.length) (Pv : Nat → List V → Hp → Prop) (h0 : Pv 0 [] H) (hx : xs.length ≤ 100000)
    (hy : ∀ i ys H', Pv i ys H' → ys.length ≤ i)
    (hs : ∀ i x z ys H', xs[i]? = some x → zs[i]? = some z → Same H H' → (∃ H1, Same H H1 ∧ Same H1 H' ∧ Pv i ys H1) → tc (blkS2 caps σ (some x) (some z)) H' fun b H2 => if b = true then te (blkS2 caps σ (some x) (some z)) H2 fun y H3 => Same H H3 ∧ Pv (i + 1) (ys ++ [y]) H3 else Same H H2 ∧ Pv (i + 1) ys H2)
    (hd : ∀ p ys H1 H2, Same H H1 → Same H1 H2 → Pv xs.length ys H1 → H1 p = none → H2 p = some (.lst ys) → Q (.ref p) H2) : WalkK K p.v q.v H fun J H1 => wComp2 K J caps tc te σ H1 Q := by
  refine ⟨p, q, rfl, rfl, ⟨xs, e⟩, ⟨zs, e2⟩, fun i m ys H' => i + m = xs.length ∧ Same H H' ∧ Pv i ys H', ⟨xs.length, by simp, Same.refl _, h0⟩, fun i m ys H' h => ?_⟩
  obtain ⟨h1, S, h2⟩ := h
  by_cases c : m = 0
  · subst c
    have : i = xs.length := by omega
    subst this
    exact .inl ⟨⟨xs, zs, p.same S e, q.same S e2, .inl rfl⟩, fun r n => hd r ys H' _ S (same_new n _) h2 n upd_same⟩
  · have hi : i < xs.length := by omega
    refine .inr ⟨⟨xs, zs, p.same S e, q.same S e2, hi, by omega⟩, Nat.lt_of_le_of_lt (hy _ _ _ h2) (Nat.lt_of_lt_of_le hi (Nat.le_of_lt (small_size hx))), fun ys' H' => Same H H' ∧ Pv (i + 1) ys' H', fun ys' H' z => ⟨m - 1, by omega, by omega, z⟩, fun v H2 y => ?_⟩
    obtain ⟨T, z1, z2, rfl, nT, rfl, hz1, hz2⟩ := y
    refine ⟨T, z1, z2, rfl, SqT.of upd_same, ?_⟩
    exact hs i z1 z2 ys _ (hz1 xs (p.same S e)) (hz2 zs (q.same S e2)) (S.trans (same_new nT _)) ⟨H', S, same_new nT _, h2⟩
end L2

namespace L2
open PySem PySem.Spec PyProof.Rows
/-! ### whole numbers as texts -/
end L2

namespace L2
open PySem PySem.Spec PyProof.Rows
open PySem.Builtin.Str PySem.StrLaws
/-! ### a text cut at a mark -/
/-! ### parts joined by a mark, and cut again -/
/-- lists joined by a mark -/
noncomputable def jn (m : List Nat) : List (List Nat) → List Nat
  | [] => []
  | [d] => d
  | d :: e :: r => d ++ m ++ jn m (e :: r)
/-- wherever the mark's first sign stands, the mark stands -/
noncomputable def marks (c : Nat) (r L : List Nat) : Prop := ∀ k, L[k]? = some c → (L.drop k).take (r.length + 1) = c :: r
end L2

namespace L2
open PySem PySem.Spec PyProof.Rows
/-! ### a dict and tuples that stand in the module -/
noncomputable def KD (P : Program) (w : World) (K : PySem.W.Frag) (a : Addr) (kvs : List (Key × V)) : Prop :=
  (a == sysModules) = false ∧ ∃ o es ep vs, K.lookup a = some o ∧ o.ExactDict ∧ o.data = .dict es ep ∧ KeysOf (mixKind P w) es ∧ Pairs (mixKind P w) es.toList vs ∧ (vs.map (·.1)).Nodup ∧ KV kvs vs
theorem KD.at {P : Program} {w : World} {K : PySem.W.Frag} {a : Addr} {kvs : List (Key × V)} {h : Heap} (d : KD P w K a kvs) (k : K.In h) : ∃ vs, KV kvs vs ∧ h.DictOf (mixKind P w) a vs := by
  obtain ⟨_, o, es, ep, vs, l, h1, h2, h3, h4, h5, h6⟩ := d
  exact ⟨vs, h6, o, es, ep, k _ _ l, h1, h2, h3, h4, h5⟩
section
variable {X : Cx} {i : Expr} {n : Str} {p pos : Pos} {ty : TE} {a : Addr} {kvs : List (Key × V)}
end
end L2

namespace L2
open PySem PySem.Spec PyProof.Rows
/-! ### l.count(x), a list of texts; any of whole numbers -/
section
variable {X : Cx}
end
/-! ### y = a comprehension of two names -/
section
variable {X : Cx} {pins : List (Addr × Obj)} {σ : St} {H : Hp} {s : Shared} {scope : Scope} {x y : Str} {N : List Str} {caps : List Nat} {fp : List Addr}
end
/-! ### a method's call, within a comprehension's element -/
theorem pe_bmK {X : Cx} {K : PySem.W.Frag} {o e : Expr} {es : List Expr} {to : TE} {t : TA} {name : Str} {apos cpos : Pos} {T id : String} {r : V → List V → Hp → VK → Prop} (hK : X.K = K) (pa : PlainAttrs T) (slot : Slot T name id) (hty : typeOf (.builtin id) = pure (.type "method_descriptor")) (hm : MtR X id r) (ho : PE X o to) (ha : PA X (e :: es) t)
    (h1 : attributeBase o name X.env (eval o X.env) = eval o X.env := by rfl)
    (h2 : ((backTo cpos (starEach (e :: es) X.env)).all (fun x => !x.1) && (backToKw cpos (keywordEach [] X.env)).all (fun x => x.1.isSome) && decide ((e :: es).length + ([] : List Keyword).length + (if ([] : List Keyword).isEmpty then 0 else 1) < 30)) = true := by rfl)
    (h3 : (apos.endLine == cpos.line) = true := by rfl) (h4 : starEach (e :: es) X.env = (false, eval e X.env) :: starEach es X.env := by rfl) (h5 : (backTo cpos (starEach es X.env)).any (·.1) = false := by rfl) :
    PE X (.Call (.Attribute o name apos) (e :: es) [] cpos) (tBM K T r to t) := hK ▸ pe_bm pa slot hty hm ho ha h1 h2 h3 h4 h5
end L2

namespace L2
open PySem PySem.Spec PyProof.Rows
/-! ### a set of small numbers -/
/-- rising, and below eight -/
noncomputable def asc (L : List Nat) : Prop := L.Pairwise (· < ·) ∧ ∀ k ∈ L, k < 8
noncomputable def ascs : Nat → List (List Nat)
  | 0 => [[]]
  | n + 1 => ascs n ++ (ascs n).map (· ++ [n])
theorem mem_ascs : ∀ (n : Nat) (L : List Nat), L.Pairwise (· < ·) → (∀ k ∈ L, k < n) → L ∈ ascs n
  | 0, L, _, h => by
    cases L with
    | nil => simp [ascs]
    | cons a l => exact absurd (h a (by simp)) (by omega)
  | n + 1, L, hp, h => by
    rcases List.eq_nil_or_concat L with e | ⟨l, b, e⟩
    · subst e
      exact List.mem_append_left _ (mem_ascs n [] List.Pairwise.nil (by simp))
    · rw [List.concat_eq_append] at e
      subst e
      have hb := h b (by simp)
      rw [List.pairwise_append] at hp
      obtain ⟨p1, _, p2⟩ := hp
      have hl : ∀ k ∈ l, k < b := fun k hk => p2 k hk b (by simp)
      by_cases c : b = n
      · subst c
        exact List.mem_append_right _ (List.mem_map.mpr ⟨l, mem_ascs _ l p1 hl, rfl⟩)
      · refine List.mem_append_left _ (mem_ascs n _ ?_ ?_)
        · rw [List.pairwise_append]
          exact ⟨p1, by simp, fun x hx y hy => by rw [List.mem_singleton.mp hy]; exact hl x hx⟩
        · intro k hk
          rcases List.mem_append.mp hk with hk1 | hk1
          · have := hl k hk1; omega
          · rw [List.mem_singleton.mp hk1]; omega
/-- where a number belongs -/
theorem below_go (xs : Array Nat) (j : Nat) (hp : xs.toList.Pairwise (· < ·)) : ∀ (fuel lo hi : Nat), hi ≤ xs.size → lo ≤ hi → hi ≤ lo + fuel → (∀ i < lo, ∀ y, xs[i]? = some y → y < j) → (∀ i, hi ≤ i → ∀ y, xs[i]? = some y → j ≤ y) →
    SetTable.below.go xs j fuel lo hi ≤ xs.size ∧ (∀ i < SetTable.below.go xs j fuel lo hi, ∀ y, xs[i]? = some y → y < j) ∧ (∀ i, SetTable.below.go xs j fuel lo hi ≤ i → ∀ y, xs[i]? = some y → j ≤ y)
  | 0, lo, hi, h1, h2, h3, h4, h5 => by
    have : lo = hi := by omega
    subst this
    exact ⟨h1, h4, h5⟩
  | fuel + 1, lo, hi, h1, h2, h3, h4, h5 => by
    unfold SetTable.below.go
    by_cases c : lo < hi
    · rw [if_pos c]
      have hm : (lo + hi) / 2 < xs.size := by omega
      have em : xs[(lo + hi) / 2]? = some xs[(lo + hi) / 2] := Array.getElem?_eq_getElem hm
      have eg : xs.getD ((lo + hi) / 2) j = xs[(lo + hi) / 2] := by simp [Array.getD, hm]
      have mono : ∀ i k x y, i < k → xs[i]? = some x → xs[k]? = some y → x < y := fun i k x y hik hx hy => by
        rw [← Array.getElem?_toList] at hx hy
        obtain ⟨a1, rfl⟩ := List.getElem?_eq_some_iff.mp hx
        obtain ⟨a2, rfl⟩ := List.getElem?_eq_some_iff.mp hy
        exact List.pairwise_iff_getElem.mp hp i k a1 a2 hik
      dsimp only
      rw [eg]
      by_cases d : xs[(lo + hi) / 2] < j
      · rw [if_pos d]
        refine below_go xs j hp fuel _ hi h1 (by omega) (by omega) (fun i hi' y hy => ?_) h5
        by_cases e : i = (lo + hi) / 2
        · subst e; rw [em] at hy; cases hy; exact d
        · have := mono i _ y _ (by omega) hy em; omega
      · rw [if_neg d]
        refine below_go xs j hp fuel lo _ (by omega) (by omega) (by omega) h4 (fun i hi' y hy => ?_)
        by_cases e : i = (lo + hi) / 2
        · subst e; rw [em] at hy; cases hy; omega
        · have := mono _ i _ y (by omega) em hy; omega
    · rw [if_neg c]
      have : lo = hi := by omega
      subst this
      exact ⟨h1, h4, h5⟩
theorem below_is (L : List Nat) (j : Nat) (hp : L.Pairwise (· < ·)) : SetTable.below L.toArray j ≤ L.length ∧ (∀ y ∈ L.take (SetTable.below L.toArray j), y < j) ∧ (∀ y ∈ L.drop (SetTable.below L.toArray j), j ≤ y) := by
  have h := below_go L.toArray j (by simpa using hp) L.toArray.size 0 L.toArray.size (Nat.le_refl _) (Nat.zero_le _) (by omega) (by omega) (fun i hi y hy => by rw [Array.getElem?_eq_none (by omega)] at hy; cases hy)
  unfold SetTable.below
  generalize SetTable.below.go L.toArray j L.toArray.size 0 L.toArray.size = p at h
  obtain ⟨h1, h2, h3⟩ := h
  refine ⟨by simpa using h1, fun y hy => ?_, fun y hy => ?_⟩
  · obtain ⟨i, hi⟩ := List.mem_iff_getElem?.mp hy
    have hip : i < p := by have := (List.getElem?_eq_some_iff.mp hi).1; rw [List.length_take] at this; omega
    rw [List.getElem?_take_of_lt hip] at hi
    exact h2 i hip y (by simpa using hi)
  · obtain ⟨i, hi⟩ := List.mem_iff_getElem?.mp hy
    rw [List.getElem?_drop] at hi
    exact h3 (p + i) (by omega) y (by simpa using hi)
theorem ins_asc {L : List Nat} {k : Nat} (h : asc L) (hk : k < 8) (hn : k ∉ L) : asc (L.take (SetTable.below L.toArray k) ++ k :: L.drop (SetTable.below L.toArray k)) := by
  obtain ⟨h1, h2, h3⟩ := below_is L k h.1
  generalize SetTable.below L.toArray k = p at h1 h2 h3
  have e : L = L.take p ++ L.drop p := (List.take_append_drop p L).symm
  have hp := h.1
  rw [e, List.pairwise_append] at hp
  obtain ⟨p1, p2, p3⟩ := hp
  constructor
  · rw [List.pairwise_append]
    refine ⟨p1, List.pairwise_cons.mpr ⟨fun y hy => ?_, p2⟩, fun x hx y hy => ?_⟩
    · have := h3 y hy
      have : y ≠ k := fun z => hn (z ▸ List.mem_of_mem_drop hy)
      omega
    · rcases List.mem_cons.mp hy with rfl | hy
      · exact h2 x hx
      · exact p3 x hx y hy
  · intro x hx
    rcases List.mem_append.mp hx with hx | hx
    · exact h.2 x (List.mem_of_mem_take hx)
    · rcases List.mem_cons.mp hx with rfl | hx
      · exact hk
      · exact h.2 x (List.mem_of_mem_drop hx)
theorem ins_mem {L : List Nat} {k p : Nat} (x : Nat) : x ∈ L.take p ++ k :: L.drop p ↔ x ∈ L ∨ x = k := by
  have e : x ∈ L ↔ x ∈ L.take p ++ L.drop p := by rw [List.take_append_drop]
  rw [e]
  simp only [List.mem_append, List.mem_cons]
  constructor
  · rintro (h | h | h)
    · exact .inl (.inl h)
    · exact .inr h
    · exact .inl (.inr h)
  · rintro ((h | h) | h)
    · exact .inl h
    · exact .inr (.inr h)
    · exact .inr (.inl h)
theorem ascs_len : ∀ n, ∀ L ∈ ascs n, L.length ≤ n
  | 0, L, h => by simp [ascs] at h; simp [h]
  | n + 1, L, h => by
    rcases List.mem_append.mp h with h | h
    · have := ascs_len n L h; omega
    · obtain ⟨l, hl, rfl⟩ := List.mem_map.mp h
      have := ascs_len n l hl
      simp; omega
theorem asc_len {L : List Nat} (h : asc L) : L.length ≤ 8 := ascs_len 8 L (mem_ascs 8 L h.1 h.2)
/-- what stands free -/
theorem free_at {t : SetTable} {L : List Nat} {k : Nat} (hp : t.place = L.toArray) (hd : t.dummies = #[]) (hk : k < 8) (hm : 7 ≤ t.mask) (hn : k ∉ L) : t.freeSlot (k : Int) = some (k, false) := by
  have eb : SetTable.bits (k : Int) = k := by unfold SetTable.bits; omega
  have ej : k % (t.mask + 1) = k := Nat.mod_eq_of_lt (by omega)
  have es : t.slot k = .empty := by
    unfold SetTable.slot
    dsimp only
    rw [hp, hd]
    have n1 : ¬ ((L.toArray[SetTable.below L.toArray k]? == some k) = true) := fun z => by
      have z := beq_iff_eq.mp z
      exact hn (by have := Array.mem_of_getElem? z; simpa using this)
    rw [if_neg n1]
    have n2 : SetTable.has #[] k = false := by simp [SetTable.has]
    rw [n2]
    rfl
  unfold SetTable.freeSlot SetTable.probe SetTable.probeStart
  rw [eb, ej]
  have ef : ∃ f, 10 * SetTable.turns t.mask = f + 1 := ⟨10 * SetTable.turns t.mask - 1, by unfold SetTable.turns; omega⟩
  obtain ⟨f, ef⟩ := ef
  rw [ef]
  simp only [SetTable.probe.go, es]
  rfl
theorem lay_five : ∀ L ∈ ascs 8, L.length = 5 → (SetTable.layClean 31 (L.map fun k : Nat => (k : Int)).toArray).map (fun owner => (List.range 32).filterMap fun j => (owner.getD j none).map (j, ·)) = some (L.zip (List.range 5)) := by decide +kernel
/-! ### the set itself -/
noncomputable def Els : List (Int × Value) → List Nat → Prop
  | [], [] => True
  | e :: es, k :: L => (e.1 = (k : Int) ∧ ∃ tk, e.2 = .int (k : Int) tk) ∧ Els es L
  | _, _ => False
theorem Els.len : ∀ {es : List (Int × Value)} {L : List Nat}, Els es L → es.length = L.length
  | [], [], _ => rfl
  | _ :: _, _ :: _, h => by simp [Els.len h.2]
theorem Els.get : ∀ {es : List (Int × Value)} {L : List Nat}, Els es L → ∀ {i : Nat} {e : Int × Value}, es[i]? = some e → ∃ k, L[i]? = some k ∧ e.1 = (k : Int) ∧ ∃ tk, e.2 = .int (k : Int) tk
  | e :: es, k :: L, h, 0, x, hx => by cases hx; exact ⟨k, rfl, h.1⟩
  | e :: es, k :: L, h, i + 1, x, hx => Els.get h.2 (i := i) hx
theorem Els.ins : ∀ {es : List (Int × Value)} {L : List Nat}, Els es L → ∀ (p : Nat) {x : Int × Value} {k : Nat}, (x.1 = (k : Int) ∧ ∃ tk, x.2 = .int (k : Int) tk) → Els (es.take p ++ x :: es.drop p) (L.take p ++ k :: L.drop p)
  | [], [], h, p, x, k, hx => by simp [Els]; exact hx
  | e :: es, l :: L, h, 0, x, k, hx => ⟨hx, h⟩
  | e :: es, l :: L, h, p + 1, x, k, hx => ⟨h.1, Els.ins h.2 p hx⟩
theorem hash_small {k : Nat} (hk : k < 8) : hashInt (k : Int) = (k : Int) := by
  rcases (show k = 0 ∨ k = 1 ∨ k = 2 ∨ k = 3 ∨ k = 4 ∨ k = 5 ∨ k = 6 ∨ k = 7 by omega) with rfl | rfl | rfl | rfl | rfl | rfl | rfl | rfl <;> decide +kernel
theorem Els.elems {prog : Program} {w : World} {es : List (Int × Value)} {L : List Nat} (h : Els es L) (ha : asc L) : ElemsOf (PySem.intKind prog w) es := by
  intro e he
  obtain ⟨i, hi⟩ := List.mem_iff_getElem?.mp he
  obtain ⟨k, hk, e1, tk, e2⟩ := h.get hi
  have k8 := ha.2 k (List.mem_of_getElem? hk)
  refine ⟨⟨(k : Int), ?_, ?_⟩, ?_⟩
  · rw [e2]; exact intKind_is _ _ _ _
  · rw [e1]; exact (hash_small k8).symm
  · rw [e2]; rfl
theorem Els.find {prog : Program} {w : World} {es : List (Int × Value)} {L : List Nat} (h : Els es L) (k : Nat) : (∃ e ∈ es, (PySem.intKind prog w).is (k : Int) e.2 = true) ↔ k ∈ L := by
  induction es generalizing L with
  | nil => cases L with
    | nil => simp
    | cons a l => exact h.elim
  | cons e es ih => cases L with
    | nil => exact h.elim
    | cons a l =>
      have ih := ih h.2
      obtain ⟨⟨_, tk, e2⟩, _⟩ := h
      have : (PySem.intKind prog w).is (k : Int) e.2 = true ↔ k = a := by
        rw [e2]
        show Value.isInt (k : Int) (.int (a : Int) tk) = true ↔ _
        simp [Value.isInt]
        omega
      simp only [List.mem_cons, exists_eq_or_imp, this, ih]
/-- the set of these small numbers -/
noncomputable def SetZ (w : World) (h : Heap) (a : Addr) (L : List Nat) : Prop := ∃ o es ep t, h.get? a = some o ∧ o.ExactSet ∧ o.data = .set es ep t ∧ Els es.toList L ∧ asc L ∧ t.place = L.toArray ∧ t.dummies = #[] ∧ t.plain = true ∧ t.led = !w.params.followText "set-order" ∧ (t.mask = 7 ∧ L.length ≤ 4 ∨ t.mask = 31)
theorem SetZ.fits {t : SetTable} {L : List Nat} {n : Nat} (ha : asc L) (hp : t.place = L.toArray) (hd : t.dummies = #[]) (hm : t.mask = 7 ∧ L.length ≤ 7 ∨ t.mask = 31) (hn : n = L.length) : t.fits n = true := by
  have := asc_len ha
  unfold SetTable.fits SetTable.fill
  rw [hp, hd]
  simp only [List.size_toArray, List.length_nil, Bool.and_eq_true, beq_iff_eq, decide_eq_true_eq]
  omega
theorem zip_fst {L : List Nat} {n : Nat} (h : L.length = n) : (L.zip (List.range n)).map (·.1) = L := by
  rw [List.map_fst_zip (by simp [h])]
theorem zip_snd {L : List Nat} {n : Nat} (h : L.length = n) : (L.zip (List.range n)).map (·.2) = List.range n := by
  rw [List.map_snd_zip (by simp [h])]
theorem Els.hashes : ∀ {es : List (Int × Value)} {L : List Nat}, Els es L → es.map (·.1) = L.map fun k : Nat => (k : Int)
  | [], [], _ => rfl
  | e :: es, k :: L, h => by rw [List.map_cons, List.map_cons, Els.hashes h.2, h.1.1]
/-- the table laid anew -/
theorem relay_at {t : SetTable} {es : Array (Int × Value)} {L : List Nat} (he : Els es.toList L) (ha : asc L) (h5 : L.length = 5) : ∃ mv, relayAll t es (SetTable.grown es.size) = (es, { mask := 31, place := L.toArray, dummies := #[], finger := t.finger, led := t.led, moves := mv, plain := t.plain }, false) := by
  have hz : es.size = 5 := by rw [← Array.length_toList, he.len, h5]
  have hl := lay_five L (mem_ascs 8 L ha.1 ha.2) h5
  have hh : es.map (·.1) = (L.map fun k : Nat => (k : Int)).toArray := by
    apply Array.toList_inj.mp
    simp only [Array.toList_map]
    exact he.hashes
  obtain ⟨owner, ho, hlive⟩ := Option.map_eq_some_iff.mp hl
  have hw : SetTable.sizeAbove (SetTable.grown es.size) - 1 = 31 := by rw [hz]; decide +kernel
  refine ⟨t.movedTo 31, ?_⟩
  have hr : t.relaid (es.map (·.1)) (SetTable.grown es.size) = some ({ mask := 31, place := L.toArray, dummies := #[], finger := t.finger, led := t.led, moves := t.movedTo 31, plain := t.plain }, (List.range 5).toArray) := by
    unfold SetTable.relaid SetTable.laid
    rw [hw, hh, ho]
    show some _ = _
    rw [show (31 + 1 : Nat) = 32 from rfl, hlive, zip_fst h5, zip_snd h5]
  unfold relayAll
  rw [hr]
  dsimp only
  have e1 : (List.range 5).toArray.filterMap (fun x => es[x]?) = es := by
    apply Array.toList_inj.mp
    rw [Array.toList_filterMap]
    have := filterMap_getElem?_range es
    rw [hz] at this
    exact this
  have e2 : coversAll (List.range 5).toArray es.size = true := by rw [hz]; decide +kernel
  have e3 : ({ mask := 31, place := L.toArray, dummies := #[], finger := t.finger, led := t.led, moves := t.movedTo 31, plain := t.plain } : SetTable).fits es.size = true := SetZ.fits ha rfl rfl (.inr rfl) (by rw [hz, h5])
  rw [e1, e2, e3]
  rfl
theorem stored {h : Heap} {a : Addr} {o : Obj} {es : Array (Int × Value)} {ep : Nat} {t : SetTable} (ho : h.get? a = some o) (hd : o.data = .set es ep t) (es' : Array (Int × Value)) (t' : SetTable) :
    (h.update a (Obj.putSet es' t')).get? a = some { o with data := .set es' (ep + 1) t' } := by
  have e := putSet_of es' t' hd
  rw [← e]
  exact Heap.get?_update_self _ ho (e ▸ rfl)
/-- the new number's place in the table -/
theorem lay_at {t : SetTable} {es : Array (Int × Value)} {L : List Nat} {k : Nat} {x : Value} (he : Els es.toList L) (ha : asc L) (hp : t.place = L.toArray) (hd : t.dummies = #[]) (hm : t.mask = 7 ∧ L.length ≤ 4 ∨ t.mask = 31) (hk : k < 8) (hn : k ∉ L) (hx : ∃ tk, x = .int (k : Int) tk) :
    ∃ es1 L1, layNew t es (hashInt (k : Int)) x = (es1, { t with place := L1.toArray }, false, false) ∧ Els es1.toList L1 ∧ asc L1 ∧ L1.length = L.length + 1 ∧ ∀ y, y ∈ L1 ↔ y ∈ L ∨ y = k := by
  have up := ins_asc ha hk hn
  have hi := he.ins (SetTable.below L.toArray k) (x := ((k : Int), x)) (k := k) ⟨rfl, hx⟩
  have le : SetTable.below L.toArray k ≤ L.length := (below_is L k ha.1).1
  have eput : t.put k = ({ t with place := (L.take (SetTable.below L.toArray k) ++ k :: L.drop (SetTable.below L.toArray k)).toArray }, SetTable.below L.toArray k) := by
    have e1 : SetTable.insertAt L.toArray (SetTable.below L.toArray k) k = (L.take (SetTable.below L.toArray k) ++ k :: L.drop (SetTable.below L.toArray k)).toArray := Array.toList_inj.mp (SetTable.toList_insertAt ..)
    obtain ⟨a1, a2, a3, a4, a5, a6, a7⟩ := t
    simp only at hp hd
    subst hp hd
    simp [SetTable.put, SetTable.has, e1]
  generalize SetTable.below L.toArray k = p at *
  refine ⟨SetTable.insertAt es p ((k : Int), x), L.take p ++ k :: L.drop p, ?_, by rw [SetTable.toList_insertAt]; exact hi, up, by simp; omega, fun y => ins_mem y⟩
  have sz : (SetTable.insertAt es p ((k : Int), x)).size = (L.take p ++ k :: L.drop p).length := by rw [← Array.length_toList, SetTable.toList_insertAt, hi.len]
  have ff := SetZ.fits (t := { t with place := (L.take p ++ k :: L.drop p).toArray }) up rfl hd (by simp only [List.length_append, List.length_take, List.length_cons, List.length_drop]; omega) sz
  simp only [layNew, hash_small hk, free_at hp hd hk (by omega) hn, eput, SetTable.orStandIn, ff]
  rfl
section
variable {prog : Program} {w : World} {A : Around} {E : Value → Shared → Prop}
theorem addZ {s : Shared} {a : Addr} {L : List Nat} {k : Nat} {tk : Tok} {Q : Bool → Shared → Prop} (hk : k < 8) (hS : SetZ w s.heap a L)
    (q : ∀ b h' L', Heap.SameBut a s.heap h' → SetZ w h' a L' → (∀ x, x ∈ L' ↔ x ∈ L ∨ x = k) → Q b { s with heap := h' }) :
    wpAny (model prog w) A (setAddHashed a (.int (k : Int) tk) (hashInt (k : Int))) Q E s := by
  have keep := hS
  obtain ⟨o, es, ep, t, g1, g2, g3, el, ha, c1, c2, c3, c4, c5⟩ := hS
  have l8 := asc_len ha
  have sz : es.size = L.length := by rw [← Array.length_toList, el.len]
  have ff := SetZ.fits ha c1 c2 (by omega) sz
  have EL : ElemsOf (PySem.intKind prog w) es.toList := el.elems ha
  have is : (PySem.intKind prog w).is (k : Int) (.int (k : Int) tk) = true := intKind_is _ _ _ _
  have bs := byScan_of (x := .int (k : Int) tk) rfl (show es.size < scanBound by unfold scanBound; omega) EL
  refine wpAny_holding (show wpAny _ _ (setAddHashedIn a _ _ 100000) _ _ s from ?_)
  rw [setAddHashedIn]
  refine wpAny_bind (wpAny_setState_of g1 g3 ff ?_)
  simp only [bs, if_true]
  refine wpAny_bind (show wpAny _ _ (setAddByScan ..) _ _ s from ?_)
  unfold setAddByScan
  refine wpAny_bind (wpAny_rule (wpAny_bind (wpAny_setScan_of (knd := PySem.intKind prog w) is g1 g3 ff EL ?_)))
  cases hf : es.toList.findIdx? (fun e => (PySem.intKind prog w).is (k : Int) e.2) with
  | some j =>
    obtain ⟨j1, j2, _⟩ := List.findIdx?_eq_some_iff_getElem.mp hf
    have there : k ∈ L := (el.find (prog := prog) (w := w) k).mp ⟨_, List.getElem_mem j1, j2⟩
    refine wpAny_pure (wpAny_pure (show Q false s from ?_))
    exact (q false s.heap L (Heap.SameBut.refl a s.heap) keep fun x => ⟨.inl, fun z => z.elim id fun z => z ▸ there⟩ : Q false { s with heap := s.heap })
  | none =>
    have gone : k ∉ L := fun z => by
      obtain ⟨e, e1, e2⟩ := (el.find (prog := prog) (w := w) k).mpr z
      exact Bool.noConfusion (e2.symm.trans (List.findIdx?_eq_none_iff.mp hf e e1))
    obtain ⟨es1, L1, ly, el1, ha1, ln1, me1⟩ := lay_at (x := .int (k : Int) tk) el ha c1 c2 c5 hk gone ⟨tk, rfl⟩
    have sz1 : es1.size = L1.length := by rw [← Array.length_toList, el1.len]
    have l81 := asc_len ha1
    have room : es1.size ≤ sizeLine := by rw [sz1, sizeLine_eq]; omega
    have full : ({ t with place := L1.toArray } : SetTable).fill = L1.length := by simp [SetTable.fill, c2]
    simp only [ly]
    refine wpAny_bind (wpAny_pure (show wpAny _ _ _ _ _ s from ?_))
    rw [if_pos c3, hashByValue_scannable 8 (x := .int (k : Int) tk) rfl]
    refine wpAny_bind (wpAny_pure (show wpAny _ _ _ _ _ s from ?_))
    simp only [plainKind, if_true]
    have st1 := stored g1 g3 es1 { t with place := L1.toArray }
    have sb1 := Heap.SameBut.update s.heap a (Obj.putSet es1 { t with place := L1.toArray })
    refine wpAny_bind (wpAny_storeSet_of g1 g3 ?_ room)
    by_cases c : (!false && ({ t with place := L1.toArray } : SetTable).tooFull) = true
    · rw [if_pos c]
      simp only [SetTable.tooFull, full, Bool.not_false, Bool.true_and, ge_iff_le, decide_eq_true_eq] at c
      obtain ⟨mv, rl⟩ := relay_at (t := { t with place := L1.toArray }) el1 ha1 (by omega)
      simp only [rl]
      have st2 := stored st1 rfl es1 { mask := 31, place := L1.toArray, dummies := #[], finger := t.finger, led := t.led, moves := mv, plain := t.plain }
      refine wpAny_bind (wpAny_pure (wpAny_bind (wpAny_storeSet_of st1 rfl (wpAny_pure (wpAny_pure (q true _ L1 (sb1.trans (Heap.SameBut.update _ a _)) ?_ me1))) room)))
      exact ⟨_, es1, _, _, st2, g2, rfl, el1, ha1, rfl, rfl, c3, c4, .inr rfl⟩
    · rw [if_neg c]
      simp only [SetTable.tooFull, full, Bool.not_false, Bool.true_and, ge_iff_le, decide_eq_true_eq] at c
      exact wpAny_pure (wpAny_pure (q true _ L1 sb1 ⟨_, es1, _, _, st1, g2, rfl, el1, ha1, rfl, c2, c3, c4, by dsimp only; omega⟩ me1))
end
theorem SetZ.keep {w : World} {h h' : Heap} {a : Addr} {L : List Nat} (S : SetZ w h a L) (k : ∀ o, h.get? a = some o → h'.get? a = some o) : SetZ w h' a L := by
  obtain ⟨o, es, ep, t, g, r⟩ := S
  exact ⟨o, es, ep, t, k o g, r⟩
end L2

namespace L2
open PySem PySem.Spec PyProof.Rows
/-! ### set(l) of a list of small numbers -/
section
variable {prog : Program} {w : World} {A : Around} {R : Result → Shared → Prop} {I S : Addr} {fp wr : List Addr} {G : Array GenState → Array GenState → Prop} {n : Nat} {P : Nat → Value → Prop} {St : Nat → Shared → Prop} {ns : List Nat}
noncomputable def ZAt (w : World) (S : Addr) (ns : List Nat) (i : Nat) (h : Heap) : Prop := ∃ L, SetZ w h S L ∧ ∀ x, x ∈ L ↔ x ∈ ns.take i
theorem loopZ (W : WalksS prog w A.in1 I fp wr G n P St) (hS : S ∉ fp) (hn : ns.length = n) (hv : ∀ (i : Nat) (v : Value), P i v → ∃ (k : Nat) (t : Tok), ns[i]? = some k ∧ v = Value.int (k : Int) t) (h8 : ∀ k ∈ ns, k < 8) :
    ∀ (m i : Nat) (s : Shared), i + m = n → St i s → ZAt w S ns i s.heap → (∀ s', Moved (S :: wr) G s s' → ZAt w S ns n s'.heap → R (.ok (.ret .none)) s') →
      codeAny (model prog w) A (.builtin "set.update.loop" { pos := [.ref S, .ref I] }) R s
  | 0, i, s, hi, st, z, q => by
    have hi : i = n := hi
    subst hi
    refine codeAny_builtin PyProof.Rows.F.entry_set_update_loop ?_
    rw [Around.under_plainId PyProof.Rows.F.plain_set_update_loop _]
    refine (show wpAny _ A.in1 (pyNext (.ref I) >>= _) _ _ s from wpAny_bind (W.done s _ _ st fun s' mv => wpAny_pure (q s' (mv.mono fun b hb => .tail _ hb) ?_)))
    obtain ⟨L, z1, z2⟩ := z
    exact ⟨L, z1.keep fun o e => mv.heap S o (fun y => hS (W.sub S y)) e, z2⟩
  | m + 1, i, s, hi, st, z, q => by
    refine codeAny_builtin PyProof.Rows.F.entry_set_update_loop ?_
    rw [Around.under_plainId PyProof.Rows.F.plain_set_update_loop _]
    refine (show wpAny _ A.in1 (pyNext (.ref I) >>= _) _ _ s from wpAny_bind (W.item i s _ _ (by omega) st fun v s1 hp st1 mv => ?_))
    obtain ⟨x, t, hx, rfl⟩ := hv i v hp
    obtain ⟨L, z1, z2⟩ := z
    have z3 : SetZ w s1.heap S L := z1.keep fun o e => mv.heap S o (fun y => hS (W.sub S y)) e
    refine (show wpAny _ A.in1 (holding [Value.int (x : Int) t] (setAdd S (.int (x : Int) t)) >>= _) _ _ s1 from wpAny_bind (wpAny_holding (wpAny_holding (wpAny_bind ((PySem.intKind prog w).pyHash (k := (x : Int)) (intKind_is _ _ _ _) ?_)))))
    refine addZ (s := { s1 with toks := s1.toks + 1 }) (h8 x (List.mem_of_getElem? hx)) z3 fun b h2 L2 sb z4 z5 => wpAny_pure ⟨plainId_quiet PyProof.Rows.F.plain_set_update_loop _, ?_⟩
    have far : ∀ c o, c ≠ S → s1.heap.get? c = some o → h2.get? c = some o := fun c o hc e => (sb.2 c hc).trans e
    refine loopZ W hS hn hv h8 m (i + 1) _ (by omega) (W.frame (i + 1) s1 h2 _ st1 (Nat.le_succ _) fun c hc o e => far c o (fun y => hS (y ▸ hc)) e) ⟨L2, z4, fun y => by rw [z5, z2, List.take_add_one, hx]; simp⟩ fun s3 mv3 z6 => q s3 ?_ z6
    exact Moved.trans W.gtrans ((mv.mono fun c hc => .tail _ hc).then_heap (Nat.le_succ _) fun c o hc e => far c o (fun y => hc (y ▸ .head _)) e) mv3
end
section
variable {prog : Program} {w : World} {A : Around} {E : Value → Shared → Prop} {s : Shared}
/-- a type that is called, its __init__ as it runs -/
theorem tcall {T nw ini : String} {xs : List Value} {Q Q1 : Value → Shared → Prop} (tc : TypeCalled T nw ini) (ck : checkTypeCall T { pos := xs } = pure ())
    (mk : codeAny (model prog w) A.in1 (.call (.builtin nw) { pos := .type T :: xs }) (wants Q1 E) s)
    (fill : ∀ x s1, Q1 x s1 → s1.TypeIs x T ∧ codeAny (model prog w) A.in1 (.call (.builtin ini) { pos := x :: xs }) (wants (fun r s2 => r = .none ∧ Q x s2) E) s1) :
    wpAny (model prog w) A (call (.type T) xs) Q E s := by
  obtain ⟨_, _, m1⟩ := tc.mro
  have m2 := tc.made
  have m3 := tc.sub
  have m4 := tc.notType
  have m5 := tc.canCreate
  refine wpAny_call (codeAny_of_tree (show wpAny _ _ (callAny (.type T) _) _ _ _ from wpAny_pure ⟨Code.quiet_builtin _ (by decide +kernel), codeAny_builtin PySem.F.entry_type_call ?_⟩))
  rw [Around.under_plain (weight_type_call_type T xs []) rfl]
  repeat' (first | assumption | wp_step)
  refine codeAny_mono mk fun r s1 g => ?_
  match r, g with
  | .ok (.ret x), g =>
    obtain ⟨ty, run⟩ := fill x s1 g
    have m6 := tc.init.lookup
    have m7 := tc.init.bind x
    repeat' (first | assumption | wp_step)
    refine codeAny_mono run fun r2 s2 g2 => ?_
    match r2, g2 with
    | .ok (.ret _), ⟨rfl, g2⟩ => repeat' (first | assumption | wp_step)
    | .error _, g2 => exact g2
  | .error _, g => exact g
noncomputable def newS (w : World) : Obj := { cls := .type "set", dict := none, data := .set #[] 0 (.fresh 0 0 (!w.params.followText "set-order")) }
theorem newS_z {h : Heap} {a : Addr} (e : h.get? a = some (newS w)) : SetZ w h a [] :=
  ⟨_, #[], 0, _, e, ⟨rfl, rfl, rfl⟩, rfl, trivial, ⟨.nil, by simp⟩, rfl, rfl, rfl, rfl, .inl ⟨rfl, by simp⟩⟩
theorem newZ (x : Value) {Q1 : Value → Shared → Prop} (q : Q1 (.ref s.heap.objs.size) { s with heap := s.heap.push (newS w) }) : codeAny (model prog w) A (.call (.builtin "set.__new__") { pos := [.type "set", x] }) (wants Q1 E) s := by
  refine codeAny_of_tree (show wpAny _ A.in1 (checkBuiltinCall "set.__new__" { pos := [.type "set", x] } >>= fun _ => again (.builtin "set.__new__" { pos := [.type "set", x] })) _ _ s from wpAny_bind (wpAny_of_eq (PySem.F.newCall_set_1 x) (wpAny_pure ⟨plainId_quiet PySem.F.plain_set_new _, codeAny_builtin PySem.F.entry_set_new ?_⟩)))
  rw [Around.under_plainId PySem.F.plain_set_new _]
  have sb := sub_set_self
  unfold Builtin.«set.__new__»
  refine wpAny_bind (m := Builtin.Frozenset.newClass "set" _) ?_
  unfold Builtin.Frozenset.newClass
  refine wpAny_bind (m := isType (.type "set")) (wpAny_pure ?_)
  simp only [Bool.not_true, Bool.false_eq_true, if_false]
  rw [sb]
  refine wpAny_bind (wpAny_pure ?_)
  simp only [Bool.not_true, Bool.false_eq_true, if_false]
  refine wpAny_pure (wpAny_bind (m := newSet (.type "set")) ?_)
  unfold newSet setsByText
  refine wpAny_bind (wpAny_bind (wpAny_askSetting (wpAny_pure (by
    simp only [newObj]
    exact wpAny_bind (wpAny_alloc (wpAny_pure (wpAny_pure q)))))))
theorem initZ {l a : Addr} {items : Array Value} {ns : List Nat} {Q : Value → Shared → Prop} (nh : A.handled = none) (ga : s.heap.get? a = some (newS w)) (hl : s.heap.IsList l items) (hn : ns.length = items.size)
    (hv : ∀ (i : Nat) (v : Value), items[i]? = some v → ∃ (k : Nat) (t : Tok), ns[i]? = some k ∧ v = Value.int (k : Int) t) (h8 : ∀ k ∈ ns, k < 8)
    (q : ∀ h' tk, ZAt w a ns ns.length h' → (∀ b o, b ≠ a → s.heap.get? b = some o → h'.get? b = some o) → Q (.ref a) { s with heap := h', toks := tk }) :
    codeAny (model prog w) A (.call (.builtin "set.__init__") { pos := [.ref a, .ref l] }) (wants (fun r s2 => r = .none ∧ Q (.ref a) s2) E) s := by
  have ty : s.TypeIs (.ref a) "set" := ⟨_, ga, rfl⟩
  have s1 := PySem.F.sub_list_set
  have s2 := PySem.F.sub_list_frozenset
  have s3 : (Value.type "list" == Value.type "dict") = false := rfl
  have tl := hl.typeIs
  refine codeAny_call_builtin PySem.F.called_set.init.plain PySem.F.entry_set_init (check_set_init_1 ty ?_)
  unfold Builtin.«set.__init__»
  unfold Builtin.Frozenset.updateFrom noKeywords
  obtain ⟨⟨cl, dc, dt, sl⟩, gl, cl', nl, dt'⟩ := id hl
  simp only at cl' dt'
  subst cl' dt'
  have lt := Heap.lt_size gl
  have ne : l ≠ a := fun z => by
    rw [z, ga] at gl
    have e := congrArg (fun o : Option Obj => o.map Obj.cls) gl
    simp [newS] at e
  unfold newS at ga
  generalize ep : pyIter = PI
  wp_walk
  subst ep
  refine wpAny_pyIter_list hl (wpAny_bind (wpAny_runValue ?_))
  have ga1 := Heap.get?_push_of_some { cls := .type "list_iterator", data := .fields #[.ref l, .int 0 0] } ga
  have lta := Heap.lt_size ga
  refine loopZ ((Walks.list (by simpa using nh) s.heap.objs.size l (Nat.ne_of_lt lt) items).toS) (S := a) (by simp only [List.mem_cons, List.not_mem_nil, or_false, not_or]; exact ⟨Nat.ne_of_lt lta, ne.symm⟩) hn hv h8 items.size 0 _ (Nat.zero_add _) ⟨⟨_, Heap.get?_push_size _ rfl, rfl, rfl⟩, hl.push _⟩ ⟨[], newS_z ga1, by simp⟩ fun s3 mv z => ?_
  have e3 : s3 = { s with heap := s3.heap, toks := s3.toks } := by
    have e1 := mv.gens
    have e2 := mv.drawn
    have e3 := mv.os
    cases s3
    simp only at e1 e2 e3
    rw [e1, e2, e3]
  refine wpAny_pure (wpAny_pure ⟨rfl, ?_⟩)
  rw [e3]
  rw [← hn] at z
  exact q s3.heap s3.toks z fun b o hb e => mv.heap b o (by simp only [List.mem_cons, List.not_mem_nil, or_false, not_or]; exact ⟨hb, Nat.ne_of_lt (Heap.lt_size e)⟩) (Heap.get?_push_of_some _ e)
theorem setZ_call {l : Addr} {items : Array Value} {ns : List Nat} {Q : Value → Shared → Prop} (nh : A.handled = none) (hl : s.heap.IsList l items) (hn : ns.length = items.size)
    (hv : ∀ (i : Nat) (v : Value), items[i]? = some v → ∃ (k : Nat) (t : Tok), ns[i]? = some k ∧ v = Value.int (k : Int) t) (h8 : ∀ k ∈ ns, k < 8)
    (q : ∀ h' tk, ZAt w s.heap.objs.size ns ns.length h' → (∀ b o, s.heap.get? b = some o → h'.get? b = some o) → Q (.ref s.heap.objs.size) { s with heap := h', toks := tk }) :
    wpAny (model prog w) A (call (.type "set") [.ref l]) Q E s := by
  refine tcall (Q1 := fun x s1 => x = .ref s.heap.objs.size ∧ s1 = { s with heap := s.heap.push (newS w) }) PySem.F.called_set (PySem.F.typeCall_set_1 _) (newZ _ ⟨rfl, rfl⟩) fun x s1 g => ?_
  obtain ⟨rfl, rfl⟩ := g
  have ga : (s.heap.push (newS w)).get? s.heap.objs.size = some (newS w) := Heap.get?_push_size _ rfl
  exact ⟨⟨_, ga, rfl⟩, initZ (s := { s with heap := s.heap.push (newS w) }) (by simpa using nh) ga (hl.push _) hn hv h8 fun h' tk z k => q h' tk z fun b o e => k b o (Nat.ne_of_lt (Heap.lt_size e)) (Heap.get?_push_of_some _ e)⟩
end
end L2

namespace L2
open PySem PySem.Spec PyProof.Rows
/-! ### a set that is walked -/
theorem si_next : Slot "set_iterator" "__next__" "set_iterator.__next__" :=
  .of (owner := "set_iterator") (n := "__next__") (by rw [typeLookup_type, builtinLookup_eq_fast]; kernel_rfl) (by decide +kernel) (by decide +kernel) (by decide +kernel) (.inl (by decide +kernel)) (by rw [isSubtype_type]; kernel_rfl)
theorem si_nextE : entryFor table "set_iterator.__next__" = some Builtin.«set_iterator.__next__» := entryFor_of_tree (by kernel_rfl)
theorem si_nextA (a : Value) : argsOk "set_iterator.__next__" { pos := [a] } := by unfold argsOk; kernel_rfl
theorem si_iter : Slot "set_iterator" "__iter__" "set_iterator.__iter__" :=
  .of (owner := "set_iterator") (n := "__iter__") (by rw [typeLookup_type, builtinLookup_eq_fast]; kernel_rfl) (by decide +kernel) (by decide +kernel) (by decide +kernel) (.inl (by decide +kernel)) (by rw [isSubtype_type]; kernel_rfl)
theorem si_iterE : entryFor table "set_iterator.__iter__" = some Builtin.«dict_keyiterator.__iter__» := entryFor_alias (id' := "dict_keyiterator.__iter__") (by kernel_rfl) rfl (by decide +kernel) (by kernel_rfl)
theorem si_iterA (a : Value) : argsOk "set_iterator.__iter__" { pos := [a] } := by unfold argsOk; kernel_rfl
theorem st_iterE : entryFor table "set.__iter__" = some Builtin.«frozenset.__iter__» := entryFor_alias (id' := "frozenset.__iter__") (by kernel_rfl) rfl (by decide +kernel) (by kernel_rfl)
/-- the order in which it is walked -/
noncomputable def ordZ (w : World) (a : Addr) (ep : Nat) (es : Array (Int × Value)) : Array (Int × Value) := if w.params.followText "set-order" = true then pickOrder (w.params.setOrder a ep) es else es
noncomputable def slotN (L : List Nat) : Nat → Nat
  | 0 => 0
  | i + 1 => L.getD i 0 + 1
noncomputable def slotZ (w : World) (L : List Nat) (i : Nat) : Nat := if w.params.followText "set-order" = true then 0 else slotN L i
theorem slotZ_at {w : World} {L : List Nat} {i : Nat} (ha : asc L) (hw : w.params.followText "set-order" = false) (hi : i ≤ L.length) : SetTable.below L.toArray (slotZ w L i) = i := by
  have e : slotZ w L i = slotN L i := by unfold slotZ; rw [hw]; rfl
  rw [e]
  obtain ⟨h1, h2, h3⟩ := below_is L (slotN L i) ha.1
  generalize SetTable.below L.toArray (slotN L i) = p at h1 h2 h3
  have mono : ∀ j k x y, j < k → L[j]? = some x → L[k]? = some y → x < y := fun j k x y hjk hx hy => by
    obtain ⟨a1, rfl⟩ := List.getElem?_eq_some_iff.mp hx
    obtain ⟨a2, rfl⟩ := List.getElem?_eq_some_iff.mp hy
    exact List.pairwise_iff_getElem.mp ha.1 j k a1 a2 hjk
  cases i with
  | zero =>
    by_cases c : p = 0
    · exact c
    · have hl : 0 < L.length := by omega
      have := h2 L[0] (by rw [List.mem_iff_getElem?]; exact ⟨0, by rw [List.getElem?_take_of_lt (by omega)]; exact List.getElem?_eq_getElem hl⟩)
      exact absurd this (Nat.not_lt_zero _)
  | succ i =>
    have g : L[i]? = some (L.getD i 0) := by rw [List.getD_eq_getElem?_getD, List.getElem?_eq_getElem (by omega)]; rfl
    have h2 : ∀ y ∈ L.take p, y < L.getD i 0 + 1 := h2
    have h3 : ∀ y ∈ L.drop p, L.getD i 0 + 1 ≤ y := h3
    rcases Nat.lt_trichotomy p (i + 1) with c | c | c
    · have := h3 (L.getD i 0) (List.mem_iff_getElem?.mpr ⟨i - p, by rw [List.getElem?_drop, show p + (i - p) = i by omega]; exact g⟩)
      omega
    · exact c
    · have g2 : L[i + 1]? = some L[i + 1] := List.getElem?_eq_getElem (by omega)
      have := h2 L[i + 1] (List.mem_iff_getElem?.mpr ⟨i + 1, by rw [List.getElem?_take_of_lt c]; exact g2⟩)
      have := mono i (i + 1) _ _ (by omega) g g2
      omega
section
variable {prog : Program} {w : World} {A : Around} {E : Value → Shared → Prop} {s : Shared} {a : Addr} {o : Obj} {es : Array (Int × Value)} {ep : Nat} {t : SetTable} {L : List Nat}
structure Zo (w : World) (o : Obj) (es : Array (Int × Value)) (ep : Nat) (t : SetTable) (L : List Nat) : Prop where
  ex : o.ExactSet
  dt : o.data = .set es ep t
  el : Els es.toList L
  ha : asc L
  pl : t.place = L.toArray
  du : t.dummies = #[]
  pn : t.plain = true
  ld : t.led = !w.params.followText "set-order"
  mm : t.mask = 7 ∧ L.length ≤ 4 ∨ t.mask = 31
theorem Zo.sz (z : Zo w o es ep t L) : es.size = L.length := by rw [← Array.length_toList, z.el.len]
theorem Zo.ff (z : Zo w o es ep t L) : t.fits es.size = true := SetZ.fits z.ha z.pl z.du (by have := z.mm; omega) z.sz
theorem walkZ {Q : Option (Value × Nat) → Shared → Prop} (z : Zo w o es ep t L) (g : s.heap.get? a = some o) {i : Nat} (hi : i ≤ L.length)
    (q : Q (((ordZ w a ep es)[i]?).map fun e => (e.2, slotZ w L (i + 1))) s) : wpAny (model prog w) A (setNext a (slotZ w L i) i ep) Q E s := by
  unfold setNext
  refine wpAny_bind (wpAny_setState_of g z.dt z.ff ?_)
  refine wpAny_bind (m := setsByText) (wpAny_bind (wpAny_askSetting (wpAny_pure ?_)))
  cases hw : w.params.followText "set-order" with
  | true =>
    refine wpAny_ite_split (fun _ => wpAny_ite_split (fun c => absurd c (by simp)) fun _ => ?_) fun c => absurd hw c
    refine wpAny_bind (m := setWalk a) ?_
    unfold setWalk
    refine wpAny_bind (wpAny_setState_of g z.dt z.ff (wpAny_bind (m := setsByText) (wpAny_bind (wpAny_askSetting (wpAny_pure (wpAny_ite_split (fun _ => ?_) fun c => absurd hw c))))))
    refine wpAny_bind (wpAny_askSetting (wpAny_pure (wpAny_pure ?_)))
    have e1 : slotZ w L i = slotZ w L (i + 1) := by unfold slotZ; rw [hw]; rfl
    have e2 : ordZ w a ep es = pickOrder (w.params.setOrder a ep) es := by unfold ordZ; rw [hw]; rfl
    rw [e1]
    rw [e2] at q
    exact q
  | false =>
    have n1 : ¬ ((!t.plain && decide (es.size > 1)) = true) := by rw [z.pn]; simp
    have n2 : ¬ ((!t.led && !es.isEmpty) = true) := by rw [z.ld, hw]; simp
    refine wpAny_ite_split (fun c => absurd (hw.symm.trans c) (by decide)) fun _ => wpAny_ite_split (fun c => absurd c n1) fun _ => wpAny_bind ?_
    show wpAny _ _ (if (!t.led && !es.isEmpty) = true then _ else pure PUnit.unit) _ _ s
    rw [if_neg n2]
    refine wpAny_pure (wpAny_pure ?_)
    have e2 : ordZ w a ep es = es := by unfold ordZ; rw [hw]; rfl
    have e3 : slotZ w L (i + 1) = L.getD i 0 + 1 := by unfold slotZ; rw [hw]; rfl
    rw [e2, e3] at q
    simp only [z.pl, slotZ_at z.ha hw hi]
    by_cases c : i < L.length
    · have ci : i < es.size := by rw [z.sz]; exact c
      have g1 : es[i]? = some es[i] := Array.getElem?_eq_getElem ci
      have g2 : L.toArray[i]? = some (L.getD i 0) := by simp [c]
      rw [g1] at q
      rw [g1, g2]
      exact q
    · have g1 : es[i]? = none := Array.getElem?_eq_none (by rw [z.sz]; omega)
      rw [g1] at q
      rw [g1]
      exact q
/-- the iterator -/
noncomputable def itO (w : World) (a : Addr) (L : List Nat) (ep i : Nat) : Obj := { cls := .type "set_iterator", data := .fields #[rawInt (slotZ w L i), rawInt i, .ref a, rawInt L.length, rawInt ep] }
noncomputable def StZ (w : World) (I a : Addr) (o : Obj) (L : List Nat) (ep i : Nat) (h : Heap) : Prop := h.get? I = some (itO w a L ep i) ∧ h.get? a = some o ∧ i ≤ L.length
theorem pickZ {α : Type} (f : Nat → Nat) (xs : Array α) : (pickOrder f xs).toList.Perm xs.toList := by
  have go : ∀ (fuel k : Nat) (left : List α) (out : Array α), left.length ≤ fuel → (pickOrder.go f fuel k left out).toList.Perm (out.toList ++ left) := by
    intro fuel
    induction fuel with
    | zero =>
      intro k left out h
      have : left = [] := List.eq_nil_of_length_eq_zero (by omega)
      subst this
      simp [pickOrder.go]
    | succ fuel ih =>
      intro k left out h
      unfold pickOrder.go
      cases hx : left[f k % left.length]? with
      | none =>
        have : left = [] := by
          by_cases c : left.length = 0
          · exact List.eq_nil_of_length_eq_zero c
          · rw [List.getElem?_eq_none_iff] at hx
            have := Nat.mod_lt (f k) (show 0 < left.length by omega)
            omega
        subst this
        simp
      | some x =>
        obtain ⟨hlt, ex⟩ := List.getElem?_eq_some_iff.mp hx
        refine (ih _ _ _ (by rw [List.length_eraseIdx]; split <;> omega)).trans ?_
        have p1 : (x :: left.eraseIdx (f k % left.length)).Perm left := by
          rw [List.eraseIdx_eq_take_drop_succ]
          have e2 := (List.take_append_drop (f k % left.length) left)
          rw [List.drop_eq_getElem_cons hlt, ex] at e2
          exact List.perm_middle.symm.trans (List.Perm.of_eq e2)
        simp only [Array.toList_push, List.append_assoc]
        exact List.Perm.append_left _ p1
  have := go xs.size 0 xs.toList #[] (by simp)
  simpa [pickOrder] using this
theorem ordZ_perm : (ordZ w a ep es).toList.Perm es.toList := by
  unfold ordZ
  split
  · exact pickZ _ _
  · exact List.Perm.refl _
theorem ordZ_sz (z : Zo w o es ep t L) : (ordZ w a ep es).size = L.length := by rw [← z.sz, ← Array.length_toList, ordZ_perm.length_eq, Array.length_toList]
theorem bodyZ {I : Addr} {i : Nat} {Q : Fin → Shared → Prop} (z : Zo w o es ep t L) (st : StZ w I a o L ep i s.heap)
    (q1 : ∀ v h', ((ordZ w a ep es)[i]?).map (·.2) = some v → i < L.length → h'.get? I = some (itO w a L ep (i + 1)) → Heap.SameBut I s.heap h' → Q (.done (.ret v)) { s with heap := h' })
    (q2 : i = L.length → wpAny (model prog w) A (do setField (.ref I) 2 .none; raiseNew (← newExc (.type "StopIteration") [])) Q E s) :
    wpAny (model prog w) A (Builtin.«set_iterator.__next__» { pos := [.ref I] }) Q E s := by
  obtain ⟨g1, g2, hi⟩ := st
  unfold Builtin.«set_iterator.__next__»
  refine wpAny_bind (m := slotArgs "__next__" 0 _) (wpAny_pure ?_)
  refine wpAny_bind (wpAny_fieldsOf g1 rfl ?_)
  show wpAny _ _ (setEntries a >>= _) _ _ s
  refine wpAny_bind (wpAny_setEntries_of g2 z.dt z.ff (wpAny_ite_split (fun c => absurd c (by rw [z.sz]; simp)) fun _ => ?_))
  show wpAny _ _ (setNext a ((slotZ w L i : Nat) : Int).toNat ((i : Nat) : Int).toNat ((ep : Nat) : Int).toNat >>= _) _ _ s
  simp only [Int.toNat_natCast]
  refine wpAny_bind (walkZ z g2 hi ?_)
  have so : (ordZ w a ep es).size = L.length := ordZ_sz z
  by_cases c : i < L.length
  · have ci : i < (ordZ w a ep es).size := by rw [so]; exact c
    rw [Array.getElem?_eq_getElem ci] at q1 ⊢
    show wpAny _ _ (setField (.ref I) 0 (rawInt (slotZ w L (i + 1))) >>= fun _ => setField (.ref I) 1 (rawInt ((i : Int) + 1)) >>= fun _ => ret _) _ _ s
    refine wpAny_bind (wpAny_setField_rec g1 (by simp) fun h1 k1 b1 => wpAny_bind (wpAny_setField_rec k1 (by simp) fun h2 k2 b2 => wpAny_pure (q1 _ h2 rfl c k2 (b1.trans b2))))
  · have hi : i = L.length := by omega
    rw [Array.getElem?_eq_none (by rw [so]; omega)]
    exact q2 hi
theorem nextZ {I : Addr} {i : Nat} {Q : Option Value → Shared → Prop} (z : Zo w o es ep t L) (st : StZ w I a o L ep i s.heap) (hi : i < L.length)
    (q : ∀ v h', ((ordZ w a ep es)[i]?).map (·.2) = some v → StZ w I a o L ep (i + 1) h' → Heap.SameBut I s.heap h' → Q (some v) { s with heap := h' }) : wpAny (model prog w) A (pyNext (.ref I)) Q E s := by
  have ty : s.TypeIs (.ref I) "set_iterator" := ⟨_, st.1, rfl⟩
  have ne : a ≠ I := fun y => by
    have g := st.1
    rw [← y, st.2.1] at g
    have e := congrArg (fun o : Option Obj => o.map Obj.cls) g
    simp [z.ex.1, itO] at e
  unfold pyNext
  refine wpAny_bind (wpAny_attempt (wpAny_callSpecial?_slot (name := Str.ofString "__next__") ty si_next (wpAny_call_entry si_next ty si_nextE (bodyZ z st (fun v h' e1 _ e3 sb => ⟨v, rfl, ?_⟩) fun y => absurd y (by omega)) (si_nextA _))))
  exact wpAny_pure (q v h' e1 ⟨e3, (sb.2 a ne).trans st.2.1, hi⟩ sb)
theorem endZ {I : Addr} {Q : Option Value → Shared → Prop} (nh : A.handled = none) (z : Zo w o es ep t L) (st : StZ w I a o L ep L.length s.heap)
    (q : ∀ h', Heap.ExtBut I s.heap h' → Q none { s with heap := h' }) : wpAny (model prog w) A (pyNext (.ref I)) Q E s := by
  have ty : s.TypeIs (.ref I) "set_iterator" := ⟨_, st.1, rfl⟩
  unfold pyNext
  refine wpAny_bind (wpAny_attempt (wpAny_callSpecial?_slot (name := Str.ofString "__next__") ty si_next (wpAny_call_entry si_next ty si_nextE (bodyZ z st (fun v h' e1 e2 _ _ => absurd e2 (by omega)) fun _ => ?_) (si_nextA _))))
  refine wpAny_bind (wpAny_setField_rec st.1 (by simp) fun h1 k1 b1 => ?_)
  refine wpAny_bind ?_
  simp only [newTuple, newExc]
  refine wpAny_bind (wpAny_newObj_type (wpAny_bind (m := firstArgMember _ _) (wpAny_of_eq (a := Value.none) (by first | rfl | (simp only [firstArgMember]; rfl)) (wpAny_newObj_type ?_ (by size_fits)))) (by size_fits))
  unfold raiseNew
  refine wpAny_bind (wpAny_handled (by
    rw [show A.in1.handled = none from nh]
    refine wpAny_bind (wpAny_pure (wpAny_throw ?_))
    refine wpAny_bind (wpAny_isInstance (T := "StopIteration") (b := true) ⟨_, Heap.get?_push_size _ rfl, rfl⟩ isSubtype_stop (wpAny_pure (q _ ?_)))
    exact (b1.extBut.push _).push _))
theorem walksZ {I : Addr} (nh : A.handled = none) (z : Zo w o es ep t L) (ne : a ≠ I) : Walks prog w A I [I, a] [I] L.length (fun i v => ((ordZ w a ep es)[i]?).map (·.2) = some v) (StZ w I a o L ep) where
  sub := by simp
  frame := fun i h h' st k => ⟨k I (by simp) _ st.1, k a (by simp) _ st.2.1, st.2.2⟩
  item := fun i s Q E hi st q => nextZ z st hi fun v h' e st' sb => q v h' s.toks e st' fun b o hb e => (sb.2 b (by simpa using hb)).trans e
  done := fun s Q E st q => endZ nh z st fun h' eb => q h' s.toks fun b o hb e => eb b o (by simpa using hb) e
  self := fun i s Q E st q => by
    have ty : s.TypeIs (.ref I) "set_iterator" := ⟨_, st.1, rfl⟩
    exact wpAny_pyIter_slot ty si_iter (wpAny_call_entry si_iter ty si_iterE (show wpAny _ _ (ret (.ref I)) _ _ s from wpAny_pure ⟨_, rfl, "set_iterator", _, ty, si_next.lookup, q⟩) (si_iterA _))
theorem iterZ {Q : Value → Shared → Prop} (z : Zo w o es ep t L) (g : s.heap.get? a = some o) (q : Q (.ref s.heap.objs.size) { s with heap := s.heap.push (itO w a L ep 0) }) : wpAny (model prog w) A (pyIter (.ref a)) Q E s := by
  have ty : s.TypeIs (.ref a) "set" := ⟨o, g, z.ex.1⟩
  refine wpAny_pyIter_slot ty PySem.F.slot_set_iter (wpAny_call_entry PySem.F.slot_set_iter ty st_iterE ?_ (PySem.F.args_set_iter_1 _))
  unfold Builtin.«frozenset.__iter__»
  refine wpAny_bind (m := Builtin.Frozenset.slot0 "__iter__" _) (wpAny_pure ?_)
  refine wpAny_bind (m := Builtin.Frozenset.sizeOf a) (wpAny_bind (wpAny_setEntries_of g z.dt z.ff (wpAny_pure ?_)))
  have n1 : (!w.params.followText "set-order" && (!t.plain && decide (es.size > 1))) = false := by rw [z.pn]; simp
  refine wpAny_bind (m := setDrawn a) ?_
  unfold setDrawn
  refine wpAny_bind (wpAny_setState_of g z.dt z.ff (wpAny_bind (m := setsByText) (wpAny_bind (wpAny_askSetting (wpAny_pure (wpAny_pure ?_))))))
  refine wpAny_ite_split (fun c => absurd (n1.symm.trans c) (by decide)) fun _ => ?_
  refine wpAny_bind (wpAny_pure (wpAny_bind (wpAny_setEpoch_of g z.dt z.ff (wpAny_bind (wpAny_newObj_type (wpAny_pure ⟨_, rfl, "set_iterator", _, ⟨_, Heap.get?_push_size _ rfl, rfl⟩, si_next.lookup, ?_⟩))))))
  have e0 : slotZ w L 0 = 0 := by unfold slotZ; split <;> rfl
  have e1 : itO w a L ep 0 = { cls := .type "set_iterator", data := .fields [rawInt 0, rawInt 0, .ref a, rawInt es.size, rawInt ep].toArray } := by unfold itO; rw [e0, z.sz]; rfl
  rw [e1] at q
  exact q
theorem hintZ {Q : Bool → Shared → Prop} (ty : s.TypeIs (.ref a) "set") (q : Q false s) : wpAny (model prog w) A (Builtin.List.listLengthHint (.ref a)) Q E s := by
  unfold Builtin.List.listLengthHint
  refine wpAny_bind (wpAny_specialOf ty PySem.F.slot_set_len.lookup ?_)
  have sp : splitId "set.__len__" = some ("set", "__len__") := by decide +kernel
  simp only [sp]
  refine wpAny_bind (wpAny_isInstance (T := "set") (b := true) ty sub_set_self ?_)
  exact wpAny_ite_split (fun c => absurd c (by decide)) fun _ => wpAny_ite_split (fun _ => wpAny_bind (wpAny_typeOf ty (wpAny_pure q))) fun c => absurd (by decide +kernel) c
theorem srcZ (z : Zo w o es ep t L) : PySem.W.KdlSrc prog w "set" a a L.length (fun i v => ((ordZ w a ep es)[i]?).map (·.2) = some v) (fun h => h.get? a = some o) where
  type := fun s g => ⟨o, g, z.ex.1⟩
  there := fun h g => ⟨Heap.lt_size g, Heap.lt_size g⟩
  keep := fun h h' g k => k a (.inl rfl) o g
  notList := rfl
  notTuple := rfl
  hint := fun A E s Q g q => hintZ ⟨o, g, z.ex.1⟩ q
  iter := fun A s nh g => ⟨itO w a L ep 0, StZ w s.heap.objs.size a o L ep, fun E Q q => iterZ z g q, walksZ nh z (Nat.ne_of_lt (Heap.lt_size g)), Heap.get?_push_size _ rfl, Heap.get?_push_of_some _ g, Nat.zero_le _⟩
theorem itemsZ {acc : Array Value} (z : Zo w o es ep t L) (h : ItemsOf (fun i v => ((ordZ w a ep es)[i]?).map (·.2) = some v) acc L.length) : ∃ ms : List Nat, ms.Perm L ∧ IntsAre acc.toList (ms.map fun n : Nat => (n : Int)) := by
  have e1 : acc.toList = (ordZ w a ep es).toList.map (·.2) := by
    obtain ⟨i1, i2⟩ := h
    apply List.ext_getElem?
    intro i
    rw [List.getElem?_map, Array.getElem?_toList, Array.getElem?_toList]
    by_cases c : i < acc.size
    · have g := Array.getElem?_eq_getElem c
      rw [i2 i _ g, g]
    · rw [Array.getElem?_eq_none (by omega), Array.getElem?_eq_none (by rw [ordZ_sz z]; omega)]
      rfl
  rw [e1]
  have e2 : es.toList.map (·.1) = L.map fun n : Nat => (n : Int) := z.el.hashes
  have e3 : ∀ e ∈ (ordZ w a ep es).toList, ∃ (k : Nat) (tk : Tok), e.1 = (k : Int) ∧ e.2 = .int (k : Int) tk := fun e he => by
    obtain ⟨i, hi⟩ := List.mem_iff_getElem?.mp (ordZ_perm.mem_iff.mp he)
    obtain ⟨k, _, a1, tk, a2⟩ := z.el.get hi
    exact ⟨k, tk, a1, a2⟩
  have e4 : ((ordZ w a ep es).toList.map (·.1)).Perm (L.map fun n : Nat => (n : Int)) := by rw [← e2]; exact ordZ_perm.map _
  generalize (ordZ w a ep es).toList = l at e3 e4
  refine ⟨l.map fun e => e.1.toNat, ?_, ?_⟩
  · have := e4.map Int.toNat
    rw [List.map_map, List.map_map] at this
    refine this.trans (List.Perm.of_eq ?_)
    have : (Int.toNat ∘ fun n : Nat => (n : Int)) = id := by funext n; simp
    rw [this, List.map_id]
  · clear e4 e1
    induction l with
    | nil => exact .nil
    | cons e l ih =>
      obtain ⟨k, tk, a1, a2⟩ := e3 e (by simp)
      simp only [List.map_cons, a1, a2, Int.toNat_natCast]
      exact .cons _ _ (ih fun x hx => e3 x (by simp [hx]))
theorem collectZ {Q : List Value → Shared → Prop} (nh : A.handled = none) (z : Zo w o es ep t L) (g : s.heap.get? a = some o)
    (q : ∀ h' tk acc (ms : List Nat), s.heap.objs.size < h'.objs.size → (∀ b o, s.heap.get? b = some o → h'.get? b = some o) → ms.Perm L → IntsAre acc (ms.map fun n : Nat => (n : Int)) → Q acc { s with heap := h', toks := tk }) : wpAny (model prog w) A (collect (.ref a)) Q E s := by
  have run : ∀ R : Result → Shared → Prop, (∀ h' tk (acc : Array Value) c, (∀ b o, s.heap.get? b = some o → h'.get? b = some o) → h'.get? s.heap.objs.size = some { cls := .type "list", dict := none, data := .seq acc c, slots := #[] } → ItemsOf (fun i v => ((ordZ w a ep es)[i]?).map (·.2) = some v) acc L.length → R (.ok (.ret (.ref s.heap.objs.size))) { s with heap := h', toks := tk }) →
      codeAny (model prog w) A (.builtin "proto.collect" { pos := [.ref a] }) R s := by
    intro R hR
    refine codeAny_builtin F.entry_proto_collect ?_
    rw [Around.under_plainId F.plain_proto_collect _]
    refine (show wpAny _ A.in1 (newList [] >>= fun l => again (.builtin "list.__iadd__" { pos := [l, .ref a] })) _ _ s from wpAny_bind (wpAny_newObj_type (wpAny_pure ⟨plainId_quiet F.plain_list_iadd _, codeAny_builtin F.entry_list_iadd ?_⟩)))
    rw [Around.under_plainId F.plain_list_iadd _]
    have ga := Heap.lt_size g
    refine (show wpAny _ A.in1 (Builtin.List.listExtendWith (.ref s.heap.objs.size) (.ref a) (.ref s.heap.objs.size)) _ _ _ from PySem.W.kdl_extend (R := R) (srcZ z) nh (Heap.get?_push_of_some _ g) _ (Nat.ne_of_gt ga) (Nat.ne_of_gt ga) _ _ (Heap.get?_push_size _ rfl) (fun h' tk acc c k e it => hR h' tk acc c (fun b o hb => k b o (Nat.ne_of_lt (Heap.lt_size hb)) (Heap.get?_push_of_some _ hb)) e it) ?_)
    have := asc_len z.ha
    rw [sizeLine_eq]; omega
  unfold collect
  refine wpAny_bind (wpAny_runValue (run _ fun h' tk acc c k e it => ?_))
  obtain ⟨ms, m1, m2⟩ := itemsZ z it
  exact (show wpAny _ A (load s.heap.objs.size >>= _) _ _ _ from wpAny_bind (wpAny_load e (wpAny_pure (q h' tk acc.toList ms (Heap.lt_size e) k m1 m2))))
theorem sort_one : ∀ {a b : List Int}, a.Perm b → a.Pairwise (· ≤ ·) → b.Pairwise (· ≤ ·) → a = b
  | [], b, p, _, _ => (List.Perm.eq_nil p.symm).symm
  | x :: a, [], p, _, _ => absurd p.length_eq (by simp)
  | x :: a, y :: b, p, h1, h2 => by
    have hx : x = y := by
      have m1 : y ∈ x :: a := p.mem_iff.mpr (by simp)
      have m2 : x ∈ y :: b := p.mem_iff.mp (by simp)
      have l1 : x ≤ y := by
        rcases List.mem_cons.mp m1 with e | e
        · omega
        · exact (List.pairwise_cons.mp h1).1 y e
      have l2 : y ≤ x := by
        rcases List.mem_cons.mp m2 with e | e
        · omega
        · exact (List.pairwise_cons.mp h2).1 x e
      omega
    subst hx
    rw [sort_one (List.Perm.cons_inv p) (List.pairwise_cons.mp h1).2 (List.pairwise_cons.mp h2).2]
theorem sortZ {Q : Value → Shared → Prop} (nh : A.handled = none) (S : SetZ w s.heap a L)
    (q : ∀ D h' tk vs c, s.heap.objs.size ≤ D → (∀ b o, s.heap.get? b = some o → h'.get? b = some o) → h'.get? D = some { cls := .type "list", data := .seq vs.toArray c } → IntsAre vs (L.map fun n : Nat => (n : Int)) → Q (.ref D) { s with heap := h', toks := tk }) :
    wpAny (model prog w) A (call (.builtin "sorted") [.ref a]) Q E s := by
  obtain ⟨o, es, ep, t, g, ex, dt, el, ha, pl, du, pn, ld, mm⟩ := S
  have z : Zo w o es ep t L := ⟨ex, dt, el, ha, pl, du, pn, ld, mm⟩
  refine Calls.call_function_entry kind_sorted plain_sorted entry_sorted (args_sorted1 _) ?_
  unfold Builtin.«sorted»
  refine wpAny_bind (m := checkCount "sorted" 1 1 _) (wpAny_pure (wpAny_bind (collectZ nh z g fun h1 t1 acc ms lt1 k1 pm im => ?_)))
  have l8 := asc_len ha
  have lm := pm.length_eq
  have la := im.length
  rw [List.length_map] at la
  refine wpAny_bind (wpAny_newList ?_ (by rw [sizeLine_eq]; omega))
  have g2 : (h1.push { cls := .type "list", data := .seq acc.toArray }).get? h1.objs.size = some (seqObj "list" acc.toArray 0) := Heap.get?_push_size _ rfl
  refine wpAny_bind (wpAny_holding (wpAny_call_entry slot_list_sort ⟨_, g2, rfl⟩ entry_list_sort (list_sort_tree g2 im (by omega) fun out ns' a1 a2 a3 => ⟨_, rfl, wpAny_pure ⟨_, rfl, ?_⟩⟩) (args_list_sort _)))
  obtain ⟨c, g3⟩ := sortedHeap_at (out := out) g2
  have e1 : ns' = L.map fun n : Nat => (n : Int) := sort_one (a2.trans (pm.map _)) a3 (by rw [List.pairwise_map]; exact ha.1.imp fun h => by omega)
  rw [e1] at a1
  exact q h1.objs.size _ t1 out.toList c (Nat.le_of_lt lt1) (fun b o hb => by
    have hb1 := Heap.lt_size (k1 b o hb)
    rw [sortedHeap_old (Nat.ne_of_lt hb1) (Nat.lt_trans hb1 (Heap.lt_size g2))]
    exact Heap.get?_push_of_some _ (k1 b o hb)) (by rw [g3]) a1
end
end L2

namespace L2
open PySem PySem.Spec PyProof.Rows
/-! ### sorted(set(l)) -/
theorem bt_sorted : bootBuiltins "sorted" = some (.builtin "sorted") := by decide +kernel
theorem bt_set : bootBuiltins "set" = some (.type "set") := by decide +kernel
noncomputable def natV (l : List Nat) : List V := l.map fun n : Nat => V.int (n : Int)
theorem vals_nat : ∀ {ns : List Nat} {us : List Value}, Vals (natV ns) us → ns.length = us.length ∧ ∀ (i : Nat) (v : Value), us[i]? = some v → ∃ (k : Nat) (t : Tok), ns[i]? = some k ∧ v = Value.int (k : Int) t
  | [], [], _ => ⟨rfl, fun i v h => by simp at h⟩
  | n :: ns, u :: us, .cons r t => by
    obtain ⟨h1, h2⟩ := vals_nat (ns := ns) t
    refine ⟨by simp [h1], fun i v h => ?_⟩
    cases i with
    | zero =>
      cases h
      obtain ⟨tk, rfl⟩ := r
      exact ⟨n, tk, rfl, rfl⟩
    | succ i => exact h2 i v h
theorem nat_vals : ∀ {ns : List Nat} {us : List Value}, IntsAre us (ns.map fun n : Nat => (n : Int)) → Vals (natV ns) us
  | [], _, .nil => .nil
  | n :: ns, _, .cons _ t h => .cons ⟨t, rfl⟩ (nat_vals h)
section
variable {X : Cx}
noncomputable def tSortS (te : TE) : TE := fun σ H Q => te σ H fun x H1 => ∃ a ns, x = .ref a ∧ H1 a = some (.lst (natV ns)) ∧ (∀ k ∈ ns, k < 8) ∧ ∀ L, asc L → (∀ k, k ∈ L ↔ k ∈ ns) → NewO H1 (.lst (natV L)) Q
theorem a_tSortS {te : TE} {σ : St} {H : Hp} {Q : VK} : tSortS te σ H Q = (te σ H fun x H1 => ∃ a ns, x = .ref a ∧ H1 a = some (.lst (natV ns)) ∧ (∀ k ∈ ns, k < 8) ∧ ∀ L, asc L → (∀ k, k ∈ L ↔ k ∈ ns) → NewO H1 (.lst (natV L)) Q) := rfl
theorem pe_sortS {e : Expr} {te : TE} {p1 p2 q1 q2 : Pos} (hc : X.calm = true) (hg : Gl X "sorted") (hm : X.mg "sorted" = none) (hg2 : Gl X "set") (hm2 : X.mg "set" = none) (he : PE X e te)
    (hs1 : starEach [Expr.Call (.Name "set" p2) [e] [] q2] X.env = [(false, eval (Expr.Call (.Name "set" p2) [e] [] q2) X.env)] := by rfl) (hs2 : starEach [e] X.env = [(false, eval e X.env)] := by rfl) :
    PE X (.Call (.Name "sorted" p1) [.Call (.Name "set" p2) [e] [] q2] [] q1) (tSortS te) := by
  intro pins s σ H Q I h
  refine wpAny_Call_Name_kw (ld_blt I hg hm bt_sorted ?_ (by decide) (by decide))
  refine PyProof.Rows.callWith_builtin1 ?_ (by rw [hs1]; rfl) rfl
  rw [hs1]
  show wpAny _ _ (spliced ((false, eval (Expr.Call (.Name "set" p2) [e] [] q2) X.env) :: [])) _ _ s
  refine Calls.spliced_cons (wpAny_Call_Name_kw (ld_blt I hg2 hm2 bt_set ?_ (by decide) (by decide)))
  refine PyProof.Rows.callWith_type1 ?_ (by rw [hs2]; rfl) rfl
  rw [hs2]
  show wpAny _ _ (spliced ((false, eval e X.env) :: [])) _ _ s
  refine Calls.spliced_cons (thn (he pins s σ H _ I h) fun v s1 ⟨x, H1, I1, r1, a, ns, ex, ea, h8, q⟩ => Calls.spliced_nil ?_)
  subst ex
  cases r1
  obtain ⟨z, its, n, rv, hl, eo⟩ := I1.lstM ea
  obtain ⟨v1, v2⟩ := vals_nat rv
  refine setZ_call (I1.ok.hd hc) (items := its.toArray) (ns := ns) ⟨_, eo, rfl, n, rfl⟩ (by simpa using v1) (fun i v hv => v2 i v (by simpa using hv)) h8 fun h2 t2 Z k2 => Calls.spliced_nil ?_
  obtain ⟨L, SZ, hL⟩ := Z
  rw [List.take_length] at hL
  have hA : asc L := by
    obtain ⟨_, _, _, _, _, _, _, _, ha, _⟩ := SZ
    exact ha
  refine sortZ (s := { s1 with heap := h2, toks := t2 }) (I1.ok.hd hc) SZ fun D h3 t3 vs c le k3 g3 iv => ?_
  have le1 : s1.heap.objs.size ≤ D := by
    obtain ⟨o, _, _, _, g, _⟩ := SZ
    have : s1.heap.objs.size < h2.objs.size := Heap.lt_size g
    have le : h2.objs.size ≤ D := le
    omega
  refine ⟨.ref D, upd H1 D (.lst (natV L)), ?_, rfl, ?_⟩
  · refine I1.laid (h' := h3) (t' := t3) (fun b o hb => k3 b o (k2 b o hb)) le1 (show ObjOk X.prog X.w _ h3 _ (.lst (natV L)) from ⟨?_, vs, c, nat_vals iv, g3⟩)
    have := asc_len hA
    unfold natV
    rw [List.length_map, sizeLine_eq]; omega
  · exact q L hA hL D (I1.hok.fresh le1)
end
end L2

set_option maxHeartbeats 4000000
namespace K31
open PySem L2
local macro_rules | `(tactic| walk_at "rd") => `(tactic| simp only [a_rIndexI, a_tDisp, a_pNil, a_pCons, a_iZipK, a_tSortS, a_tFor, a_tSet, a_tSetC, a_tVar, a_tC, a_tB, a_tAnd, a_tOr, a_tNot, a_tAndV, a_tNotV, a_tNext, a_tSeq, a_tDrop, a_tRet, a_tIfS, a_gName, a_gNil, a_gCons, a_gTup, a_gSub, a_tAsg, a_iRng1, a_tOp, a_rI, a_rI0, a_rEq, a_rNe, a_tTest, a_tChain, a_tNil, a_tCons, b_tTup, b_tLst, a_tCall, a_tCB, a_tNoPart, a_tPart, a_tSl, b_rSlT, a_rIxL, a_rIxS, b_rSetL, a_tBM, b_rAppend, b_rExtend, b_rCat, b_rRep, a_tDGet, a_tDNotIn, a_tYes, a_tComp, a_rJoin, a_rEqD, a_rNeD, a_rIsi, a_rCatD, a_rIxF, a_rSlLF, a_rLenF, a_rIntB, ty_str, tJs, a_tFmtI, a_tRaise, a_tTry, a_tCallJ, a_rMaxS, a_rMinS, a_rListF, a_rTupF, a_rSlU, a_iL, a_iT, L2.start, blkSt, cxOf_K, blk_K, List.getElem?_cons_zero, List.getElem?_cons_succ, Option.some.injEq, Option.join_some, exists_eq_left', exists_eq_left, exists_eq_right, V.int.injEq, V.ref.injEq, V.str.injEq, V.bl.injEq, V.ty.injEq, and_true, true_and, List.set_cons_zero, List.set_cons_succ, List.cons.injEq, List.cons_append, List.nil_append, List.append_nil, List.map_cons, List.map_nil, List.length_cons, List.length_nil, List.replicate, exists_and_left, exists_and_right, Nat.reduceAdd, Nat.reduceSub, atI_0, atI_1, atI_2, atI_3, atI_4, if_true, if_false, Bool.false_eq_true, scal_ii, scal_ss, scal_bb])
local macro_rules | `(tactic| walk_at "cm") => `(tactic| first | (refine cm_l ?_ ?_ <;> omega) | (refine cm_r ?_ ?_ <;> omega))
noncomputable def top (i : Nat) : Stmt := PySem.Challenge.pw_fewboxes_k31_the_told_row_holds.main.body.getD i (.Pass ⟨0, 0, 0, 0⟩)
noncomputable abbrev s_is_leaf : Stmt := top 4
noncomputable abbrev s_places : Stmt := top 5
noncomputable abbrev s_leaves : Stmt := top 6
noncomputable abbrev s_part_at : Stmt := top 7
noncomputable abbrev s_rank : Stmt := top 9
noncomputable abbrev s_puts : Stmt := top 10
noncomputable abbrev s_must_put : Stmt := top 11
noncomputable abbrev s_least : Stmt := top 12
noncomputable abbrev s_row_by_shelf : Stmt := top 14
noncomputable abbrev s_row_by_boxes : Stmt := top 15
noncomputable abbrev s_row_into : Stmt := top 16
noncomputable abbrev s_row_for : Stmt := top 17
noncomputable abbrev s__law_at : Stmt := top 19
noncomputable abbrev s__law_names : Stmt := top 20
noncomputable abbrev s__law_many : Stmt := top 21
noncomputable abbrev s__law_second : Stmt := top 22
noncomputable abbrev s__law_tree : Stmt := top 23
noncomputable abbrev s__law_ranks : Stmt := top 24
noncomputable abbrev s__law_knots : Stmt := top 25
noncomputable abbrev s__law_marked : Stmt := top 26
noncomputable abbrev s__law_fits : Stmt := top 27
noncomputable abbrev s__law_boxes : Stmt := top 28
noncomputable abbrev s__law_led : Stmt := top 29
noncomputable abbrev s_law : Stmt := top 30
theorem sc_is_leaf : FnScope ["tree"] ["tree"] (defScope s_is_leaf) := ⟨rfl, rfl, rfl, by decide +kernel, rfl, by decide +kernel, by decide +kernel⟩
theorem sc_places : FnScope ["tree", "found", "step"] ["tree"] (defScope s_places) := ⟨rfl, rfl, rfl, by decide +kernel, rfl, by decide +kernel, by decide +kernel⟩
theorem sc_leaves : FnScope ["tree"] ["tree"] (defScope s_leaves) := ⟨rfl, rfl, rfl, by decide +kernel, rfl, by decide +kernel, by decide +kernel⟩
theorem sc_part_at : FnScope ["tree", "place", "part", "step"] ["tree", "place"] (defScope s_part_at) := ⟨rfl, rfl, rfl, by decide +kernel, rfl, by decide +kernel, by decide +kernel⟩
theorem sc_rank : FnScope ["tree", "left", "right"] ["tree"] (defScope s_rank) := ⟨rfl, rfl, rfl, by decide +kernel, rfl, by decide +kernel, by decide +kernel⟩
theorem sc_puts : FnScope ["tree", "k"] ["tree", "k"] (defScope s_puts) := ⟨rfl, rfl, rfl, by decide +kernel, rfl, by decide +kernel, by decide +kernel⟩
theorem sc_must_put : FnScope ["tree", "k"] ["tree", "k"] (defScope s_must_put) := ⟨rfl, rfl, rfl, by decide +kernel, rfl, by decide +kernel, by decide +kernel⟩
theorem sc_least : FnScope ["tree", "k", "takes", "joins", "shelved"] ["tree", "k"] (defScope s_least) := ⟨rfl, rfl, rfl, by decide +kernel, rfl, by decide +kernel, by decide +kernel⟩
theorem sc_row_by_shelf : FnScope ["tree", "k", "shelf", "right", "left"] ["tree", "k", "shelf"] (defScope s_row_by_shelf) := ⟨rfl, rfl, rfl, by decide +kernel, rfl, by decide +kernel, by decide +kernel⟩
theorem sc_row_by_boxes : FnScope ["tree", "k", "box", "shelf", "sons"] ["tree", "k", "box", "shelf"] (defScope s_row_by_boxes) := ⟨rfl, rfl, rfl, by decide +kernel, rfl, by decide +kernel, by decide +kernel⟩
theorem sc_row_into : FnScope ["tree", "k", "box", "shelf"] ["tree", "k", "box", "shelf"] (defScope s_row_into) := ⟨rfl, rfl, rfl, by decide +kernel, rfl, by decide +kernel, by decide +kernel⟩
theorem sc_row_for : FnScope ["tree", "k"] ["tree", "k"] (defScope s_row_for) := ⟨rfl, rfl, rfl, by decide +kernel, rfl, by decide +kernel, by decide +kernel⟩
theorem sc__law_at : FnScope ["script", "k", "cell"] ["script", "k"] (defScope s__law_at) := ⟨rfl, rfl, rfl, by decide +kernel, rfl, by decide +kernel, by decide +kernel⟩
theorem sc__law_names : FnScope ["cell", "many", "letters", "size", "out", "k", "signs"] ["cell", "many"] (defScope s__law_names) := ⟨rfl, rfl, rfl, by decide +kernel, rfl, by decide +kernel, by decide +kernel⟩
theorem sc__law_many : FnScope ["script", "cell"] ["script"] (defScope s__law_many) := ⟨rfl, rfl, rfl, by decide +kernel, rfl, by decide +kernel, by decide +kernel⟩
theorem sc__law_second : FnScope ["script"] ["script"] (defScope s__law_second) := ⟨rfl, rfl, rfl, by decide +kernel, rfl, by decide +kernel, by decide +kernel⟩
theorem sc__law_tree : FnScope ["script", "at", "many", "deeds", "trees", "n", "cell", "p", "two", "side", "knot"] ["script", "at", "many"] (defScope s__law_tree) := ⟨rfl, rfl, rfl, by decide +kernel, rfl, by decide +kernel, by decide +kernel⟩
theorem sc__law_ranks : FnScope ["tree", "place", "left", "right", "two"] ["tree", "place"] (defScope s__law_ranks) := ⟨rfl, rfl, rfl, by decide +kernel, rfl, by decide +kernel, by decide +kernel⟩
theorem sc__law_knots : FnScope ["tree", "place"] ["tree", "place"] (defScope s__law_knots) := ⟨rfl, rfl, rfl, by decide +kernel, rfl, by decide +kernel, by decide +kernel⟩
theorem sc__law_marked : FnScope ["parts", "deed", "boxes", "shelf", "place", "name", "knot", "found", "sons"] ["parts", "deed", "boxes", "shelf"] (defScope s__law_marked) := ⟨rfl, rfl, rfl, by decide +kernel, rfl, by decide +kernel, by decide +kernel⟩
theorem sc__law_fits : FnScope ["deed", "k", "puts_v", "shapes", "word", "sort", "size"] ["deed", "k", "puts_v"] (defScope s__law_fits) := ⟨rfl, rfl, rfl, by decide +kernel, rfl, by decide +kernel, by decide +kernel⟩
theorem sc__law_boxes : FnScope ["deed"] ["deed"] (defScope s__law_boxes) := ⟨rfl, rfl, rfl, by decide +kernel, rfl, by decide +kernel, by decide +kernel⟩
theorem sc__law_led : FnScope ["deed", "used"] ["deed", "used"] (defScope s__law_led) := ⟨rfl, rfl, rfl, by decide +kernel, rfl, by decide +kernel, by decide +kernel⟩
theorem sc_law : FnScope ["script", "tree", "k", "row", "refused", "parts", "puts_v", "used", "deed", "boxes", "shelf"] ["script"] (defScope s_law) := ⟨rfl, rfl, rfl, by decide +kernel, rfl, by decide +kernel, by decide +kernel⟩
set_option genInjectivity false in
set_option genSizeOfSpec false in
structure Txt (K : PySem.W.Frag) (mg : Str → Option Value) where
  f_is_leaf : Addr
  d_is_leaf : FuncData
  F_is_leaf : Fun K "is_leaf" "is_leaf" s_is_leaf f_is_leaf d_is_leaf
  m_is_leaf : mg "is_leaf" = some (.ref f_is_leaf)
  b_is_leaf : Binds K d_is_leaf ["tree"] []
  f_places : Addr
  d_places : FuncData
  F_places : Fun K "places" "places" s_places f_places d_places
  m_places : mg "places" = some (.ref f_places)
  b_places : Binds K d_places ["tree"] []
  f_leaves : Addr
  d_leaves : FuncData
  F_leaves : Fun K "leaves" "leaves" s_leaves f_leaves d_leaves
  m_leaves : mg "leaves" = some (.ref f_leaves)
  b_leaves : Binds K d_leaves ["tree"] []
  f_part_at : Addr
  d_part_at : FuncData
  F_part_at : Fun K "part_at" "part_at" s_part_at f_part_at d_part_at
  m_part_at : mg "part_at" = some (.ref f_part_at)
  b_part_at : Binds K d_part_at ["tree", "place"] []
  f_rank : Addr
  d_rank : FuncData
  F_rank : Fun K "rank" "rank" s_rank f_rank d_rank
  m_rank : mg "rank" = some (.ref f_rank)
  b_rank : Binds K d_rank ["tree"] []
  f_puts : Addr
  d_puts : FuncData
  F_puts : Fun K "puts" "puts" s_puts f_puts d_puts
  m_puts : mg "puts" = some (.ref f_puts)
  b_puts : Binds K d_puts ["tree", "k"] []
  f_must_put : Addr
  d_must_put : FuncData
  F_must_put : Fun K "must_put" "must_put" s_must_put f_must_put d_must_put
  m_must_put : mg "must_put" = some (.ref f_must_put)
  b_must_put : Binds K d_must_put ["tree", "k"] []
  f_least : Addr
  d_least : FuncData
  F_least : Fun K "least" "least" s_least f_least d_least
  m_least : mg "least" = some (.ref f_least)
  b_least : Binds K d_least ["tree", "k"] []
  f_row_by_shelf : Addr
  d_row_by_shelf : FuncData
  F_row_by_shelf : Fun K "row_by_shelf" "row_by_shelf" s_row_by_shelf f_row_by_shelf d_row_by_shelf
  m_row_by_shelf : mg "row_by_shelf" = some (.ref f_row_by_shelf)
  b_row_by_shelf : Binds K d_row_by_shelf ["tree", "k", "shelf"] []
  f_row_by_boxes : Addr
  d_row_by_boxes : FuncData
  F_row_by_boxes : Fun K "row_by_boxes" "row_by_boxes" s_row_by_boxes f_row_by_boxes d_row_by_boxes
  m_row_by_boxes : mg "row_by_boxes" = some (.ref f_row_by_boxes)
  b_row_by_boxes : Binds K d_row_by_boxes ["tree", "k", "box", "shelf"] []
  f_row_into : Addr
  d_row_into : FuncData
  F_row_into : Fun K "row_into" "row_into" s_row_into f_row_into d_row_into
  m_row_into : mg "row_into" = some (.ref f_row_into)
  b_row_into : Binds K d_row_into ["tree", "k", "box", "shelf"] []
  f_row_for : Addr
  d_row_for : FuncData
  F_row_for : Fun K "row_for" "row_for" s_row_for f_row_for d_row_for
  m_row_for : mg "row_for" = some (.ref f_row_for)
  b_row_for : Binds K d_row_for ["tree", "k"] []
  f__law_at : Addr
  d__law_at : FuncData
  F__law_at : Fun K "_law_at" "_law_at" s__law_at f__law_at d__law_at
  m__law_at : mg "_law_at" = some (.ref f__law_at)
  b__law_at : Binds K d__law_at ["script", "k"] []
  f__law_names : Addr
  d__law_names : FuncData
  F__law_names : Fun K "_law_names" "_law_names" s__law_names f__law_names d__law_names
  m__law_names : mg "_law_names" = some (.ref f__law_names)
  b__law_names : Binds K d__law_names ["cell", "many"] []
  f__law_many : Addr
  d__law_many : FuncData
  F__law_many : Fun K "_law_many" "_law_many" s__law_many f__law_many d__law_many
  m__law_many : mg "_law_many" = some (.ref f__law_many)
  b__law_many : Binds K d__law_many ["script"] []
  f__law_second : Addr
  d__law_second : FuncData
  F__law_second : Fun K "_law_second" "_law_second" s__law_second f__law_second d__law_second
  m__law_second : mg "_law_second" = some (.ref f__law_second)
  b__law_second : Binds K d__law_second ["script"] []
  f__law_tree : Addr
  d__law_tree : FuncData
  F__law_tree : Fun K "_law_tree" "_law_tree" s__law_tree f__law_tree d__law_tree
  m__law_tree : mg "_law_tree" = some (.ref f__law_tree)
  b__law_tree : Binds K d__law_tree ["script", "at", "many"] []
  f__law_ranks : Addr
  d__law_ranks : FuncData
  F__law_ranks : Fun K "_law_ranks" "_law_ranks" s__law_ranks f__law_ranks d__law_ranks
  m__law_ranks : mg "_law_ranks" = some (.ref f__law_ranks)
  b__law_ranks : Binds K d__law_ranks ["tree", "place"] []
  f__law_knots : Addr
  d__law_knots : FuncData
  F__law_knots : Fun K "_law_knots" "_law_knots" s__law_knots f__law_knots d__law_knots
  m__law_knots : mg "_law_knots" = some (.ref f__law_knots)
  b__law_knots : Binds K d__law_knots ["tree", "place"] []
  f__law_marked : Addr
  d__law_marked : FuncData
  F__law_marked : Fun K "_law_marked" "_law_marked" s__law_marked f__law_marked d__law_marked
  m__law_marked : mg "_law_marked" = some (.ref f__law_marked)
  b__law_marked : Binds K d__law_marked ["parts", "deed", "boxes", "shelf"] []
  f__law_fits : Addr
  d__law_fits : FuncData
  F__law_fits : Fun K "_law_fits" "_law_fits" s__law_fits f__law_fits d__law_fits
  m__law_fits : mg "_law_fits" = some (.ref f__law_fits)
  b__law_fits : Binds K d__law_fits ["deed", "k", "puts_v"] []
  f__law_boxes : Addr
  d__law_boxes : FuncData
  F__law_boxes : Fun K "_law_boxes" "_law_boxes" s__law_boxes f__law_boxes d__law_boxes
  m__law_boxes : mg "_law_boxes" = some (.ref f__law_boxes)
  b__law_boxes : Binds K d__law_boxes ["deed"] []
  f__law_led : Addr
  d__law_led : FuncData
  F__law_led : Fun K "_law_led" "_law_led" s__law_led f__law_led d__law_led
  m__law_led : mg "_law_led" = some (.ref f__law_led)
  b__law_led : Binds K d__law_led ["deed", "used"] []
  f_law : Addr
  d_law : FuncData
  F_law : Fun K "law" "law" s_law f_law d_law
  m_law : mg "law" = some (.ref f_law)
  b_law : Binds K d_law ["script"] []
  z_bool : mg "bool" = none
  z_int : mg "int" = none
  z_isinstance : mg "isinstance" = none
  z_len : mg "len" = none
  z_list : mg "list" = none
  z_max : mg "max" = none
  z_min : mg "min" = none
  z_range : mg "range" = none
  z_set : mg "set" = none
  z_sorted : mg "sorted" = none
  z_str : mg "str" = none
  z_tuple : mg "tuple" = none
  z_zip : mg "zip" = none
  C_TooFew : Addr
  m_TooFew : mg "TooFew" = some (.ref C_TooFew)
  x_TooFew : ErrAt K C_TooFew
  u_TooFew_TooFew : subOf K C_TooFew C_TooFew = true
section
variable {P : Program} {w : World} {K : PySem.W.Frag} {mg : Str → Option Value} {base : Heap}
/-! ### the law's own: cells, names, trees -/
noncomputable def lawAt (ns : List Int) (k : Nat) : Int :=
  if k < ns.length then ns.getD k 0 else
    let c : Int := 40692 * k + 1
    let c : Int := if 0 < ns.length then c + ns.getD (k * k % ns.length) 0 % 2147483647 else c
    let c : Int := c * 48271 % 2147483647
    c * c % 2147483629
noncomputable def spAt (K : PySem.W.Frag) : Sp := fun vs H Q _ => ∃ (a : Addr) (ns : List Int) (k : Int), vs = [.ref a, .int k] ∧ SqL K H a (ns.map V.int) ∧ ns.length ≤ 63 ∧ 0 ≤ k ∧ k < 1000000 ∧ Q (.int (lawAt ns k.toNat)) H
theorem at_int {ns : List Int} {k : Nat} (h : k < ns.length) : atI (ns.map V.int) (k : Int) = some (.int (ns.getD k 0)) :=
  atI_nat (by simp [List.getD, h])
theorem ok_at (T : Txt K mg) : FnOk P w K mg base CX0 1 T.f__law_at T.d__law_at ["script", "k"] (spAt K) := by
  refine T.F__law_at.ok (k := 0) sc__law_at (fun vs H Q E h => ?_) (fun cdv A outer s H vs Q E hr h => ?_)
  · obtain ⟨a, ns, k, rfl, _⟩ := h
    rfl
  obtain ⟨a, ns, k, rfl, hS, h63, h0, hk, q⟩ := h
  obtain ⟨k, rfl⟩ : ∃ n : Nat, k = (n : Int) := ⟨k.toNat, by (first | (clear hk h63; lia) | omega)⟩
  rw [Int.toNat_natCast] at q
  have nd := sc__law_at.nd
  refine ⟨_, (pss_cons (ps_if (pt_cmpR op_lt (pv 1) (pe_callB call_len_seq rfl T.z_len bt_len (pa_cons (pv 0) pa_nil)) (nomark _)) (pss_one (ps_ret (pe_ix ix_list (pv 0) (pv 1) (fun _ _ => rfl)))) pss_nil)
    (pss_cons (ps_let (i := 2) nd rfl (Or.inl rfl) (pe_op op_add (pe_op op_mul pe_int (pv 1)) pe_int))
    (pss_cons (ps_if (pt_cmpR op_gt (pe_callB call_len_seq rfl T.z_len bt_len (pa_cons (pv 0) pa_nil)) pe_int (nomark _)) (pss_one (ps_let (i := 2) nd rfl (Or.inl rfl) (pe_op op_add (pv 2) (pe_op op_mod (pe_ix ix_list (pv 0) (pe_op op_mod (pe_op op_mul (pv 1) (pv 1)) (pe_callB call_len_seq rfl T.z_len bt_len (pa_cons (pv 0) pa_nil))) (fun _ _ => rfl)) pe_int)))) pss_nil)
    (pss_cons (ps_let (i := 2) nd rfl (Or.inl rfl) (pe_op op_mod (pe_op op_mul (pv 2) pe_int) pe_int))
    (pss_one (ps_ret (pe_op op_mod (pe_op op_mul (pv 2) (pv 2)) pe_int))))))), ?_⟩
  refine cutC1 fun C hC => ?_
  walk_at "rd"
  unfold lawAt at q
  refine ex_len hS ?_
  rw [List.length_map]
  refine ite2 (fun c => ?_) (fun c => ?_)
  · have c : k < ns.length := by simpa using c
    rw [if_pos c] at q
    exact ex_at hS (at_int c) q
  · have c : ¬ k < ns.length := by simpa using c
    rw [if_neg c] at q
    dsimp only at q
    rw [hC]
    clear hC C
    refine cutC2 fun C hC => ?_
    have tail : ∀ z : Int, Q (.int (z * 48271 % 2147483647 * (z * 48271 % 2147483647) % 2147483629)) H → C [some (.ref a), some (.int k), some (.int z)] H := by
      intro z hz
      rw [hC]
      clear hC C q
      walk_at "rd"
      exact ⟨by walk_at "cm", by decide, by walk_at "cm", by decide, hz⟩
    walk_at "rd"
    refine ⟨by walk_at "cm", ex_len hS ?_⟩
    rw [List.length_map]
    refine ite2 (fun d => ?_) (fun d => ?_)
    · have d : 0 < ns.length := by simpa using d
      rw [if_pos d] at q
      have m : k * k % ns.length < ns.length := Nat.mod_lt _ d
      have e : ((k : Int) * (k : Int) % ((ns.length : Nat) : Int)) = ((k * k % ns.length : Nat) : Int) := by push_cast; rfl
      refine ⟨by walk_at "cm", ex_len hS ?_⟩
      rw [List.length_map, e]
      exact ⟨by (first | (clear h63 h0 hk c m e hC; omega) | omega), ex_at hS (at_int m) ⟨_, rfl, by decide, tail _ q⟩⟩
    · have d : ¬ 0 < ns.length := by simpa using d
      rw [if_neg d] at q
      exact tail _ q
noncomputable def spNames : Sp := fun vs H Q _ => ∃ (c : Int) (many : Nat), vs = [.int c, .int many] ∧ many ≤ 32 ∧ RetL H ((List.range many).map fun k => D.str (nmS c many k)) Q
theorem ok_names (T : Txt K mg) : FnOk P w K mg base CX0 1 T.f__law_names T.d__law_names ["cell", "many"] spNames := by
  refine T.F__law_names.ok (k := 0) sc__law_names (fun vs H Q E h => ?_) (fun cdv A outer s H vs Q E hr h => ?_)
  · obtain ⟨c, many, rfl, _⟩ := h
    rfl
  obtain ⟨c, many, rfl, hm, q⟩ := h
  have nd := sc__law_names.nd
  refine ⟨_, (pss_cons (ps_let (i := 2) nd rfl (Or.inl rfl) pe_str)
    (pss_cons (ps_let (i := 3) nd rfl (Or.inl rfl) (pe_op op_add pe_int (pe_op op_mod (pe_op op_fdiv (pv 0) pe_int) (pe_ix ixF (pe_lst (pa_cons pe_int (pa_cons pe_int pa_nil))) (pe_callTy call_intB rfl T.z_int bt_int (pa_cons (pe_cmpR op_gt (pv 1) pe_int (nomark _)) pa_nil)) (fun _ _ => rfl)))))
    (pss_cons (ps_let (i := 4) nd rfl (Or.inl rfl) (pe_lst pa_nil))
    (pss_cons (ps_for PassesOwn.never rfl (pi_range1 rfl T.z_range (pa_cons (pv 1) pa_nil)) (pg_name (i := 5) nd rfl (Or.inl rfl)) (pss_cons (ps_let (i := 6) nd rfl (Or.inl rfl) (pe_op op_rep (pe_lst (pa_cons (pe_ix ix_str (pv 2) (pe_op op_mod (pv 0) pe_int) (fun _ _ => rfl)) pa_nil)) (pv 3)))
      (pss_cons (ps_asg (pe_ix ix_str (pv 2) (pe_op op_mod (pe_op op_add (pe_op op_add (pv 0) pe_int) (pe_op op_mod (pv 5) pe_int)) pe_int) (fun _ _ => rfl)) (pg_sub (pv 6) (pe_op op_mod (pe_op op_fdiv (pv 0) pe_int) (pv 3)) set_list))
      (pss_cons (ps_if (pt_cmpR op_gt (pv 5) pe_int (nomark _)) (pss_one (ps_expr (pe_bm PySem.F.plainAttrs_list PySem.F.slot_list_append PySem.F.type_list_append mt_append (pv 6) (pa_cons (pe_ix ix_str (pv 2) (pe_op op_mod (pv 0) pe_int) (fun _ _ => rfl)) pa_nil)))) pss_nil)
      (pss_cons (ps_if (PW.pt (pw_and (pt_cmpR op_eq (pe_op op_mod (pe_op op_fdiv (pv 0) pe_int) pe_int) pe_int (nomark _)) (pw_and1 (pt_cmpR op_le (pv 1) pe_int (nomark _))))) (pss_one (ps_let (i := 6) nd rfl (Or.inl rfl) (pe_op op_rep (pe_lst (pa_cons (pe_ix ix_str (pv 2) (pe_op op_mod (pv 0) pe_int) (fun _ _ => rfl)) pa_nil)) (pe_op op_add pe_int (pe_op op_mod (pe_op op_add (pv 0) (pv 5)) pe_int))))) pss_nil)
      (pss_one (ps_expr (pe_bm PySem.F.plainAttrs_list PySem.F.slot_list_append PySem.F.type_list_append mt_append (pv 4) (pa_cons (pe_bm PySem.F.plainAttrs_str PySem.F.slot_str_join PySem.F.type_str_join mt_join pe_str (pa_cons (pv 6) pa_nil)) pa_nil)))))))))
    (pss_one (ps_ret (pv 4))))))), ?_⟩
  walk_at "rd"
  refine ⟨⟨by decide, by decide⟩, by decide, NewO.mk fun p1 H1 S1 n1 e1 => ?_⟩
  walk_at "rd"
  have hz : atI [V.int 8, V.int 7] (if decide (24 < (many : Int)) = true then 1 else 0) = some (.int (if 24 < many then 7 else 8)) := by
    by_cases h : 24 < many
    · rw [if_pos (decide_eq_true (by (first | (clear hm n1 e1; omega) | omega))), if_pos h]; exact atI_1
    · rw [if_neg (by simp; (first | (clear hm n1 e1; omega) | omega)), if_neg h]; exact atI_0
  refine ⟨_, items_l e1, _, hz, _, rfl, by split <;> decide, Nat.zero_le _, NewO.mk fun p2 H2 S2 n2 e2 => ?_⟩
  have S := S1.trans S2
  have n0 : H p2 = none := S1.free n2
  have hsz : (1 + c / 26 % (if 24 < many then 7 else 8) : Int) = (M.nmSize c many : Nat) := by
    unfold M.nmSize
    have : (0 : Int) < (if 24 < many then 7 else 8) := by split <;> decide
    have := Int.emod_nonneg (c / 26) (show (if 24 < many then 7 else 8 : Int) ≠ 0 by omega)
    push_cast
    (first | (clear hm n1 e1 hz n2 e2 n0; lia) | omega)
  rw [hsz]
  have s1 := M.nmSize_lo c many
  have s2 := (M.nmSize_hi c many).1
  generalize hsize : M.nmSize c many = size at hsz s1 s2
  refine ⟨by (first | (clear hm n1 e1 hz n2 e2 n0 hsize hsz s1 s2; lia) | omega), by omega, ?_⟩
  rw [Int.toNat_natCast]
  refine forR (fun i σ H' => ∃ (o5 o6 : Option V), i ≤ many ∧ Same H H' ∧ H' p2 = some (.lst ((List.range i).map fun k => V.str (nmS c many k))) ∧
    σ = [some (.int c), some (.int many), some (.str LETT), some (.int size), some (.ref p2), o5, o6]) ⟨none, none, Nat.zero_le _, S, e2, rfl⟩ ?_ ?_
  · rintro i σ H3 hi ⟨o5, o6, _, S3, e3, rfl⟩
    simp only [a_gName]
    refine cutC2 fun C hC => ?_
    walk_at "rd"
    have hk : ((c + 1 + (0 + (i : Int)) % 24) % 26) = (c + 1 + ((i % 24 : Nat) : Int)) % 26 := by push_cast; (first | (clear hm n1 e1 hz n2 e2 n0 hsize hsz s1 s2 hi e3 hC; lia) | omega)
    refine ⟨by decide, lett_big, _, lett_c c, by decide, NewO.mk fun p4 H4 S4 n4 e4 => ⟨p4, rfl, _, e4, by (first | (clear hm n1 e1 hz n2 e2 n0 hsize hsz s1 s2 hi e3 hC hk n4 e4; lia) | omega), by (first | (clear hm n1 e1 hz n2 e2 n0 hsize hsz hk n4 e4 e3 hC hi s1; omega) | omega), small_le (by simp; (first | (clear hm n1 e1 hz n2 e2 n0 hsize hsz hk n4 e4 e3 hC hi s1; lia) | omega)), NewO.mk fun p5 H5 S5 n5 e5 => ?_⟩⟩
    rw [Int.toNat_natCast, rep_one] at e5
    rw [hk]
    have hpos := M.pos_lt c size s1
    have hp0 : 0 ≤ c / 208 % (size : Int) := Int.emod_nonneg _ (by (first | (clear s2 hi e3 hC hk n4 e4 n5 e5 hpos hm n1 e1 hz n2 e2 n0 hsize hsz; omega) | omega))
    refine ⟨by decide, by decide, lett_big, _, lett_c _, ⟨by decide, by decide⟩, by (first | (clear hi e3 hC hk n4 e4 n5 e5 hpos hp0 hm n1 e1 hz n2 e2 n0 hsize hsz s2; omega) | omega), p5, rfl, _, e5, _, ixN_int hp0 (by simp; (first | (clear hm n1 e1 hz n2 e2 n0 hsize hsz s1 s2 hi e3 hC hk n4 e4 hp0 n5 e5; lia) | omega)), PutO.mk fun H6 k6 e6 => ?_⟩
    have e25 : p2 ≠ p5 := ne_of_none (S4 _ _ e3) n5
    have S6 : Same H H6 := Same.put_new ((S3.trans S4).trans S5) ((S3.trans S4).free n5) k6
    have f6 : H6 p2 = some (.lst ((List.range i).map fun k => V.str (nmS c many k))) := by
      rw [k6 _ e25]; exact S5 _ _ (S4 _ _ e3)
    have e6' : H6 p5 = some (.lst (((List.replicate size (M.let26 c)).set (c / 208 % (size : Int)).toNat (M.let26 (c + 1 + ((i % 24 : Nat) : Int)))).map fun x => V.str ⟨#[x]⟩)) := by
      rw [e6, List.map_set, List.map_replicate]
    have n5' := (S3.trans S4).free n5
    clear e6 k6 e5 e4 n4 n5 S5 S4 S3 hpos hk
    generalize hW : (List.replicate size (M.let26 c)).set (c / 208 % (size : Int)).toNat (M.let26 (c + 1 + ((i % 24 : Nat) : Int))) = W at e6'
    have lW : W.length = size := by rw [← hW]; simp
    have nm0 : ¬ (c / 1664 % 3 = 0 ∧ many ≤ 8) → ¬ 23 < i → M.nm c many i = W := fun h1 h2 => by
      unfold M.nm; rw [if_neg h1, hsize, if_neg h2, hW]
    have nm1 : ¬ (c / 1664 % 3 = 0 ∧ many ≤ 8) → 23 < i → M.nm c many i = W ++ [M.let26 c] := fun h1 h2 => by
      unfold M.nm; rw [if_neg h1, hsize, if_pos h2, hW]
    have nm2 : (c / 1664 % 3 = 0 ∧ many ≤ 8) → M.nm c many i = List.replicate (1 + ((c + i) % 8).toNat) (M.let26 c) := fun h1 => by
      unfold M.nm; rw [if_pos h1]
    clear hW hp0
    rw [hC]
    clear hC C
    refine cutC1 fun C hC => ?_
    -- what stands behind the first if
    have tail : ∀ (l : List Nat) (H7 : Hp), Same H H7 → H7 p2 = some (.lst ((List.range i).map fun k => V.str (nmS c many k))) → H7 p5 = some (.lst (l.map fun x => V.str ⟨#[x]⟩)) → l.length ≤ size + 1 → (¬ (c / 1664 % 3 = 0 ∧ many ≤ 8) → M.nm c many i = l) →
        C [some (.int c), some (.int many), some (.str LETT), some (.int size), some (.ref p2), some (.int (0 + i)), some (.ref p5)] H7 := by
      intro l H7 S7 f7 e7 ll hnm
      rw [hC]
      clear hC C nm0 nm1 e6' f6 S6
      refine cutC1 fun C hC => ?_
      have fin : ∀ (l' : List Nat) (p' : Addr) (H8 : Hp), Same H H8 → H8 p2 = some (.lst ((List.range i).map fun k => V.str (nmS c many k))) → H8 p' = some (.lst (l'.map fun x => V.str ⟨#[x]⟩)) → l'.length ≤ 1000 → M.nm c many i = l' →
          C [some (.int c), some (.int many), some (.str LETT), some (.int size), some (.ref p2), some (.int (0 + i)), some (.ref p')] H8 := by
        intro l' p' H8 S8 f8 e8 ll' hl
        rw [hC]
        walk_at "rd"
        refine app_join f8 e8 (by simp; (first | (clear e25 n5' lW nm2 f7 e7 ll hnm hC f8 e8 ll' hl hsize hsz s1 s2 hi e3 n2 e2 n0 e1 hz n1; lia) | omega)) ll' fun H9 k9 e9 => ⟨hi, Same.put_new S8 n0 k9, ?_, _, rfl⟩
        rw [e9, List.range_succ, List.map_append, ← hl]; rfl
      walk_at "rd"
      refine ⟨⟨by decide, by decide⟩, by decide, ite2 (fun c2 => ite2 (fun c3 => ?_) (fun c3 => fin l p5 H7 S7 f7 e7 (by (first | (clear hm n1 e1 hz n2 e2 e3 e25 n5' lW nm2 f7 n0 hsize hsz hC c2 c3 hi e7 s1 hnm; lia) | omega)) (hnm fun z => c3 (decide_eq_true (by (first | (clear hm n1 e1 hz n2 e2 n0 hsize hsz s1 s2 hi e3 e25 n5' lW nm2 f7 e7 ll hnm hC c2 c3; lia) | omega)))))) (fun c2 => fin l p5 H7 S7 f7 e7 (by (first | (clear hm n1 e1 hz n2 e2 e3 e25 n5' lW nm2 f7 n0 hsize hsz hC c2 hi e7 s1 hnm; lia) | omega)) (hnm fun z => c2 (decide_eq_true z.1)))⟩
      have c2 := of_decide_eq_true c2
      have c3 : many ≤ 8 := by have := of_decide_eq_true c3; (first | (clear hm n1 e1 hz n2 e2 n0 hsize hsz s1 s2 hi e3 e25 n5' lW nm2 f7 e7 ll hnm hC c3 c2; lia) | omega)
      have hn : (1 + (c + (0 + (i : Int))) % 8).toNat = 1 + ((c + i) % 8).toNat := by (first | (clear hm n1 e1 hz n2 e2 n0 hsize hsz s1 s2 hi e3 e25 n5' lW nm2 f7 e7 ll hnm hC c2 c3; lia) | omega)
      refine ⟨by decide, lett_big, _, lett_c c, by decide, NewO.mk fun p7 H8 S8 n8 e8 => ⟨by decide, p7, rfl, _, e8, by (first | (clear hm n1 e1 hz n2 e2 n0 hsize hsz s1 s2 hi e3 e25 n5' lW nm2 f7 e7 ll hnm hC c2 c3 hn n8 e8; omega) | omega), by (first | (clear hm n1 e1 hz n2 e2 n0 hsize hsz s1 s2 hi e3 e25 n5' lW nm2 f7 e7 ll hnm hC c2 c3 hn n8 e8; omega) | omega), small_le (by simp; (first | (clear hm n1 e1 hz n2 e2 n0 hsize hsz s1 s2 hi e3 e25 n5' lW nm2 f7 e7 ll hnm hC c2 c3 hn n8 e8; omega) | omega)), NewO.mk fun p8 H9 S9 n9 e9 => ?_⟩⟩
      rw [hn, rep_one] at e9
      exact fin (List.replicate (1 + ((c + i) % 8).toNat) (M.let26 c)) p8 H9 ((S7.trans S8).trans S9) (S9 _ _ (S8 _ _ f7)) (by rw [e9, List.map_replicate]) (by simp; (first | (clear hm n1 e1 hz n2 e2 n0 hsize hsz s1 s2 hi e3 e25 n5' lW nm2 f7 e7 ll hnm hC c2 c3 hn n8 e8 n9 e9; omega) | omega)) (nm2 ⟨c2, c3⟩)
    walk_at "rd"
    refine ite2 (fun c1 => ?_) (fun c1 => ?_)
    · have c1 : 23 < i := by have := of_decide_eq_true c1; (first | (clear hm n1 e1 hz n2 e2 n0 hsize hsz s1 s2 hi e3 e25 f6 n5' e6' lW nm0 nm1 nm2 hC c1; omega) | omega)
      exact ⟨ty_lst e6', by decide, lett_big, _, lett_c c, _, e6', small_size (by simp; (first | (clear hm n1 e1 hz n2 e2 nm0 nm1 nm2 hC c1 n0 hsize hsz e3 e25 f6 hi n5' s1 e6'; lia) | omega)), PutO.mk fun H7 k7 e7 => tail (W ++ [M.let26 c]) H7 (Same.put_new S6 n5' k7) (by rw [k7 _ e25]; exact f6) (by rw [e7, List.map_append]; rfl) (by simp; (first | (clear hm n1 e1 hz n2 e2 n0 hsize hsz s1 s2 hi e3 e25 f6 hC c1 e7 n5' e6' nm1 nm2; lia) | omega)) (fun h => nm1 h c1)⟩
    · have c1 : ¬ 23 < i := fun z => c1 (decide_eq_true (by (first | (clear hm n1 e1 hz n2 e2 n0 hsize hsz s1 s2 hi e3 e25 f6 n5' e6' lW nm0 nm1 nm2 hC c1; omega) | omega)))
      exact tail W H6 S6 f6 e6' (by (first | (clear hm n1 e1 hz n2 e2 n0 hsize hsz s1 s2 hi e3 e25 f6 hC c1 n5' e6' nm1 nm2; lia) | omega)) (fun h => nm0 h c1)
  · rintro σ H3 ⟨o5, o6, _, S3, e3, rfl⟩
    walk_at "rd"
    refine q p2 _ _ S3 n0 e3 ?_
    have : ∀ (l : List Nat), Dts H3 (l.map fun k => D.str (nmS c many k)) (l.map fun k => V.str (nmS c many k)) := fun l => by
      induction l with
      | nil => exact .nil
      | cons k r ih => exact .cons (isD_str.mpr rfl) ih
    exact this _
noncomputable def lawMany (ns : List Int) : Nat := (if lawAt ns 0 % 3 = 2 then 13 + lawAt ns 0 / 3 % 20 else 1 + lawAt ns 0 / 3 % 12).toNat
noncomputable def spMany (K : PySem.W.Frag) : Sp := fun vs H Q _ => ∃ (a : Addr) (ns : List Int), vs = [.ref a] ∧ SqL K H a (ns.map V.int) ∧ ns.length ≤ 63 ∧ ∀ (m : Nat) H', 1 ≤ m → m ≤ 32 → Same H H' → m = lawMany ns → Q (.int m) H'
theorem ok_many (T : Txt K mg) : FnOk P w K mg base CX0 2 T.f__law_many T.d__law_many ["script"] (spMany K) := by
  refine T.F__law_many.ok (k := 1) sc__law_many (fun vs H Q E h => ?_) (fun cdv A outer s H vs Q E hr h => ?_)
  · obtain ⟨a, ns, rfl, _⟩ := h
    rfl
  obtain ⟨a, ns, rfl, hS, h63, q⟩ := h
  have nd := sc__law_many.nd
  have G__law_at := (ok_at (P := P) (w := w) (base := base) T).mono (k := 1) (by omega)
  refine ⟨_, (pss_cons (ps_let (i := 1) nd rfl (Or.inl rfl) (pe_call G__law_at hr rfl T.m__law_at T.F__law_at.kp T.b__law_at .nil pass0 (pa_cons (pv 0) (pa_cons pe_int pa_nil))))
    (pss_one (ps_ret (pe_ix ixF (pe_lst (pa_cons (pe_op op_add pe_int (pe_op op_mod (pe_op op_fdiv (pv 1) pe_int) pe_int)) (pa_cons (pe_op op_add pe_int (pe_op op_mod (pe_op op_fdiv (pv 1) pe_int) pe_int)) pa_nil))) (pe_callTy call_intB rfl T.z_int bt_int (pa_cons (pe_cmpR op_eq (pe_op op_mod (pv 1) pe_int) pe_int (nomark _)) pa_nil)) (fun _ _ => rfl))))), ?_⟩
  walk_at "rd"
  refine ⟨a, ns, 0, rfl, hS, h63, by decide, by decide, ?_⟩
  have hmn : lawMany ns = (if lawAt ns (0 : Int).toNat % 3 = 2 then 13 + lawAt ns (0 : Int).toNat / 3 % 20 else 1 + lawAt ns (0 : Int).toNat / 3 % 12).toNat := rfl
  generalize lawAt ns (0 : Int).toNat = c at hmn ⊢
  walk_at "rd"
  refine ⟨⟨by decide, by decide⟩, by decide, ⟨by decide, by decide⟩, by decide, by decide, NewO.mk fun p1 H1 S1 n1 e1 => ⟨by decide, p1, rfl, _, items_l e1, ?_⟩⟩
  have h1 : 0 ≤ c / 3 % 12 := by (first | (clear h63 hmn n1 e1; lia) | omega)
  have h2 : 0 ≤ c / 3 % 20 := by (first | (clear h63 hmn n1 e1 h1; lia) | omega)
  by_cases h : c % 3 = 2
  · have := q (13 + c / 3 % 20).toNat H1 (by (first | (clear h63 hmn n1 e1 h1 h2 h; lia) | omega)) (by (first | (clear h63 hmn n1 e1 h1 h2 h; lia) | omega)) S1 (by rw [hmn, if_pos h])
    rw [Int.toNat_of_nonneg (by (first | (clear h63 hmn n1 e1 h1 h2 h; lia) | omega))] at this
    exact ⟨_, by rw [if_pos (decide_eq_true h)]; exact atI_1, this⟩
  · have := q (1 + c / 3 % 12).toNat H1 (by (first | (clear h63 hmn n1 e1 h1 h2 h; lia) | omega)) (by (first | (clear h63 hmn n1 e1 h1 h2 h; lia) | omega)) S1 (by rw [hmn, if_neg h])
    rw [Int.toNat_of_nonneg (by (first | (clear h63 hmn n1 e1 h1 h2 h; lia) | omega))] at this
    exact ⟨_, by rw [if_neg (by simpa using h)]; exact atI_0, this⟩
noncomputable def lawSecond (ns : List Int) : Int := if lawAt ns 2 % 4 = 3 then lawAt ns 1 else lawAt ns 2
noncomputable def spSecond (K : PySem.W.Frag) : Sp := fun vs H Q _ => ∃ (a : Addr) (ns : List Int), vs = [.ref a] ∧ SqL K H a (ns.map V.int) ∧ ns.length ≤ 63 ∧ Q (.int (lawSecond ns)) H
theorem ok_second (T : Txt K mg) : FnOk P w K mg base CX0 2 T.f__law_second T.d__law_second ["script"] (spSecond K) := by
  refine T.F__law_second.ok (k := 1) sc__law_second (fun vs H Q E h => ?_) (fun cdv A outer s H vs Q E hr h => ?_)
  · obtain ⟨a, ns, rfl, _⟩ := h
    rfl
  obtain ⟨a, ns, rfl, hS, h63, q⟩ := h
  have nd := sc__law_second.nd
  have G__law_at := (ok_at (P := P) (w := w) (base := base) T).mono (k := 1) (by omega)
  refine ⟨_, (pss_cons (ps_if (pt_cmpR op_eq (pe_op op_mod (pe_call G__law_at hr rfl T.m__law_at T.F__law_at.kp T.b__law_at .nil pass0 (pa_cons (pv 0) (pa_cons pe_int pa_nil))) pe_int) pe_int (nomark _)) (pss_one (ps_ret (pe_call G__law_at hr rfl T.m__law_at T.F__law_at.kp T.b__law_at .nil pass0 (pa_cons (pv 0) (pa_cons pe_int pa_nil))))) pss_nil)
    (pss_one (ps_ret (pe_call G__law_at hr rfl T.m__law_at T.F__law_at.kp T.b__law_at .nil pass0 (pa_cons (pv 0) (pa_cons pe_int pa_nil)))))), ?_⟩
  walk_at "rd"
  refine ⟨a, ns, 2, rfl, hS, h63, by decide, by decide, _, rfl, by decide, ite2 (fun z => ?_) (fun z => ?_)⟩
  · have z : lawAt ns 2 % 4 = 3 := of_decide_eq_true z
    rw [lawSecond, if_pos z] at q
    exact ⟨a, ns, 1, rfl, hS, h63, by decide, by decide, q⟩
  · have z : ¬ lawAt ns 2 % 4 = 3 := fun y => z (decide_eq_true y)
    rw [lawSecond, if_neg z] at q
    exact ⟨a, ns, 2, rfl, hS, h63, by decide, by decide, q⟩
noncomputable def spTree (K : PySem.W.Frag) : Sp := fun vs H Q _ => ∃ (a : Addr) (ns : List Int) (at' many : Nat), vs = [.ref a, .int at', .int many] ∧ SqL K H a (ns.map V.int) ∧ ns.length ≤ 63 ∧ at' ≤ 1000 ∧ 1 ≤ many ∧ many ≤ 32 ∧
  ∀ t c c' v H', Same H H' → Dt H' (dT t) v → TreeOf many t c c' → (c = lawSecond ns ∧ c' = lawAt ns at') → Q v H'
theorem ok_tree (T : Txt K mg) : FnOk P w K mg base CX0 3 T.f__law_tree T.d__law_tree ["script", "at", "many"] (spTree K) := by
  refine T.F__law_tree.ok (k := 2) sc__law_tree (fun vs H Q E h => ?_) (fun cdv A outer s H vs Q E hr h => ?_)
  · obtain ⟨a, ns, at', many, rfl, _⟩ := h
    rfl
  obtain ⟨a, ns, at', many, rfl, hS, h63, hat, hm1, hm, q⟩ := h
  have nd := sc__law_tree.nd
  have G__law_at := (ok_at (P := P) (w := w) (base := base) T).mono (k := 2) (by omega)
  have G__law_names := (ok_names (P := P) (w := w) (base := base) T).mono (k := 2) (by omega)
  have G__law_second := (ok_second (P := P) (w := w) (base := base) T).mono (k := 2) (by omega)
  refine ⟨_, (pss_cons (ps_let (i := 3) nd rfl (Or.inl rfl) (pe_call G__law_names hr rfl T.m__law_names T.F__law_names.kp T.b__law_names .nil pass0 (pa_cons (pe_call G__law_at hr rfl T.m__law_at T.F__law_at.kp T.b__law_at .nil pass0 (pa_cons (pv 0) (pa_cons (pv 1) pa_nil))) (pa_cons pe_int pa_nil))))
    (pss_cons (ps_letC (i := 4) (N := ["x"]) (caps := []) rfl ⟨rfl, rfl, rfl, rfl, by decide +kernel, rfl, rfl, rfl, rfl⟩ (piL (pe_call G__law_names hr rfl T.m__law_names T.F__law_names.kp T.b__law_names .nil pass0 (pa_cons (pe_call G__law_second hr rfl T.m__law_second T.F__law_second.kp T.b__law_second .nil pass0 (pa_cons (pv 0) pa_nil)) (pa_cons (pv 2) pa_nil)))) (fun _ _ _ _ => pif_nil) (fun _ _ _ _ => (pe_tup (pa_cons pe_str (pa_cons (pv 0) pa_nil)))) nd rfl rfl rfl)
    (pss_cons (ps_let (i := 5) nd rfl (Or.inl rfl) (pe_op op_add (pv 1) pe_int))
    (pss_cons (ps_while PassesOwn.never (pt_cmpR op_gt (pe_callB lenG rfl T.z_len bt_len (pa_cons (pv 4) pa_nil)) pe_int (nomark _)) (pss_cons (ps_let (i := 6) nd rfl (Or.inl rfl) (pe_call G__law_at hr rfl T.m__law_at T.F__law_at.kp T.b__law_at .nil pass0 (pa_cons (pv 0) (pa_cons (pv 5) pa_nil))))
      (pss_cons (ps_let (i := 7) nd rfl (Or.inl rfl) (pe_op op_mod (pe_op op_fdiv (pv 6) pe_int) (pe_op op_sub (pe_callB lenG rfl T.z_len bt_len (pa_cons (pv 4) pa_nil)) pe_int)))
      (pss_cons (ps_if (PW.pt (pw_or (pt_cmpR op_gt (pe_op op_mod (pv 6) pe_int) pe_int (nomark _)) (pw_or1 (pt_cmpR op_gt (pv 2) pe_int (nomark _))))) (pss_one (ps_let (i := 7) nd rfl (Or.inl rfl) (pe_op op_mod (pe_op op_sub (pe_op op_sub (pv 5) (pv 1)) pe_int) (pe_op op_sub (pe_callB lenG rfl T.z_len bt_len (pa_cons (pv 4) pa_nil)) pe_int)))) pss_nil)
      (pss_cons (ps_let (i := 8) nd rfl (Or.inl rfl) (pe_lst (pa_cons (pe_ix ixF (pv 4) (pv 7) (fun _ _ => rfl)) (pa_cons (pe_ix ixF (pv 4) (pe_op op_add (pv 7) pe_int) (fun _ _ => rfl)) pa_nil))))
      (pss_cons (ps_let (i := 9) nd rfl (Or.inl rfl) (pe_op op_mod (pe_op op_fdiv (pv 6) pe_int) pe_int))
      (pss_cons (ps_let (i := 10) nd rfl (Or.inl rfl) (pe_tup (pa_cons pe_str (pa_cons (pe_ix ixF (pv 3) (pe_op op_mod (pe_op op_fdiv (pv 6) pe_int) pe_int) (fun _ _ => rfl)) (pa_cons (pe_ix ixF (pv 8) (pv 9) (fun _ _ => rfl)) (pa_cons (pe_ix ixF (pv 8) (pe_op op_sub pe_int (pv 9)) (fun _ _ => rfl)) pa_nil))))))
      (pss_cons (ps_let (i := 4) nd rfl (Or.inl rfl) (pe_op op_cat (pe_op op_cat (pe_slice slLG (pv 4) po_none (po_some (pv 7))) (pe_lst (pa_cons (pv 10) pa_nil))) (pe_slice slLG (pv 4) (po_some (pe_op op_add (pv 7) pe_int)) po_none)))
      (pss_one (ps_let (i := 5) nd rfl (Or.inl rfl) (pe_op op_add (pv 5) pe_int)))))))))))
    (pss_one (ps_ret (pe_ix ixF (pv 4) pe_int (fun _ _ => rfl)))))))), ?_⟩
  walk_at "rd"
  refine ⟨a, ns, at', rfl, hS, h63, by (first | (clear h63 hat hm1 hm; lia) | omega), by omega, ?_⟩
  have hc' : lawAt ns (at' : Int).toNat = lawAt ns at' := rfl
  generalize lawAt ns (at' : Int).toNat = c' at hc' ⊢
  refine ⟨c', 3, rfl, by decide, fun pd dv H1 S1 nd1 ed Dd => ?_⟩
  refine ⟨a, ns, rfl, S1.seq hS, h63, ?_⟩
  generalize hc : lawSecond ns = c
  refine ⟨c, many, rfl, hm, fun pn nv H2 S2 nn2 en Dn => ?_⟩
  have hnv : nv = (List.range many).map fun k => V.str (nmS c many k) := by
    have : ((List.range many).map fun k => D.str (nmS c many k)) = ((List.range many).map (nmS c many)).map D.str := by rw [List.map_map]; rfl
    rw [this] at Dn
    rw [Dts.of_str Dn, List.map_map]; rfl
  subst hnv
  refine WalkL.comp en (fun i ys H' => Dts H' ((List.range i).map fun k => dT (.leaf (nmS c many k))) ys ∧ i ≤ many) ⟨.nil, Nat.zero_le _⟩ (by simp; (first | (clear nd1 ed hc nn2 en h63 hat hm1 hc'; lia) | omega)) (fun i ys H' h => by have := h.1.length; simp at this; (first | (clear h63 hat hm1 hm hc' nd1 ed hc nn2 en h; lia) | omega)) (fun i x ys H' ex S' h => ?_) (fun p ys H3 H4 S3 S4 h np ep => ?_)
  · obtain ⟨hi, ex⟩ := List.getElem?_eq_some_iff.mp ex
    simp at hi ex
    subst ex
    walk_at "rd"
    refine ⟨by decide, NewO.mk fun p1 H5 S5 n5 e5 => ⟨S'.trans S5, ?_, hi⟩⟩
    rw [List.range_succ, List.map_append]
    exact (h.1.same S5).append (.one (leaf_mk e5))
  · simp at h
    have hdv : dv = ((List.range 3).map (nmS c' 3)).map V.str := by
      have : ((List.range 3).map fun k => D.str (nmS c' 3 k)) = ((List.range 3).map (nmS c' 3)).map D.str := by rw [List.map_map]; rfl
      rw [this] at Dd
      exact Dts.of_str Dd
    subst hdv
    have S14 := (S2.trans S3).trans S4
    have D4 := h.same S4
    have st := M.TI.start (names := (List.range many).map (nmS c many)) (deeds := (List.range 3).map (nmS c' 3))
    rw [show ((List.range many).map (nmS c many)).length = many by simp] at st
    obtain ⟨W, hW⟩ : ∃ W : Nat → St → Hp → Prop, ∀ m σ H', W m σ H' ↔ ∃ (j : Nat) (ts : List L2.Tree) (vs : List V) (pt : Addr) (o6 o7 o8 o9 o10 : Option V), m = ts.length ∧ M.TI ((List.range many).map (nmS c many)) ((List.range 3).map (nmS c' 3)) many j ts ∧ 1 ≤ ts.length ∧ Same H1 H' ∧ H' pt = some (.lst vs) ∧ Dts H' (ts.map dT) vs ∧
      σ = [some (V.ref a), some (V.int at'), some (V.int many), some (V.ref pd), some (V.ref pt), some (V.int (at' + 2 + j)), o6, o7, o8, o9, o10] := ⟨_, fun _ _ _ => Iff.rfl⟩
    refine ⟨W, ⟨_, (hW _ _ _).mpr ⟨0, ((List.range many).map (nmS c many)).map M.Tr.leaf, ys, p, none, none, none, none, none, rfl, st, by simp; omega, S14, ep, by rw [List.map_map, List.map_map]; exact D4, by simp⟩⟩, ?_⟩
    intro m σ H5 hw
    obtain ⟨j, ts, vs, pt, o6, o7, o8, o9, o10, rfl, I, h1, S5, et, Dv, rfl⟩ := (hW _ _ _).mp hw
    have lv : vs.length = ts.length := by have := Dv.length; simpa using this
    have hj := I.len
    simp only [a_tTest, a_tOp, a_rI0, a_tCB, a_tCons, a_tNil, a_tVar, a_tC, a_rLenF, List.getElem?_cons_zero, List.getElem?_cons_succ, Option.some.injEq, exists_eq_left', V.bl.injEq, V.int.injEq, V.ref.injEq, List.cons.injEq, and_true, exists_and_left, exists_eq_left]
    refine ⟨_, items_l et, ite2 (fun c1 => ?_) (fun c1 => ?_)⟩
    · have c1 : 1 < ts.length := by have := of_decide_eq_true c1; (first | (clear nd1 hc nn2 en np h63 hat hm1 ed h1 et hj c1 hm hc' ep; omega) | omega)
      refine ⟨fun σ' H' => ∃ m', m' < ts.length ∧ W m' σ' H', fun σ' H' z => z, ?_⟩
      refine cutC3 fun C hC => ?_
      walk_at "rd"
      refine ⟨a, ns, at' + 2 + j, by norm_cast, (S1.trans S5).seq hS, h63, by (first | (clear h63 hat hm1 hm hc' nd1 hc nn2 en np ep ed h1 et lv hj c1 hC; lia) | omega), by (first | (clear nd1 hc nn2 en np ep ed h1 et lv c1 hC h63 hm1 hc'; lia) | omega), ?_⟩
      generalize lawAt ns ((at' : Int) + 2 + j).toNat = cell
      walk_at "rd"
      have he := items_l et
      simp only [he, Option.some.injEq, exists_eq_left']
      have md : ∀ z : Int, ∃ p : Nat, z % (((vs.length : Nat) : Int) - 1) = p ∧ p + 1 < ts.length := fun z => by
        have h1 := Int.emod_nonneg z (show (((vs.length : Nat) : Int) - 1) ≠ 0 by (first | (clear nd1 hc nn2 en np h63 hat hm1 ed h1 et hC he hc' ep hj; lia) | omega))
        have h2 := Int.emod_lt_of_pos z (show 0 < (((vs.length : Nat) : Int) - 1) by (first | (clear h63 hat hm1 hm hc' nd1 hc nn2 en np ep ed et hC he h1 hj; omega) | omega))
        exact ⟨(z % (((vs.length : Nat) : Int) - 1)).toNat, by (first | (clear h63 hat hm1 hm hc' nd1 hc nn2 en np ep ed et lv hj c1 hC he h2; lia) | omega), by (first | (clear h63 hat hm1 hm hc' nd1 hc nn2 en np hC he h1 ed et hj; omega) | omega)⟩
      have mj : ∀ p : Nat, ((at' : Int) + 2 + j - at' - 2) % (((vs.length : Nat) : Int) - 1) = p → p = j % (ts.length - 1) := fun p hp => by
        have e1 : (((vs.length : Nat) : Int) - 1) = ((ts.length - 1 : Nat) : Int) := by (first | (clear h63 hat hm1 hm hc' nd1 hc nn2 en np hj c1 hC he hp ed; lia) | omega)
        have e2 : ((at' : Int) + 2 + j - at' - 2) = (j : Int) := by (first | (clear ed h1 et lv hj c1 hC he hp e1 hc nn2 en np ep hm hc' nd1 hm1 h63; lia) | omega)
        rw [e1, e2] at hp
        exact_mod_cast hp.symm
      have tail : ∀ p : Nat, p + 1 < ts.length → (24 < many → p = j % (ts.length - 1)) → C [some (V.ref a), some (V.int at'), some (V.int many), some (V.ref pd), some (V.ref pt), some (V.int (at' + 2 + j)), some (V.int cell), some (V.int p), o8, o9, o10] H5 := by
        intro p hp1 hp2
        rw [hC]
        clear hC C
        refine cutC3 fun C hC => ?_
        walk_at "rd"
        obtain ⟨ta, ha⟩ : ∃ t, ts[p]? = some t := ⟨_, List.getElem?_eq_getElem (by (first | (clear h63 hat hm1 hm hc' nd1 hc nn2 en np ep ed h1 et lv hj c1 hC hp2 he; lia) | omega))⟩
        obtain ⟨tb, hb⟩ : ∃ t, ts[p + 1]? = some t := ⟨_, List.getElem?_eq_getElem (by omega)⟩
        obtain ⟨va, hva, da⟩ := Dts.map_of Dv ha
        obtain ⟨vb, hvb, db⟩ := Dts.map_of Dv hb
        refine ⟨_, he, va, atI_nat hva, _, he, vb, atI_int (by (first | (clear h63 hat hm1 hm hc' nd1 hc nn2 en np ep ed h1 et lv hj c1 he hp1 hp2 hC ha hb hva hvb; lia) | omega)) (by rw [show ((p : Int) + 1).toNat = p + 1 by (first | (clear h63 hat hm1 hm hc' nd1 hc nn2 en np ep ed h1 et lv hj c1 he hp1 hp2 hC ha hb hva hvb; lia) | omega)]; exact hvb), by decide, NewO.mk fun p6 H6 S6 n6 e6 => ?_⟩
        have hd0 : 0 ≤ cell / 128 % 3 := by (first | (clear h63 hat hm1 hm hc' nd1 hc nn2 en np ep ed h1 et lv hj c1 he hp1 hp2 hC ha hb hva hvb n6 e6; lia) | omega)
        have hd1 : cell / 128 % 3 < 3 := by (first | (clear h63 hat hm1 hm hc' nd1 hc nn2 en np ep ed h1 et lv hj c1 he hp1 hp2 hC ha hb hva hvb n6 e6 hd0; lia) | omega)
        obtain ⟨x, y, vx, vy, hx9, hx11, dx, dy, hxy⟩ : ∃ x y vx vy, atI [va, vb] (cell / 64 % 2) = some vx ∧ atI [va, vb] (1 - cell / 64 % 2) = some vy ∧ Dt H5 (dT x) vx ∧ Dt H5 (dT y) vy ∧ ((x = ta ∧ y = tb) ∨ (x = tb ∧ y = ta)) := by
          rcases (show cell / 64 % 2 = 0 ∨ cell / 64 % 2 = 1 by (first | (clear h63 hat hm1 hm hc' nd1 hc nn2 en np ep ed h1 et lv hj c1 he hp1 hp2 hC ha hb hva hvb n6 e6 hd0 hd1; lia) | omega)) with z | z
          · exact ⟨ta, tb, va, vb, by rw [z]; exact atI_0, by rw [z]; exact atI_1, da, db, .inl ⟨rfl, rfl⟩⟩
          · exact ⟨tb, ta, vb, va, by rw [z]; exact atI_1, by rw [z]; exact atI_0, db, da, .inr ⟨rfl, rfl⟩⟩
        refine ⟨⟨by decide, by decide⟩, by decide, ⟨by decide, by decide⟩, by decide, _, items_l (S6 _ _ (S5 _ _ ed)), V.str (nmS c' 3 (cell / 128 % 3).toNat), atI_int hd0 (by rw [List.getElem?_map, List.getElem?_map, List.getElem?_range (by (first | (clear h63 hat hm1 hm hc' nd1 hc nn2 en np ep ed h1 et lv hj c1 he hp1 hp2 hC ha hb hva hvb n6 e6 hd0 hd1 hx9 hx11 hxy; lia) | omega))]; rfl), p6, rfl, _, items_l e6, vx, hx9, p6, rfl, _, items_l e6, vy, hx11, by decide, NewO.mk fun p7 H7 S7 n7 e7 => ?_⟩
        rw [hC]
        clear hC C
        walk_at "rd"
        refine ⟨_, S7 _ _ (S6 _ _ et), ?_⟩
        rw [cutV_to (by (first | (clear h63 hat hm1 hm hc' nd1 hc nn2 en hd1 hx9 hx11 hxy n7 e7 np ep ed h1 et hp2 ha hb hva hvb n6 e6 hd0 c1 he hj; lia) | omega))]
        refine NewO.mk fun p8 H8 S8 n8 e8 => ⟨by decide, NewO.mk fun p9 H9 S9 n9 e9 => ⟨p8, rfl, p9, rfl, _, S9 _ _ e8, _, e9, small_le (by simp; (first | (clear hp2 ha hb hva hvb n6 e6 hd0 hd1 hx9 hx11 hxy n7 e7 n8 e8 n9 e9 nd1 hc nn2 en np h63 hat hm1 ed h1 et hc' ep c1 he hp1; lia) | omega)), NewO.mk fun pA HA SA nA eA => ?_⟩⟩
        refine ⟨_, SA _ _ (S9 _ _ (S8 _ _ (S7 _ _ (S6 _ _ et)))), ?_⟩
        have ep2 : (p : Int) + 2 = ((p + 2 : Nat) : Int) := by (first | (clear h63 hat hm1 hm hc' nd1 hc nn2 en np ep ed h1 et lv hj c1 he hp1 hp2 ha hb hva hvb n6 e6 hd0 hd1 hx9 hx11 hxy n7 e7 n8 e8 n9 e9 nA eA; lia) | omega)
        rw [ep2, cutV_from (by (first | (clear ha hb hva hvb n6 e6 hd0 hd1 hx9 hx11 hxy n7 e7 n8 e8 n9 e9 nA eA ep2 h63 hat hm1 hm hc' nd1 hc nn2 en np ep ed h1 hp2 hj c1 et he; lia) | omega))]
        refine NewO.mk fun pB HB SB nB eB => ⟨pA, rfl, pB, rfl, _, SB _ _ eA, _, eB, small_le (by simp; (first | (clear hb hva hvb n6 e6 hd0 hd1 hx9 hx11 hxy n7 e7 n8 e8 n9 e9 nA eA ep2 nB eB hc nn2 en np ep ed h63 hat hm1 hp2 ha hc' nd1 et c1 he; lia) | omega)), NewO.mk fun pC HC SC nC eC => ?_⟩
        have S7C := ((((S8.trans S9).trans SA).trans SB).trans SC)
        have S5C := (S6.trans S7).trans S7C
        have kd : Dt HC (dT (.knot (nmS c' 3 (cell / 128 % 3).toNat) x y)) (.ref p7) := knot_mk (S7C _ _ e7) (dx.same S5C) (dy.same S5C)
        have step := I.step (f := nmS c' 3 (cell / 128 % 3).toNat) ha hb hp2 (List.mem_map.mpr ⟨_, List.mem_range.mpr (by (first | (clear h63 hat hm1 hm hc' nd1 hc nn2 en np ep ed h1 et lv hj c1 he hp1 hp2 ha hb hva hvb n6 e6 hd0 hd1 hx9 hx11 hxy n7 e7 n8 e8 n9 e9 nA eA ep2 nB eB nC eC; lia) | omega)), rfl⟩) hxy
        have DvC := Dv.same S5C
        refine ⟨ts.length - 1, by (first | (clear hva hvb n6 e6 hd0 hd1 hx9 hx11 hxy n7 e7 n8 e8 n9 e9 nA eA ep2 nB eB nC eC h63 hat hm1 hm hc' nd1 hc nn2 en np ep ed h1 et lv hj c1 ha hb hp2 he; omega) | omega), (hW _ _ _).mpr ⟨j + 1, _, _, pC, _, _, _, _, _, ?_, step, ?_, S5.trans S5C, eC, ?_, by push_cast; simp only [Int.add_assoc]; rfl⟩⟩
        · have := step.len; (first | (clear h63 hat hm1 hm hc' nd1 hc nn2 en np ep ed n6 e6 hd0 hd1 hx9 hx11 hxy n7 e7 n8 e8 n9 e9 nA eA ep2 nB eB h1 et lv hp1 hp2 ha hb hva hvb c1 he nC eC; lia) | omega)
        · have := step.len; (first | (clear h63 hat hm1 hm hc' nd1 hc nn2 en np ep ed n6 e6 hd0 hd1 hx9 hx11 hxy n7 e7 n8 e8 n9 e9 nA eA ep2 nB eB h1 et lv hp1 hp2 ha hb hva hvb nC eC; lia) | omega)
        · unfold M.merge
          rw [List.map_append, List.map_append, List.map_take, List.map_drop]
          exact ((DvC.take p).append (.one kd)).append (DvC.drop (p + 2))
      refine ⟨⟨by decide, by decide⟩, by (first | (clear h63 hat hm1 hm hc' nd1 hc nn2 en np ep ed h1 hC he et hj; omega) | omega), by decide, ite2 (fun c2 => ?b1) (fun c2 => ite2 (fun c3 => ?b2) (fun c3 => ?b3))⟩
      case' b1 =>
        obtain ⟨p, hpI, hp1⟩ := md ((at' : Int) + 2 + j - at' - 2)
        have hp2 : 24 < many → p = j % (ts.length - 1) := fun _ => mj p hpI
        refine ⟨by (first | (clear h63 hat hm1 hm hc' nd1 hc nn2 en np ep ed he c2 hpI hp1 hp2 h1 et hj hC; omega) | omega), ?_⟩
      case' b2 =>
        obtain ⟨p, hpI, hp1⟩ := md ((at' : Int) + 2 + j - at' - 2)
        have hp2 : 24 < many → p = j % (ts.length - 1) := fun _ => mj p hpI
        refine ⟨by (first | (clear h63 hat hm1 hm hc' nd1 hc nn2 en np ep ed he c2 c3 hpI hp1 hp2 h1 et hj hC; omega) | omega), ?_⟩
      case' b3 =>
        obtain ⟨p, hpI, hp1⟩ := md (cell / 4)
        have hp2 : 24 < many → p = j % (ts.length - 1) := fun z => absurd (decide_eq_true (by (first | (clear h63 hat hm1 hm hc' nd1 hc nn2 en np ep ed h1 et lv hj c1 hC he c2 c3 hpI hp1; omega) | omega))) c3
      all_goals
        rw [hpI]
        exact tail p hp1 hp2
    · have c1 : ts.length = 1 := by have : ¬ 1 < ts.length := fun z => c1 (decide_eq_true (by (first | (clear nd1 hc nn2 en np h63 hat hm1 ed h1 et hj c1 hm hc' ep; omega) | omega))); (first | (clear h63 hat hm1 hm hc' nd1 hc nn2 en et lv hj c1 ep ed; lia) | omega)
      obtain ⟨t, rfl⟩ := List.length_eq_one_iff.mp c1
      obtain ⟨h2, h3, h4⟩ := I.end hm
      walk_at "rd"
      obtain ⟨v, hv, hd⟩ := Dts.get (i := 0) Dv rfl
      refine ⟨_, items_l et, v, atI_int (by decide) hv, q t c c' v H5 (S1.trans S5) hd ⟨h2, h3, h4⟩ ⟨hc.symm, hc'⟩⟩
/-! ### the program's trees.py, where nothing is refused -/
noncomputable def spLeaf : Sp := fun vs H Q _ => ∃ (t : L2.Tree) (v : V), vs = [v] ∧ Dt H (dT t) v ∧ Q (.bl t.isL) H
theorem kind_leaf (t : L2.Tree) : decide ((if t.isL = true then Str.ofString "leaf" else Str.ofString "knot") = Str.ofString "leaf") = t.isL := by
  cases t
  · show decide (Str.ofString "leaf" = Str.ofString "leaf") = true
    decide +kernel
  · show decide (Str.ofString "knot" = Str.ofString "leaf") = false
    decide +kernel
theorem ok_leaf (T : Txt K mg) : FnOk P w K mg base CX0 1 T.f_is_leaf T.d_is_leaf ["tree"] spLeaf := by
  refine T.F_is_leaf.ok (k := 0) sc_is_leaf (fun vs H Q E h => ?_) (fun cdv A outer s H vs Q E hr h => ?_)
  · obtain ⟨t, v, rfl, _⟩ := h
    rfl
  obtain ⟨t, v, rfl, ht, q⟩ := h
  obtain ⟨a, r, rfl, ea⟩ := dT_any ht
  have nd := sc_is_leaf.nd
  refine ⟨_, (pss_one (ps_ret (pe_cmpR op_eq (pe_ix ixF (pv 0) pe_int (fun _ _ => rfl)) pe_str (nomark _)))), ?_⟩
  walk_at "rd"
  refine ⟨_, items_t ea, _, atI_0, rfl, ?_⟩
  have e : decide (V.str (if t.isL = true then Str.ofString "leaf" else Str.ofString "knot") = V.str (Str.ofString "leaf")) = t.isL := by
    simp only [V.str.injEq]; exact kind_leaf t
  rw [e]
  exact q
noncomputable def spPart : Sp := fun vs H Q _ => ∃ (t u : L2.Tree) (p : List Nat) (v z : V), vs = [v, z] ∧ Dt H (dT t) v ∧ Dt H (dP p) z ∧ t.sub p = some u ∧ ∀ v', Dt H (dT u) v' → Q v' H
theorem ok_part (T : Txt K mg) : FnOk P w K mg base CX0 1 T.f_part_at T.d_part_at ["tree", "place"] spPart := by
  refine T.F_part_at.ok (k := 0) sc_part_at (fun vs H Q E h => ?_) (fun cdv A outer s H vs Q E hr h => ?_)
  · obtain ⟨t, u, p, v, z, rfl, _⟩ := h
    rfl
  obtain ⟨t, u, p, v, z, rfl, ht, hp, hu, q⟩ := h
  obtain ⟨a, rfl, ea⟩ := dP_of hp
  have nd := sc_part_at.nd
  refine ⟨_, (pss_cons (ps_let (i := 2) nd rfl (Or.inl rfl) (pv 0))
    (pss_cons (ps_for PassesOwn.never rfl (piT (pv 1)) (pg_name (i := 3) nd rfl (Or.inl rfl)) (pss_one (ps_let (i := 2) nd rfl (Or.inl rfl) (pe_ix ixF (pv 2) (pe_op op_add pe_int (pv 3)) (fun _ _ => rfl)))))
    (pss_one (ps_ret (pv 2))))), ?_⟩
  walk_at "rd"
  obtain ⟨Pv, hPv⟩ : ∃ Pv : Nat → St → Hp → Prop, ∀ i σ H', Pv i σ H' ↔ H' = H ∧ ∃ (y : L2.Tree) (vy : V) (o3 : Option V), Dt H (dT y) vy ∧ y.sub (p.drop i) = some u ∧ σ = [some v, some (.ref a), some vy, o3] := ⟨_, fun _ _ _ => Iff.rfl⟩
  refine WalkT.for ea Pv ((hPv _ _ _).mpr ⟨rfl, t, v, none, ht, by simpa using hu, rfl⟩) (fun i σ H' _ h => ((hPv _ _ _).mp h).1 ▸ ea) ?_ ?_
  · intro i x σ H' ex h
    obtain ⟨rfl, y, vy, o3, hy, hs, rfl⟩ := (hPv _ _ _).mp h
    have hi : i < p.length := by have := (List.getElem?_eq_some_iff.mp ex).1; simpa [vP] using this
    have ex' : x = .int ((p[i] : Nat) : Int) := by
      have : (vP p)[i]? = some (.int ((p[i] : Nat) : Int)) := by unfold vP; rw [List.getElem?_map, List.getElem?_eq_getElem hi]; rfl
      rw [this] at ex; exact (Option.some.inj ex).symm
    subst ex'
    rw [List.drop_eq_getElem_cons hi] at hs
    walk_at "rd"
    cases y with
    | leaf x => simp [M.Tr.sub] at hs
    | knot f l r =>
      obtain ⟨b, vl, vr, rfl, eb, hl, hr'⟩ := dT_knot hy
      simp only [M.Tr.sub] at hs
      split at hs
      · rename_i e0
        refine ⟨b, rfl, _, items_t eb, vl, by rw [e0]; exact atI_2, (hPv _ _ _).mpr ⟨rfl, l, _, _, hl, hs, rfl⟩⟩
      · split at hs
        · rename_i _ e1
          refine ⟨b, rfl, _, items_t eb, vr, by rw [e1]; exact atI_3, (hPv _ _ _).mpr ⟨rfl, r, _, _, hr', hs, rfl⟩⟩
        · cases hs
  · intro σ H' h
    obtain ⟨rfl, y, vy, o3, hy, hs, rfl⟩ := (hPv _ _ _).mp h
    walk_at "rd"
    have : (vP p).length = p.length := by simp [vP]
    rw [this, List.drop_length, M.Tr.sub_nil] at hs
    cases hs
    exact q vy hy
noncomputable def spPlaces (n : Nat) : Sp := fun vs H Q _ => ∃ (t : L2.Tree) (v : V), vs = [v] ∧ Dt H (dT t) v ∧ t.dp ≤ n ∧ t.lv.length ≤ 5000 ∧ RetL H (t.pl.map dP) Q
theorem ok_places (T : Txt K mg) : ∀ n : Nat, FnOk P w K mg base CX0 (n + 2) T.f_places T.d_places ["tree"] (spPlaces n)
  | 0 => by
    refine T.F_places.ok (k := 1) sc_places (fun vs H Q E h => ?_) (fun cdv A outer s H vs Q E hr h => ?_)
    · obtain ⟨t, v, rfl, _⟩ := h
      rfl
    · obtain ⟨t, v, rfl, _, h, _⟩ := h
      have := t.dp_pos
      omega
  | n + 1 => by
    refine T.F_places.ok (k := n + 2) sc_places (fun vs H Q E h => ?_) (fun cdv A outer s H vs Q E hr h => ?_)
    · obtain ⟨t, v, rfl, _⟩ := h
      rfl
    obtain ⟨t, v, rfl, ht, hd, hl, q⟩ := h
    have nd := sc_places.nd
    have G_is_leaf := (ok_leaf (P := P) (w := w) (base := base) T).mono (k := n + 2) (by (first | lia | omega))
    have G_places := ok_places T n
    refine ⟨_, (pss_cons (ps_let (i := 1) nd rfl (Or.inl rfl) (pe_lst (pa_cons (pe_tup pa_nil) pa_nil)))
    (pss_cons (ps_if (pt_val (pe_call G_is_leaf hr rfl T.m_is_leaf T.F_is_leaf.kp T.b_is_leaf .nil pass0 (pa_cons (pv 0) pa_nil))) (pss_one (ps_ret (pv 1))) pss_nil)
    (pss_cons (ps_for PassesOwn.never rfl (piT (pe_tup (pa_cons pe_int (pa_cons pe_int pa_nil)))) (pg_name (i := 2) nd rfl (Or.inr rfl)) (pss_one (ps_expr (pe_bm PySem.F.plainAttrs_list PySem.F.slot_list_extend PySem.F.type_list_extend mt_extend (pv 1) (pa_cons (pe_comp (N := ["place", "step"]) (caps := [2]) rfl ⟨rfl, rfl, rfl, rfl, by decide +kernel, rfl, rfl, rfl, rfl⟩ (piL (pe_call G_places hr rfl T.m_places T.F_places.kp T.b_places .nil pass0 (pa_cons (pe_ix ixF (pv 0) (pe_op op_add pe_int (pv 2)) (fun _ _ => rfl)) pa_nil))) (fun _ _ _ _ => pif_nil) (fun _ _ _ _ => (pe_op op_catD (pe_tup (pa_cons (pv 1) pa_nil)) (pv 0)))) pa_nil)))))
    (pss_one (ps_ret (pv 1)))))), ?_⟩
    walk_at "rd"
    refine ⟨by decide, NewO.mk fun p1 H1 S1 n1 e1 => ⟨by decide, NewO.mk fun p2 H2 S2 n2 e2 => ?_⟩⟩
    have ht2 := ht.same (S1.trans S2)
    refine ⟨t, v, rfl, ht2, _, rfl, ?_⟩
    have n0 : H p2 = none := S1.free n2
    have S12 := S1.trans S2
    have d0 : Dt H2 (dP []) (.ref p1) := dP_mk (S2 _ _ e1)
    cases t with
    | leaf x => exact iteT (q p2 _ H2 S12 n0 e2 (.one d0))
    | knot f l r =>
      obtain ⟨a, vl, vr, rfl, ea, hl', hr'⟩ := dT_knot ht2
      simp only [M.Tr.dp] at hd
      simp only [M.Tr.lv, List.length_append] at hl
      refine iteF ⟨by decide, NewO.mk fun p3 H3 S3 n3 e3 => ?_⟩
      have n30 : H p3 = none := S12.free n3
      have h32 : p2 ≠ p3 := ne_of_none e2 n3
      have ha2 : a ≠ p2 := ne_of ea e2 (by intro z; cases z)
      -- one turn: the son's places, the step ahead of each
      have turn : ∀ (y : L2.Tree) (vy : V) (step : Nat) (H4 : Hp) (vs : List V) (R : V → Hp → Prop), y.dp ≤ n → y.lv.length ≤ 5000 → Same H H4 → H4 p2 = some (.lst vs) → Dt H4 (dT y) vy → vs.length ≤ 20000 →
          (∀ H5 ws, Same H H5 → H5 p2 = some (.lst (vs ++ ws)) → Dts H5 (y.pl.map fun q => dP (step :: q)) ws → (∀ b, b ≠ p2 → ∀ o, H4 b = some o → H5 b = some o) → R .non H5) →
          spPlaces n [vy] H4 (fun x H1 => WalkL K x H1 fun J H1 => wComp J [2] tYes (tOp rCatD (tTup (tCons (tVar 1) tNil)) (tVar 0)) [some (V.ref a), some (V.ref p2), some (V.int step)] H1 fun x H1 => ∃ x_1, x = V.ref x_1 ∧ ∃ x, H1 p2 = some (HO.lst x) ∧ ∃ x_2, H1 x_1 = some (HO.lst x_2) ∧ x.length + x_2.length ≤ sizeLine ∧ PutO H1 p2 (HO.lst (x ++ x_2)) (R V.non)) E0 := by
        intro y vy step H4 vs R hyd hyl S4 e4 hy hvs hR
        refine ⟨y, vy, rfl, hy, hyd, hyl, fun p5 ys H5 S5 n5 e5 D5 => ?_⟩
        have l5 : ys.length = y.pl.length := by have := D5.length; simpa using this
        have l6 := M.pl_len_le y
        refine WalkL.comp e5 (fun i zs H' => i ≤ ys.length ∧ Dts H' ((y.pl.take i).map fun q => dP (step :: q)) zs) ⟨Nat.zero_le _, .nil⟩ (by (first | (clear n1 e1 n2 e2 n0 hd ea hl n3 e3 n30 h32 ha2 hyd hvs n5 e4 e5; lia) | omega)) (fun i zs H' h => by have := h.2.length; simp at this; (first | (clear n1 e1 n2 e2 n0 hd ea hl n3 e3 n30 h32 ha2 hyd hyl e4 hvs n5 e5 l5 l6 h; lia) | omega)) (fun i x zs H' ex S' h => ?_) (fun p7 zs H6 H7 S6 S7 h n7 e7 => ?_)
        · have hi : i < y.pl.length := by have := (List.getElem?_eq_some_iff.mp ex).1; (first | (clear n1 e1 n2 e2 n0 hd ea hl n3 e3 n30 h32 ha2 hyd hyl e4 hvs n5 l6 ex e5 h; lia) | omega)
          obtain ⟨v', hv', dv'⟩ := Dts.map_of D5 (List.getElem?_eq_getElem hi)
          rw [ex] at hv'; cases hv'
          obtain ⟨b, rfl, eb⟩ := dP_of (dv'.same S')
          walk_at "rd"
          refine ⟨by decide, NewO.mk fun p8 H8 S8 n8 e8 => ?_⟩
          walk_at "rd"
          refine ⟨_, e8, _, S8 _ _ eb, ?_, fun p9 H9 S9 e9 => ⟨(S'.trans S8).trans S9, by (first | (clear n1 e1 n2 e2 n0 hd ea hl n3 e3 n30 h32 ha2 hyd h eb ex n8 e8 e9 hyl e4 hvs n5 l6 e5; lia) | omega), ?_⟩⟩
          · have := M.pl_dp (List.getElem_mem hi)
            refine small_le ?_
            simp [vP]
            have := y.dp_le
            (first | (clear n1 e1 n2 e2 n0 hd ea hl n3 e3 n30 h32 ha2 hyd e5 l5 l6 h eb ex n8 hvs n5 e4 e8; lia) | omega)
          · rw [List.take_add_one, List.getElem?_eq_getElem hi]
            simp only [Option.toList_some, List.map_append, List.map_cons, List.map_nil]
            exact ((h.2.same S8).same S9).append (.one (dP_mk (p := step :: y.pl[i]) e9))
        · refine ⟨p7, rfl, vs, S7 _ _ (S6 _ _ (S5 _ _ e4)), zs, e7, ?_, PutO.mk fun H8 k8 e8 => ?_⟩
          · have := h.2.length
            simp at this
            refine small_le (by (first | (clear n1 e1 n2 e2 n0 hd ea hl n3 e3 n30 h32 ha2 n5 e5 h n7 hyd e4 e7; lia) | omega))
          · have D7 := h.2.same S7
            rw [l5, List.take_length] at D7
            refine hR H8 zs (Same.put_new (((S4.trans S5).trans S6).trans S7) n0 k8) e8 (D7.of_put (S7 _ _ (S6 _ _ (S5 _ _ e4))) k8 ?_) fun b hb o e => ?_
            · have : ∀ l : List (List Nat), D.nls (l.map fun q => dP (step :: q)) = true := fun l => by
                induction l with
                | nil => rfl
                | cons q l ih => simp only [List.map_cons, D.nls, dP_nl, ih, Bool.and_self]
              exact this _
            · rw [k8 b hb]
              exact S7 _ _ (S6 _ _ (S5 _ _ e))
      obtain ⟨Pv, hPv⟩ : ∃ Pv : Nat → St → Hp → Prop, ∀ i σ H', Pv i σ H' ↔ ∃ (o2 : Option V) (vs : List V), Same H H' ∧ H' p3 = some (.tup [.int 0, .int 1]) ∧ H' a = some (.tup [.str "knot", .str f, vl, vr]) ∧ H' p2 = some (.lst vs) ∧
        Dts H' ((([] : List Nat) :: ((if 1 ≤ i then l.pl.map (0 :: ·) else []) ++ (if 2 ≤ i then r.pl.map (1 :: ·) else []))).map dP) vs ∧ Dt H' (dT l) vl ∧ Dt H' (dT r) vr ∧ σ = [some (.ref a), some (.ref p2), o2] := ⟨_, fun _ _ _ => Iff.rfl⟩
      refine WalkT.for e3 Pv ((hPv _ _ _).mpr ⟨none, _, S12.trans S3, e3, S3 _ _ ea, S3 _ _ e2, .one (d0.same S3), hl'.same S3, hr'.same S3, rfl⟩) (fun i σ H' _ h => by obtain ⟨_, _, _, h, _⟩ := (hPv _ _ _).mp h; exact h) ?_ ?_
      · intro i x σ H4 ex h
        obtain ⟨o2, vs, S4, f3, fa, f2, D4, hl4, hr4, rfl⟩ := (hPv _ _ _).mp h
        have lvs := D4.length
        have b1 := M.pl_len_le l
        have b2 := M.pl_len_le r
        have hi : i < 2 := by have := (List.getElem?_eq_some_iff.mp ex).1; simpa using this
        have keep : ∀ {H5 : Hp} {ws : List V}, (∀ b, b ≠ p2 → ∀ o, H4 b = some o → H5 b = some o) → Tups H4 H5 := fun {H5 ws} k5 b xs e => k5 b (ne_of e f2 (by intro z; cases z)) _ e
        rcases (show i = 0 ∨ i = 1 by (first | (clear n1 e1 n2 e2 n0 hd ea hl n3 e3 n30 f3 fa f2 lvs b1 b2 ha2 ex; lia) | omega)) with rfl | rfl
        · cases ex
          walk_at "rd"
          refine ⟨ty_lst f2, _, items_t fa, _, atI_2, ?_⟩
          refine turn l vl 0 H4 vs (fun _ => Pv 1 _) (by (first | (clear n30 h32 ha2 f3 fa f2 b1 b2 lvs hi n1 e1 n2 e2 n0 n3 e3 hl ea; lia) | omega)) (by (first | (clear n30 h32 ha2 f3 fa f2 b1 b2 lvs hi n1 e1 n2 e2 n0 n3 e3 hd ea; lia) | omega)) S4 f2 hl4 (by simp at lvs; (first | (clear n1 e1 n2 e2 n0 hd ea hl n3 e3 n30 h32 ha2 f3 fa f2 b1 b2 hi; lia) | omega)) fun H5 ws S5 e5 D5 k5 => (hPv _ _ _).mpr ?_
          have U := keep (ws := ws) k5
          refine ⟨_, _, S5, U _ _ f3, U _ _ fa, e5, ?_, hl4.tups U (dT_nl l), hr4.tups U (dT_nl r), rfl⟩
          have D4' := D4.tups U (by simp [D.nls, dP_nl])
          simpa [Function.comp_def] using D4'.append D5
        · cases ex
          walk_at "rd"
          refine ⟨ty_lst f2, _, items_t fa, _, atI_3, ?_⟩
          refine turn r vr 1 H4 vs (fun _ => Pv 2 _) (by (first | (clear n30 h32 ha2 f3 fa f2 b1 b2 lvs hi n1 e1 n2 e2 n0 n3 e3 hl ea; lia) | omega)) (by (first | (clear n30 h32 ha2 f3 fa f2 b1 b2 lvs hi n1 e1 n2 e2 n0 n3 e3 hd ea; lia) | omega)) S4 f2 hr4 (by simp at lvs; (first | (clear n1 e1 n2 e2 n0 n30 h32 ha2 f3 fa n3 e3 f2 hd ea b2 hi; lia) | omega)) fun H5 ws S5 e5 D5 k5 => (hPv _ _ _).mpr ?_
          have U := keep (ws := ws) k5
          refine ⟨_, _, S5, U _ _ f3, U _ _ fa, e5, ?_, hl4.tups U (dT_nl l), hr4.tups U (dT_nl r), rfl⟩
          have nls : ∀ q : List (List Nat), D.nls (q.map dP) = true := fun q => by
            induction q with
            | nil => rfl
            | cons a q ih => simp only [List.map_cons, D.nls, dP_nl, ih, Bool.and_self]
          have D4' := D4.tups U (nls _)
          simpa [Function.comp_def] using D4'.append D5
      · intro σ H4 h
        obtain ⟨o2, vs, S4, f3, fa, f2, D4, hl4, hr4, rfl⟩ := (hPv _ _ _).mp h
        walk_at "rd"
        exact q p2 _ H4 S4 n0 f2 (by simpa [M.Tr.pl] using D4)
noncomputable def leafAt (t : L2.Tree) (p : List Nat) : Bool := match t.sub p with | some s => s.isL | none => false
noncomputable def lvp (t : L2.Tree) : List (List Nat) := t.pl.filter (leafAt t)
theorem lvp_wk (t : L2.Tree) : lvp t = ((t.wk []).filter (fun q => q.2.isL)).map (·.1) := M.pl_filter t _ fun q s h => by unfold leafAt; rw [M.Tr.sub_mem h]
noncomputable def spLeaves (n : Nat) : Sp := fun vs H Q _ => ∃ (t : L2.Tree) (v : V), vs = [v] ∧ Dt H (dT t) v ∧ t.dp ≤ n ∧ t.lv.length ≤ 5000 ∧ RetL H ((lvp t).map dP) Q
theorem ok_leaves (T : Txt K mg) (n : Nat) : FnOk P w K mg base CX0 (n + 3) T.f_leaves T.d_leaves ["tree"] (spLeaves n) := by
  refine T.F_leaves.ok (k := n + 2) sc_leaves (fun vs H Q E h => ?_) (fun cdv A outer s H vs Q E hr h => ?_)
  · obtain ⟨t, v, rfl, _⟩ := h
    rfl
  obtain ⟨t, v, rfl, ht, hd, hl, q⟩ := h
  have nd := sc_leaves.nd
  have G_is_leaf := (ok_leaf (P := P) (w := w) (base := base) T).mono (k := n + 2) (by (first | lia | omega))
  have G_part_at := (ok_part (P := P) (w := w) (base := base) T).mono (k := n + 2) (by (first | lia | omega))
  have G_places := ok_places (P := P) (w := w) (base := base) T n
  refine ⟨_, (pss_one (ps_ret (pe_comp (N := ["place", "tree"]) (caps := [0]) rfl ⟨rfl, rfl, rfl, rfl, by decide +kernel, rfl, rfl, rfl, rfl⟩ (piL (pe_call G_places hr rfl T.m_places T.F_places.kp T.b_places .nil pass0 (pa_cons (pv 0) pa_nil))) (fun _ _ _ _ => pif_one (pt_val (pe_call G_is_leaf hr rfl T.m_is_leaf T.F_is_leaf.kp T.b_is_leaf .nil pass0 (pa_cons (pe_call G_part_at hr rfl T.m_part_at T.F_part_at.kp T.b_part_at .nil pass0 (pa_cons (pv 1) (pa_cons (pv 0) pa_nil))) pa_nil)))) (fun _ _ _ _ => (pv 0))))), ?_⟩
  walk_at "rd"
  refine ⟨t, v, rfl, ht, hd, hl, fun p5 ys H5 S5 n5 e5 D5 => ?_⟩
  have l5 : ys.length = t.pl.length := by have := D5.length; simpa using this
  have l6 := M.pl_len_le t
  refine WalkL.comp e5 (fun i zs H' => H' = H5 ∧ zs.length ≤ i ∧ Dts H' (((t.pl.take i).filter (leafAt t)).map dP) zs) ⟨rfl, Nat.zero_le _, .nil⟩ (by (first | (clear n5 e5 hd; lia) | omega)) (fun i zs H' h => h.2.1) (fun i x zs H' ex S' h => ?_) (fun p7 zs H6 H7 S6 S7 h n7 e7 => ?_)
  · obtain ⟨rfl, hz, D6⟩ := h
    have hi : i < t.pl.length := by have := (List.getElem?_eq_some_iff.mp ex).1; (first | (clear hd hl n5 ex e5 l6 hz; lia) | omega)
    obtain ⟨v', hv', dv'⟩ := Dts.map_of D5 (List.getElem?_eq_getElem hi)
    rw [ex] at hv'; cases hv'
    obtain ⟨u, hu, _⟩ := M.pl_sub (List.getElem_mem hi)
    have hg : leafAt t t.pl[i] = u.isL := by unfold leafAt; rw [hu]
    walk_at "rd"
    refine ⟨t, u, _, v, x, rfl, ht.same S5, dv', hu, fun w' hw' => ⟨u, w', rfl, hw', _, rfl, ite2 (fun c => ?_) (fun c => ?_)⟩⟩
    · refine ⟨S', rfl, by simp; omega, ?_⟩
      rw [List.take_add_one, List.getElem?_eq_getElem hi, List.filter_append]
      simp only [Option.toList_some, List.filter_cons, List.filter_nil, hg, c, if_true, List.map_append, List.map_cons, List.map_nil]
      exact D6.append (.one dv')
    · have c : u.isL = false := by simpa using c
      refine ⟨S', rfl, by (first | (clear hd hl n5 l5 l6 ex hu hg c e5; lia) | omega), ?_⟩
      rw [List.take_add_one, List.getElem?_eq_getElem hi, List.filter_append]
      simp only [Option.toList_some, List.filter_cons, List.filter_nil, hg, c, Bool.false_eq_true, if_false, List.append_nil]
      exact D6
  · obtain ⟨rfl, hz, D6⟩ := h
    rw [l5, List.take_length] at D6
    exact q p7 zs H7 (S5.trans S7) (S5.free n7) e7 (D6.same S7)
/-! ### the program's ranks -/
noncomputable def spRank (n : Nat) : Sp := fun vs H Q _ => ∃ (t : L2.Tree) (v : V), vs = [v] ∧ Dt H (dT t) v ∧ t.dp ≤ n ∧ Q (.int t.rk) H
theorem ok_rank (T : Txt K mg) : ∀ n : Nat, FnOk P w K mg base CX0 (n + 2) T.f_rank T.d_rank ["tree"] (spRank n)
  | 0 => by
    refine T.F_rank.ok (k := 1) sc_rank (fun vs H Q E h => ?_) (fun cdv A outer s H vs Q E hr h => ?_)
    · obtain ⟨t, v, rfl, _⟩ := h
      rfl
    · obtain ⟨t, v, rfl, _, h, _⟩ := h
      have := t.dp_pos
      omega
  | n + 1 => by
    refine T.F_rank.ok (k := n + 2) sc_rank (fun vs H Q E h => ?_) (fun cdv A outer s H vs Q E hr h => ?_)
    · obtain ⟨t, v, rfl, _⟩ := h
      rfl
    obtain ⟨t, v, rfl, ht, hd, q⟩ := h
    have nd := sc_rank.nd
    have G_is_leaf := (ok_leaf (P := P) (w := w) (base := base) T).mono (k := n + 2) (by (first | lia | omega))
    have G_rank := ok_rank T n
    refine ⟨_, (pss_cons (ps_if (pt_val (pe_call G_is_leaf hr rfl T.m_is_leaf T.F_is_leaf.kp T.b_is_leaf .nil pass0 (pa_cons (pv 0) pa_nil))) (pss_one (ps_ret pe_int)) pss_nil)
    (pss_cons (ps_let (i := 1) nd rfl (Or.inl rfl) (pe_call G_rank hr rfl T.m_rank T.F_rank.kp T.b_rank .nil pass0 (pa_cons (pe_ix ixF (pv 0) pe_int (fun _ _ => rfl)) pa_nil)))
    (pss_cons (ps_let (i := 2) nd rfl (Or.inl rfl) (pe_call G_rank hr rfl T.m_rank T.F_rank.kp T.b_rank .nil pass0 (pa_cons (pe_ix ixF (pv 0) pe_int (fun _ _ => rfl)) pa_nil)))
    (pss_cons (ps_if (pt_cmpR op_eq (pv 1) (pv 2) (nomark _)) (pss_one (ps_ret (pe_op op_add (pv 1) pe_int))) pss_nil)
    (pss_one (ps_ret (pe_callB (call_max2 rfl) rfl T.z_max bt_max (pa_cons (pv 1) (pa_cons (pv 2) pa_nil))))))))), ?_⟩
    walk_at "rd"
    refine ⟨t, v, rfl, ht, _, rfl, ?_⟩
    cases t with
    | leaf x => exact iteT q
    | knot f l r =>
      obtain ⟨a, vl, vr, rfl, ea, hl', hr'⟩ := dT_knot ht
      simp only [M.Tr.dp] at hd
      refine iteF ⟨a, rfl, _, items_t ea, _, atI_2, l, vl, rfl, hl', by (first | lia | omega), ?_⟩
      try (walk_at "rd")
      refine ⟨_, items_t ea, _, atI_3, r, vr, rfl, hr', by (first | lia | omega), ?_⟩
      try (walk_at "rd")
      have hk : (M.Tr.knot f l r).rk = if l.rk = r.rk then l.rk + 1 else max l.rk r.rk := rfl
      refine ite2 (fun c => ?_) (fun c => ⟨_, _, ⟨rfl, rfl⟩, ?_⟩)
      · have c : l.rk = r.rk := by have := of_decide_eq_true c; (first | (clear hd ea hk c; lia) | omega)
        rw [hk, if_pos c] at q
        exact q
      · have c : ¬ l.rk = r.rk := fun z => c (decide_eq_true (by (first | (clear hd ea hk c; lia) | omega)))
        rw [hk, if_neg c] at q
        have : ((max l.rk r.rk : Nat) : Int) = if (r.rk : Int) > l.rk then (r.rk : Int) else l.rk := by split <;> (first | (clear hd ea hk c; lia) | omega)
        rw [this] at q
        exact q
/-! ### the law's ranks -/
/-- the lesser rank of the sons, 0 in a leaf -/
noncomputable def mnR : L2.Tree → Nat
  | .leaf _ => 0
  | .knot _ l r => min l.rk r.rk
noncomputable def dR (q : List Nat × L2.Tree) : D := .tup [dP q.1, .int (q.2.rk : Int), .bl (isK q.2), .int (mnR q.2 : Int)]
theorem dR_of {H : Hp} {q : List Nat × L2.Tree} {v : V} (h : Dt H (dR q) v) : ∃ a v1, v = .ref a ∧ H a = some (.tup [v1, .int (q.2.rk : Int), .bl (isK q.2), .int (mnR q.2 : Int)]) ∧ Dt H (dP q.1) v1 := by
  obtain ⟨a, vs, rfl, e, h⟩ := isD_tup.mp h
  obtain ⟨v1, r, rfl, h1, h⟩ := isDs_cons.mp h
  obtain ⟨v2, r, rfl, h2, h⟩ := isDs_cons.mp h
  obtain ⟨v3, r, rfl, h3, h⟩ := isDs_cons.mp h
  obtain ⟨v4, r, rfl, h4, h⟩ := isDs_cons.mp h
  rw [isDs_nil.mp h, isD_int.mp h2, isD_bl.mp h3, isD_int.mp h4] at e
  exact ⟨a, v1, rfl, e, h1⟩
theorem wk_head (t : L2.Tree) (p : List Nat) : ∃ r, t.wk p = (p, t) :: r := by cases t <;> exact ⟨_, rfl⟩
noncomputable def spRanks (n : Nat) : Sp := fun vs H Q _ => ∃ (t : L2.Tree) (p : List Nat) (v u : V), vs = [v, u] ∧ Dt H (dT t) v ∧ Dt H (dP p) u ∧ t.dp ≤ n ∧ t.lv.length ≤ 5000 ∧ p.length + n ≤ 1000 ∧ RetL H ((t.wk p).map dR) Q
theorem ok_ranks (T : Txt K mg) : ∀ n : Nat, FnOk P w K mg base CX0 (n + 1) T.f__law_ranks T.d__law_ranks ["tree", "place"] (spRanks n)
  | 0 => by
    refine T.F__law_ranks.ok (k := 0) sc__law_ranks (fun vs H Q E h => ?_) (fun cdv A outer s H vs Q E hr h => ?_)
    · obtain ⟨t, p, v, u, rfl, _⟩ := h
      rfl
    · obtain ⟨t, p, v, u, rfl, _, _, h, _⟩ := h
      have := t.dp_pos
      omega
  | n + 1 => by
    refine T.F__law_ranks.ok (k := n + 1) sc__law_ranks (fun vs H Q E h => ?_) (fun cdv A outer s H vs Q E hr h => ?_)
    · obtain ⟨t, p, v, u, rfl, _⟩ := h
      rfl
    obtain ⟨t, p, v, u, rfl, ht, hp, hd, hl, hpl, q⟩ := h
    have nd := sc__law_ranks.nd
    have G__law_ranks := ok_ranks T n
    refine ⟨_, (pss_cons (ps_if (pt_cmpR op_eq (pe_ix ixF (pv 0) pe_int (fun _ _ => rfl)) pe_str (nomark _)) (pss_one (ps_ret (pe_lst (pa_cons (pe_tup (pa_cons (pv 1) (pa_cons pe_int (pa_cons pe_bl (pa_cons pe_int pa_nil))))) pa_nil)))) pss_nil)
    (pss_cons (ps_let (i := 2) nd rfl (Or.inl rfl) (pe_call G__law_ranks hr rfl T.m__law_ranks T.F__law_ranks.kp T.b__law_ranks .nil pass0 (pa_cons (pe_ix ixF (pv 0) pe_int (fun _ _ => rfl)) (pa_cons (pe_op op_catD (pv 1) (pe_tup (pa_cons pe_int pa_nil))) pa_nil))))
    (pss_cons (ps_let (i := 3) nd rfl (Or.inl rfl) (pe_call G__law_ranks hr rfl T.m__law_ranks T.F__law_ranks.kp T.b__law_ranks .nil pass0 (pa_cons (pe_ix ixF (pv 0) pe_int (fun _ _ => rfl)) (pa_cons (pe_op op_catD (pv 1) (pe_tup (pa_cons pe_int pa_nil))) pa_nil))))
    (pss_cons (ps_let (i := 4) nd rfl (Or.inl rfl) (pe_tup (pa_cons (pe_ix ixF (pe_ix ixF (pv 2) pe_int (fun _ _ => rfl)) pe_int (fun _ _ => rfl)) (pa_cons (pe_ix ixF (pe_ix ixF (pv 3) pe_int (fun _ _ => rfl)) pe_int (fun _ _ => rfl)) pa_nil))))
    (pss_one (ps_ret (pe_op op_cat (pe_op op_cat (pe_lst (pa_cons (pe_tup (pa_cons (pv 1) (pa_cons (pe_op op_add (pe_callB (call_maxS rfl) rfl T.z_max bt_max (pa_cons (pv 4) pa_nil)) (pe_callTy call_intB rfl T.z_int bt_int (pa_cons (pe_cmpR op_eq (pe_ix ixF (pv 4) pe_int (fun _ _ => rfl)) (pe_ix ixF (pv 4) pe_int (fun _ _ => rfl)) (nomark _)) pa_nil))) (pa_cons pe_bl (pa_cons (pe_callB (call_minS rfl) rfl T.z_min bt_min (pa_cons (pv 4) pa_nil)) pa_nil))))) pa_nil)) (pv 2)) (pv 3)))))))), ?_⟩
    cases t with
    | leaf x =>
      obtain ⟨a, rfl, ea⟩ := dT_leaf ht
      walk_at "rd"
      refine ⟨_, items_t ea, _, atI_0, rfl, ?_⟩
      rw [decide_eq_true rfl]
      refine iteT ⟨by decide, NewO.mk fun p1 H1 S1 n1 e1 => ⟨by decide, NewO.mk fun p2 H2 S2 n2 e2 => ?_⟩⟩
      refine q p2 _ H2 (S1.trans S2) (S1.free n2) e2 (.one (Dt.tup (S2 _ _ e1) (.cons (hp.same (S1.trans S2)) (.cons (isD_int.mpr rfl) (.cons (isD_bl.mpr rfl) (.cons (isD_int.mpr rfl) .nil))))))
    | knot f l r =>
      obtain ⟨a, vl, vr, rfl, ea, hl', hr'⟩ := dT_knot ht
      obtain ⟨b, rfl, eb⟩ := dP_of hp
      simp only [M.Tr.dp] at hd
      simp only [M.Tr.lv, List.length_append] at hl
      have b1 := l.wk_len (p ++ [0])
      have b2 := r.wk_len (p ++ [1])
      have vl_ : (vP p).length = p.length := by simp [vP]
      walk_at "rd"
      refine ⟨_, items_t ea, _, atI_0, rfl, ?_⟩
      rw [decide_eq_false (by simp only [V.str.injEq]; decide +kernel)]
      refine iteF ⟨_, items_t ea, _, atI_2, by decide, NewO.mk fun p3 H3 S3 n3 e3 => ?_⟩
      try (walk_at "rd")
      refine ⟨_, S3 _ _ eb, _, e3, small_le (by simp; (first | (clear eb hl b1 e3 ea b2 hd n3; lia) | omega)), fun p4 H4 S4 e4 => ?_⟩
      have S04 := S3.trans S4
      have d4 : Dt H4 (dP (p ++ [0])) (.ref p4) := dP_mk (by rw [e4]; simp [vP])
      refine ⟨l, p ++ [0], vl, _, rfl, hl'.same S04, d4, by (first | (clear b2 vl_ n3 e3 e4 eb hl b1 ea hpl; lia) | omega), by (first | (clear hpl hd ea e3 e4 b1 b2 vl_ n3 eb; lia) | omega), by simp; (first | (clear b2 vl_ n3 e3 e4 eb hl b1 ea hd; lia) | omega), fun p5 ys H5 S5 n5 e5 D5 => ?_⟩
      have S05 := S04.trans S5
      try (walk_at "rd")
      refine ⟨_, items_t (S05 _ _ ea), _, atI_3, by decide, NewO.mk fun p6 H6 S6 n6 e6 => ?_⟩
      try (walk_at "rd")
      refine ⟨_, S6 _ _ (S05 _ _ eb), _, e6, small_le (by simp; (first | (clear n3 e3 e4 n5 e5 n6 e6 ea eb hl b1 hd b2; lia) | omega)), fun p7 H7 S7 e7 => ?_⟩
      have S57 := S6.trans S7
      have d7 : Dt H7 (dP (p ++ [1])) (.ref p7) := dP_mk (by rw [e7]; simp [vP])
      refine ⟨r, p ++ [1], vr, _, rfl, hr'.same (S05.trans S57), d7, by (first | (clear n3 e3 e4 n5 e5 n6 e6 e7 hl b1 b2 vl_ ea eb hpl; lia) | omega), by (first | (clear n3 e3 e4 n5 e5 n6 e6 e7 hpl hd ea eb b1 b2 vl_; lia) | omega), by simp; (first | (clear n3 e3 e4 n5 e5 n6 e6 e7 hl b1 b2 vl_ ea eb hd; lia) | omega), fun p8 zs H8 S8 n8 e8 D8 => ?_⟩
      have S58 := S57.trans S8
      have S08 := S05.trans S58
      have l5 := D5.length
      have l8 := D8.length
      simp at l5 l8
      obtain ⟨rl, hwl⟩ := wk_head l (p ++ [0])
      obtain ⟨rr, hwr⟩ := wk_head r (p ++ [1])
      obtain ⟨y0, hy0, dy0⟩ := Dts.map_of (i := 0) (x := (p ++ [0], l)) (D5.same S58) (by rw [hwl]; rfl)
      obtain ⟨z0, hz0, dz0⟩ := Dts.map_of (i := 0) (x := (p ++ [1], r)) D8 (by rw [hwr]; rfl)
      obtain ⟨ay, wy, rfl, ey, _⟩ := dR_of dy0
      obtain ⟨az, wz, rfl, ez, _⟩ := dR_of dz0
      try (walk_at "rd")
      refine ⟨_, items_l (S58 _ _ e5), _, atI_int (by decide) hy0, ?_⟩
      refine ⟨_, rfl, _, items_t ey, _, atI_1, _, items_l e8, _, atI_int (by decide) hz0, _, rfl, _, items_t ez, _, atI_1, by decide, NewO.mk fun p9 H9 S9 n9 e9 => ?_⟩
      refine ⟨p9, rfl, [(l.rk : Int), (r.rk : Int)], by rw [items_t e9]; rfl, by simp, fun m hm hmx => ?_⟩
      try (walk_at "rd")
      have mx : m = max (l.rk : Int) (r.rk : Int) := by
        have h1 := hmx (l.rk : Int) (by simp)
        have h2 := hmx (r.rk : Int) (by simp)
        simp at hm
        (first | (clear hpl hd ea eb hl b1 b2 vl_ n3 e3 e4 n5 e5 n6 e6 e7 n8 e8 l5 l8 hwl hwr hy0 ey hz0 ez n9 e9; lia) | omega)
      subst mx
      refine ⟨_, items_t e9, _, atI_0, _, items_t e9, _, atI_1, rfl, [(l.rk : Int), (r.rk : Int)], by rw [items_t e9]; rfl, by simp, fun m2 hm2 hmn => ⟨by decide, NewO.mk fun pA HA SA nA eA => ⟨by decide, NewO.mk fun pB HB SB nB eB => ?_⟩⟩⟩
      have mn : m2 = ((min l.rk r.rk : Nat) : Int) := by
        have h1 := hmn (l.rk : Int) (by simp)
        have h2 := hmn (r.rk : Int) (by simp)
        simp at hm2
        (first | (clear hpl hd ea eb hl b1 b2 vl_ n3 e3 e4 n5 e5 n6 e6 e7 n8 e8 l5 l8 hwl hwr hy0 ey hz0 ez n9 e9 nA eA nB eB; lia) | omega)
      subst mn
      have mk : max (l.rk : Int) (r.rk : Int) + (if decide (V.int (l.rk : Int) = V.int (r.rk : Int)) = true then 1 else 0) = (((M.Tr.knot f l r).rk : Nat) : Int) := by
        simp only [M.Tr.rk, V.int.injEq, decide_eq_true_eq]
        split <;> split <;> (first | (clear hpl hd ea eb hl b1 b2 vl_ n3 e3 e4 n5 e5 n6 e6 e7 n8 e8 l5 l8 hwl hwr hy0 ey hz0 ez n9 e9 nA nB eB eA; omega) | omega)
      rw [mk] at eA
      have S8B := (S9.trans SA).trans SB
      have dN : Dt HB (dR (p, .knot f l r)) (.ref pA) := Dt.tup (SB _ _ eA) (.cons (hp.same (S08.trans S8B)) (.cons (isD_int.mpr rfl) (.cons (isD_bl.mpr rfl) (.cons (isD_int.mpr rfl) .nil))))
      refine ⟨pB, rfl, _, eB, _, (S58.trans S8B) _ _ e5, small_le (by simp; (first | (clear e3 e4 n5 e5 n6 e6 e7 n8 e8 e9 nA nB eB eA mk l8 hwl hwr hy0 ey hz0 ez n9 hpl hd ea b2 vl_ n3 eb; lia) | omega)), NewO.mk fun pC HC SC nC eC => ⟨pC, rfl, _, eC, _, (S8B.trans SC) _ _ e8, small_le (by simp; (first | (clear e3 e4 n5 e5 n6 e6 e7 n8 e8 e9 nA nB eB eA mk nC eC hz0 ez n9 hpl hd ea hwr hy0 ey vl_ n3 hwl eb; lia) | omega)), NewO.mk fun pD HD SD nD eD => ?_⟩⟩
      have SBD := SC.trans SD
      refine q pD _ HD ((S08.trans S8B).trans SBD) ((S08.trans (S8B.trans SC)).free nD) eD ?_
      simp only [M.Tr.wk, List.map_cons, List.map_append]
      exact Dts.append (.cons (dN.same SBD) (D5.same (S58.trans (S8B.trans SBD)))) (D8.same (S8B.trans SBD))
/-- the places of the knots that must put -/
noncomputable def mustQ (k : Int) (q : List Nat × L2.Tree) : Bool := isK q.2 && decide (k ≤ (mnR q.2 : Int))
noncomputable def mustP (t : L2.Tree) (k : Int) : List (List Nat) := ((t.wk []).filter (mustQ k)).map (·.1)
noncomputable def mustT (k : Int) (t : L2.Tree) : Bool := isK t && decide (k ≤ (mnR t : Int))
noncomputable def spPuts (n : Nat) : Sp := fun vs H Q _ => ∃ (t : L2.Tree) (k : Int) (v : V), vs = [v, .int k] ∧ Dt H (dT t) v ∧ t.dp ≤ n ∧ Q (.bl (mustT k t)) H
theorem ok_puts (T : Txt K mg) (n : Nat) : FnOk P w K mg base CX0 (n + 3) T.f_puts T.d_puts ["tree", "k"] (spPuts n) := by
  refine T.F_puts.ok (k := n + 2) sc_puts (fun vs H Q E h => ?_) (fun cdv A outer s H vs Q E hr h => ?_)
  · obtain ⟨t, k, v, rfl, _⟩ := h
    rfl
  obtain ⟨t, k, v, rfl, ht, hd, q⟩ := h
  have nd := sc_puts.nd
  have G_is_leaf := (ok_leaf (P := P) (w := w) (base := base) T).mono (k := n + 2) (by (first | lia | omega))
  have G_rank := ok_rank (P := P) (w := w) (base := base) T n
  refine ⟨_, (pss_one (ps_ret (pe_and (pe_not (pe_call G_is_leaf hr rfl T.m_is_leaf T.F_is_leaf.kp T.b_is_leaf .nil pass0 (pa_cons (pv 0) pa_nil))) (pe_and (pe_cmpR op_ge (pe_call G_rank hr rfl T.m_rank T.F_rank.kp T.b_rank .nil pass0 (pa_cons (pe_ix ixF (pv 0) pe_int (fun _ _ => rfl)) pa_nil)) (pv 1) (nomark _)) (pe_one (pe_cmpR op_ge (pe_call G_rank hr rfl T.m_rank T.F_rank.kp T.b_rank .nil pass0 (pa_cons (pe_ix ixF (pv 0) pe_int (fun _ _ => rfl)) pa_nil)) (pv 1) (nomark _))))))), ?_⟩
  walk_at "rd"
  refine ⟨t, v, rfl, ht, _, rfl, ?_⟩
  cases t with
  | leaf x => exact iteF q
  | knot f l r =>
    obtain ⟨a, vl, vr, rfl, ea, hl', hr'⟩ := dT_knot ht
    simp only [M.Tr.dp] at hd
    have e : mustT k (.knot f l r) = (decide (k ≤ (l.rk : Int)) && decide (k ≤ (r.rk : Int))) := by
      show (true && decide (k ≤ ((min l.rk r.rk : Nat) : Int))) = _
      rw [Bool.eq_iff_iff]; simp; (first | (clear hd ea; lia) | omega)
    rw [e] at q
    refine iteT ⟨a, rfl, _, items_t ea, _, atI_2, l, vl, rfl, hl', by (first | lia | omega), _, rfl, ite2 (fun c => ?_) (fun c => ?_)⟩
    · rw [c] at q
      exact ⟨a, rfl, _, items_t ea, _, atI_3, r, vr, rfl, hr', by (first | lia | omega), _, rfl, q⟩
    · rw [Bool.not_eq_true] at c
      rw [c] at q
      exact q
noncomputable def atQ (t : L2.Tree) (k : Int) (p : List Nat) : Bool := match t.sub p with | some u => mustT k u | none => false
theorem mustP_pl (t : L2.Tree) (k : Int) : t.pl.filter (atQ t k) = mustP t k := by
  unfold mustP
  rw [M.Tr.pl_wk, List.filter_map]
  congr 1
  apply List.filter_congr
  intro q hq
  show atQ t k q.1 = _
  unfold atQ; rw [M.Tr.sub_mem hq]; rfl
noncomputable def spMust (n : Nat) : Sp := fun vs H Q _ => ∃ (t : L2.Tree) (k : Int) (v : V), vs = [v, .int k] ∧ Dt H (dT t) v ∧ t.dp ≤ n ∧ t.lv.length ≤ 5000 ∧ RetL H ((mustP t k).map dP) Q
theorem ok_must (T : Txt K mg) (n : Nat) : FnOk P w K mg base CX0 (n + 5) T.f_must_put T.d_must_put ["tree", "k"] (spMust n) := by
  refine T.F_must_put.ok (k := n + 4) sc_must_put (fun vs H Q E h => ?_) (fun cdv A outer s H vs Q E hr h => ?_)
  · obtain ⟨t, k, v, rfl, _⟩ := h
    rfl
  obtain ⟨t, k, v, rfl, ht, hd, hl, q⟩ := h
  have nd := sc_must_put.nd
  have G_part_at := (ok_part (P := P) (w := w) (base := base) T).mono (k := n + 4) (by (first | lia | omega))
  have G_puts := (ok_puts (P := P) (w := w) (base := base) T n).mono (k := n + 4) (by (first | lia | omega))
  have G_places := (ok_places (P := P) (w := w) (base := base) T n).mono (k := n + 4) (by (first | lia | omega))
  refine ⟨_, (pss_one (ps_ret (pe_comp (N := ["place", "k", "tree"]) (caps := [1, 0]) rfl ⟨rfl, rfl, rfl, rfl, by decide +kernel, rfl, rfl, rfl, rfl⟩ (piL (pe_call G_places hr rfl T.m_places T.F_places.kp T.b_places .nil pass0 (pa_cons (pv 0) pa_nil))) (fun _ _ _ _ => pif_one (pt_val (pe_call G_puts hr rfl T.m_puts T.F_puts.kp T.b_puts .nil pass0 (pa_cons (pe_call G_part_at hr rfl T.m_part_at T.F_part_at.kp T.b_part_at .nil pass0 (pa_cons (pv 2) (pa_cons (pv 0) pa_nil))) (pa_cons (pv 1) pa_nil))))) (fun _ _ _ _ => (pv 0))))), ?_⟩
  walk_at "rd"
  refine ⟨t, v, rfl, ht, hd, hl, fun p5 ys H5 S5 n5 e5 D5 => ?_⟩
  have l5 : ys.length = t.pl.length := by have := D5.length; simpa using this
  have l6 := M.pl_len_le t
  refine WalkL.comp e5 (fun i zs H' => H' = H5 ∧ zs.length ≤ i ∧ Dts H' (((t.pl.take i).filter (atQ t k)).map dP) zs) ⟨rfl, Nat.zero_le _, .nil⟩ (by (first | (clear n5 e5 hd; lia) | omega)) (fun i zs H' h => h.2.1) (fun i x zs H' ex S' h => ?_) (fun p7 zs H6 H7 S6 S7 h n7 e7 => ?_)
  · obtain ⟨rfl, hz, D6⟩ := h
    have hi : i < t.pl.length := by have := (List.getElem?_eq_some_iff.mp ex).1; (first | (clear hd hl n5 ex e5 l6 hz; lia) | omega)
    obtain ⟨v', hv', dv'⟩ := Dts.map_of D5 (List.getElem?_eq_getElem hi)
    rw [ex] at hv'; cases hv'
    obtain ⟨u, hu, hud⟩ := M.pl_sub (List.getElem_mem hi)
    have hg : atQ t k t.pl[i] = mustT k u := by unfold atQ; rw [hu]
    walk_at "rd"
    have hud := M.Tr.wk_plen t _ _ _ hud
    simp at hud
    refine ⟨t, u, _, v, x, rfl, ht.same S5, dv', hu, fun w' hw' => ⟨u, k, w', rfl, hw', by (first | (clear l5 l6 ex e5 hz n5 hu hl hg; lia) | omega), _, rfl, ite2 (fun c => ?_) (fun c => ?_)⟩⟩
    · refine ⟨S', rfl, by simp; omega, ?_⟩
      rw [List.take_add_one, List.getElem?_eq_getElem hi, List.filter_append]
      simp only [Option.toList_some, List.filter_cons, List.filter_nil, hg, c, if_true, List.map_append, List.map_cons, List.map_nil]
      exact D6.append (.one dv')
    · have c : mustT k u = false := by simpa using c
      refine ⟨S', rfl, by (first | (clear hd hl n5 l5 l6 ex e5 hud c hu hg; lia) | omega), ?_⟩
      rw [List.take_add_one, List.getElem?_eq_getElem hi, List.filter_append]
      simp only [Option.toList_some, List.filter_cons, List.filter_nil, hg, c, Bool.false_eq_true, if_false, List.append_nil]
      exact D6
  · obtain ⟨rfl, hz, D6⟩ := h
    rw [l5, List.take_length, mustP_pl] at D6
    exact q p7 zs H7 (S5.trans S7) (S5.free n7) e7 (D6.same S7)
noncomputable def nK (t : L2.Tree) : Nat := ((t.wk []).filter fun q => isK q.2).length
theorem nK_lv (t : L2.Tree) : nK t + 1 = t.lv.length := by
  have h1 := t.wk_len []
  have h2 : ((t.wk []).filter fun q => q.2.isL).length = t.lv.length := by rw [← M.Tr.wk_lv t [], List.length_map]
  have h3 : ((t.wk []).filter fun q => q.2.isL).length + nK t = (t.wk []).length := by
    unfold nK isK
    generalize t.wk [] = l
    induction l with
    | nil => rfl
    | cons q l ih =>
      simp only [List.filter_cons, List.length_cons]
      cases q.2.isL <;> simp <;> (first | (clear h1 h2; lia) | omega)
  (first | lia | omega)
noncomputable def dFour (a b c d : Int) : D := .tup [.int a, .int b, .int c, .int d]
/-- too few boxes for it -/
noncomputable def few (t : L2.Tree) (k : Int) : Prop := k < 1 ∨ k = 1 ∧ 0 < nK t
noncomputable def spLeast (T : Txt K mg) : Sp := fun vs H Q E => ∃ (t : L2.Tree) (k : Int) (v : V), vs = [v, .int k] ∧ Dt H (dT t) v ∧ t.dp ≤ 24 ∧ t.lv.length ≤ 32 ∧ k.natAbs.log2 < 1900 ∧ (few t k → ∀ H', Same H H' → E (.ref T.C_TooFew) none H') ∧
  (¬ few t k → RetD H (dFour (nK t + 1 : Nat) (nK t) (mustP t k).length (mustP t k).length) Q)
theorem ok_least (T : Txt K mg) : FnOk P w K mg base (CXE P w) 33 T.f_least T.d_least ["tree", "k"] (spLeast T) := by
  refine T.F_least.okE (k := 32) sc_least (fun vs H Q E h => ?_) (fun cdv A outer s H vs Q E hr h L => ?_)
  · obtain ⟨t, k, v, rfl, _⟩ := h
    rfl
  obtain ⟨t, k, v, rfl, ht, hd, hl, hk, hf, q⟩ := h
  have nd := sc_least.nd
  have G_is_leaf := (ok_leaf (P := P) (w := w) (base := base) T).mono (k := 32) (by omega)
  have G_places := (ok_places (P := P) (w := w) (base := base) T 24).mono (k := 32) (by omega)
  have G_leaves := (ok_leaves (P := P) (w := w) (base := base) T 24).mono (k := 32) (by omega)
  have G_must_put := (ok_must (P := P) (w := w) (base := base) T 24).mono (k := 32) (by omega)
  refine ⟨_, (pss_cons (ps_if (PW.pt (pw_or (pt_cmpR op_lt (pv 1) pe_int (nomark _)) (pw_or1 (PW.pt (pw_and (pt_cmpR op_eq (pv 1) pe_int (nomark _)) (pw_and1 (pt_not (pt_val (pe_call G_is_leaf hr rfl T.m_is_leaf T.F_is_leaf.kp T.b_is_leaf .nil pass0 (pa_cons (pv 0) pa_nil)))))))))) (pss_one (ps_raise L rfl T.m_TooFew T.x_TooFew rfl (pa_cons (pe_js (.cons pe_str (.cons (pe_fmtI (pv 1)) .nil))) pa_nil))) pss_nil)
    (pss_cons (ps_let (i := 2) nd rfl (Or.inl rfl) (pe_callB lenG rfl T.z_len bt_len (pa_cons (pe_call G_leaves hr rfl T.m_leaves T.F_leaves.kp T.b_leaves .nil pass0 (pa_cons (pv 0) pa_nil)) pa_nil)))
    (pss_cons (ps_let (i := 3) nd rfl (Or.inl rfl) (pe_op op_sub (pe_callB lenG rfl T.z_len bt_len (pa_cons (pe_call G_places hr rfl T.m_places T.F_places.kp T.b_places .nil pass0 (pa_cons (pv 0) pa_nil)) pa_nil)) (pv 2)))
    (pss_cons (ps_let (i := 4) nd rfl (Or.inl rfl) (pe_callB lenG rfl T.z_len bt_len (pa_cons (pe_call G_must_put hr rfl T.m_must_put T.F_must_put.kp T.b_must_put .nil pass0 (pa_cons (pv 0) (pa_cons (pv 1) pa_nil))) pa_nil)))
    (pss_one (ps_ret (pe_tup (pa_cons (pv 2) (pa_cons (pv 3) (pa_cons (pv 4) (pa_cons (pv 4) pa_nil))))))))))), ?_⟩
  walk_at "rd"
  have zl : ∀ y : Nat, y ≤ 50000 → y ≤ sizeLine := fun y hy => small_le (by (first | (clear hd hl hk hf q; lia) | omega))
  have ln1 : (Str.ofString "so many boxes are too few: ").length = 27 := by decide +kernel
  have hkk : k.natAbs.log2 < 1920 := by (first | (clear hf q ln1 hd hl; lia) | omega)
  have tail : ¬ few t k → ∀ R : V → Hp → Prop, (∀ v' H', Q v' H' → R v' H') → spLeaves 24 [v] H (fun x H1 => ∃ p, x = V.ref p ∧ ∃ x, itemsOf (H1 p) = some x ∧ spPlaces 24 [v] H1 (fun x_1 H1 => ∃ p, x_1 = V.ref p ∧ ∃ x_2, itemsOf (H1 p) = some x_2 ∧
      spMust 24 [v, V.int k] H1 (fun x_3 H1 => ∃ p, x_3 = V.ref p ∧ ∃ x_4, itemsOf (H1 p) = some x_4 ∧ 4 ≤ sizeLine ∧ NewO H1 (HO.tup [V.int x.length, V.int (x_2.length - x.length), V.int x_4.length, V.int x_4.length]) R) E0) E0) E0 := by
    intro nf R hR
    refine ⟨t, v, rfl, ht, hd, by (first | lia | omega), fun p1 ys H1 S1 n1 e1 D1 => ⟨p1, rfl, ys, items_l e1, ?_⟩⟩
    refine ⟨t, v, rfl, ht.same S1, hd, by (first | lia | omega), fun p2 zs H2 S2 n2 e2 D2 => ⟨p2, rfl, zs, items_l e2, ?_⟩⟩
    refine ⟨t, k, v, rfl, ht.same (S1.trans S2), hd, by (first | lia | omega), fun p3 us H3 S3 n3 e3 D3 => ⟨p3, rfl, us, items_l e3, by decide, NewO.mk fun p4 H4 S4 n4 e4 => hR _ _ ?_⟩⟩
    have l1 := D1.length
    have l2 := D2.length
    have l3 := D3.length
    have h1 : ys.length = t.lv.length := by rw [l1, List.length_map, lvp_wk, List.length_map, ← M.Tr.wk_lv t [], List.length_map]
    have h2 : zs.length = (t.wk []).length := by rw [l2, List.length_map, M.Tr.pl_wk, List.length_map]
    have h3 := t.wk_len []
    have h4 := nK_lv t
    rw [List.length_map] at l3
    rw [h1, h2, l3] at e4
    refine q nf _ _ ((S1.trans S2).trans (S3.trans S4)) (Dt.tup e4 (.cons (isD_int.mpr ?_) (.cons (isD_int.mpr ?_) (.cons (isD_int.mpr rfl) (.cons (isD_int.mpr rfl) .nil)))))
    · rw [h4]
    · congr 1; (first | (clear hd hl hk hf q ln1 hkk nf n1 e1 n2 e2 n3 e3 n4 e4 l1 l2 l3 h1 h2; lia) | omega)
  refine ite2 (fun c => ?_) (fun c => ite2 (fun d => ?_) (fun d => ?_))
  · have c := of_decide_eq_true c
    refine ⟨zl _ ?_, hkk, fun z hz => ⟨zl _ ?_, zl _ ?_, by decide, hf (.inl c) H (Same.refl _)⟩⟩
    all_goals (simp only [slen, len_nil, ln1]; (first | (clear hd hl hk hf q ln1 hkk tail c; lia) | omega))
  · have c : ¬ k < 1 := fun z => c (decide_eq_true z)
    have d := of_decide_eq_true d
    refine ⟨t, v, rfl, ht, _, rfl, ite2 (fun b => ?_) (fun b => ?_)⟩
    · have b : 0 < nK t := by
        have b : isK t = true := b
        obtain ⟨r, hr⟩ := wk_head t []
        unfold nK
        rw [hr, List.filter_cons, if_pos b]
        simp
      refine ⟨zl _ ?_, hkk, fun z hz => ⟨zl _ ?_, zl _ ?_, by decide, hf (.inr ⟨d, b⟩) H (Same.refl _)⟩⟩
      all_goals (simp only [slen, len_nil, ln1]; (first | (clear hd hl hk hf q ln1 hkk tail c d b; lia) | omega))
    · have b : t.isL = true := by simpa using b
      refine tail ?_ _ (fun _ _ h => h)
      rintro (z | ⟨_, z⟩)
      · exact c z
      · cases t with
        | leaf x => exact absurd z (by simp [nK, M.Tr.wk, isK, M.Tr.isL])
        | knot f l r => cases b
  · have c : ¬ k < 1 := fun z => c (decide_eq_true z)
    have d : ¬ k = 1 := fun z => d (decide_eq_true z)
    exact tail (fun z => z.elim c fun z => d z.1) _ (fun _ _ h => h)
/-! ### the law's walk with names -/
noncomputable def dK (q : List Nat × L2.Tree) : D := .tup [dP q.1, .str q.2.name, .bl (isK q.2)]
theorem dK_of {H : Hp} {q : List Nat × L2.Tree} {v : V} (h : Dt H (dK q) v) : ∃ a v1, v = .ref a ∧ H a = some (.tup [v1, .str q.2.name, .bl (isK q.2)]) ∧ Dt H (dP q.1) v1 := by
  obtain ⟨a, vs, rfl, e, h⟩ := isD_tup.mp h
  obtain ⟨v1, r, rfl, h1, h⟩ := isDs_cons.mp h
  obtain ⟨v2, r, rfl, h2, h⟩ := isDs_cons.mp h
  obtain ⟨v3, r, rfl, h3, h⟩ := isDs_cons.mp h
  rw [isDs_nil.mp h, isD_str.mp h2, isD_bl.mp h3] at e
  exact ⟨a, v1, rfl, e, h1⟩
noncomputable def spKnots (n : Nat) : Sp := fun vs H Q _ => ∃ (t : L2.Tree) (p : List Nat) (v u : V), vs = [v, u] ∧ Dt H (dT t) v ∧ Dt H (dP p) u ∧ t.dp ≤ n ∧ t.lv.length ≤ 5000 ∧ p.length + n ≤ 1000 ∧ RetL H ((t.wk p).map dK) Q
theorem ok_knots (T : Txt K mg) : ∀ n : Nat, FnOk P w K mg base CX0 (n + 1) T.f__law_knots T.d__law_knots ["tree", "place"] (spKnots n)
  | 0 => by
    refine T.F__law_knots.ok (k := 0) sc__law_knots (fun vs H Q E h => ?_) (fun cdv A outer s H vs Q E hr h => ?_)
    · obtain ⟨t, p, v, u, rfl, _⟩ := h
      rfl
    · obtain ⟨t, p, v, u, rfl, _, _, h, _⟩ := h
      have := t.dp_pos
      omega
  | n + 1 => by
    refine T.F__law_knots.ok (k := n + 1) sc__law_knots (fun vs H Q E h => ?_) (fun cdv A outer s H vs Q E hr h => ?_)
    · obtain ⟨t, p, v, u, rfl, _⟩ := h
      rfl
    obtain ⟨t, p, v, u, rfl, ht, hp, hd, hl, hpl, q⟩ := h
    have nd := sc__law_knots.nd
    have G__law_knots := ok_knots T n
    refine ⟨_, (pss_cons (ps_if (pt_cmpR op_eq (pe_ix ixF (pv 0) pe_int (fun _ _ => rfl)) pe_str (nomark _)) (pss_one (ps_ret (pe_lst (pa_cons (pe_tup (pa_cons (pv 1) (pa_cons (pe_ix ixF (pv 0) pe_int (fun _ _ => rfl)) (pa_cons pe_bl pa_nil)))) pa_nil)))) pss_nil)
    (pss_one (ps_ret (pe_op op_cat (pe_op op_cat (pe_lst (pa_cons (pe_tup (pa_cons (pv 1) (pa_cons (pe_ix ixF (pv 0) pe_int (fun _ _ => rfl)) (pa_cons pe_bl pa_nil)))) pa_nil)) (pe_call G__law_knots hr rfl T.m__law_knots T.F__law_knots.kp T.b__law_knots .nil pass0 (pa_cons (pe_ix ixF (pv 0) pe_int (fun _ _ => rfl)) (pa_cons (pe_op op_catD (pv 1) (pe_tup (pa_cons pe_int pa_nil))) pa_nil)))) (pe_call G__law_knots hr rfl T.m__law_knots T.F__law_knots.kp T.b__law_knots .nil pass0 (pa_cons (pe_ix ixF (pv 0) pe_int (fun _ _ => rfl)) (pa_cons (pe_op op_catD (pv 1) (pe_tup (pa_cons pe_int pa_nil))) pa_nil))))))), ?_⟩
    cases t with
    | leaf x =>
      obtain ⟨a, rfl, ea⟩ := dT_leaf ht
      walk_at "rd"
      refine ⟨_, items_t ea, _, atI_0, rfl, ?_⟩
      rw [decide_eq_true rfl]
      refine iteT ⟨_, items_t ea, _, atI_1, by decide, NewO.mk fun p1 H1 S1 n1 e1 => ⟨by decide, NewO.mk fun p2 H2 S2 n2 e2 => ?_⟩⟩
      exact q p2 _ H2 (S1.trans S2) (S1.free n2) e2 (.one (Dt.tup (S2 _ _ e1) (.cons (hp.same (S1.trans S2)) (.cons (isD_str.mpr rfl) (.cons (isD_bl.mpr rfl) .nil)))))
    | knot f l r =>
      obtain ⟨a, vl, vr, rfl, ea, hl', hr'⟩ := dT_knot ht
      obtain ⟨b, rfl, eb⟩ := dP_of hp
      simp only [M.Tr.dp] at hd
      simp only [M.Tr.lv, List.length_append] at hl
      have b1 := l.wk_len (p ++ [0])
      have b2 := r.wk_len (p ++ [1])
      have vl_ : (vP p).length = p.length := by simp [vP]
      walk_at "rd"
      refine ⟨_, items_t ea, _, atI_0, rfl, ?_⟩
      rw [decide_eq_false (by simp only [V.str.injEq]; decide +kernel)]
      refine iteF ⟨_, items_t ea, _, atI_1, by decide, NewO.mk fun p1 H1 S1 n1 e1 => ⟨by decide, NewO.mk fun p2 H2 S2 n2 e2 => ?_⟩⟩
      have S12 := S1.trans S2
      have d1 : Dt H2 (dK (p, .knot f l r)) (.ref p1) := Dt.tup (S2 _ _ e1) (.cons (hp.same S12) (.cons (isD_str.mpr rfl) (.cons (isD_bl.mpr rfl) .nil)))
      try (walk_at "rd")
      refine ⟨_, items_t (S12 _ _ ea), _, atI_2, by decide, NewO.mk fun p3 H3 S3 n3 e3 => ?_⟩
      try (walk_at "rd")
      refine ⟨_, S3 _ _ (S12 _ _ eb), _, e3, small_le (by simp; (first | (clear n1 e1 n2 e2 n3 e3 ea eb hl b1 hd b2; lia) | omega)), fun p4 H4 S4 e4 => ?_⟩
      have S24 := S3.trans S4
      have d4 : Dt H4 (dP (p ++ [0])) (.ref p4) := dP_mk (by rw [e4]; simp [vP])
      refine ⟨l, p ++ [0], vl, _, rfl, hl'.same (S12.trans S24), d4, by (first | (clear n1 e1 n2 e2 n3 e3 e4 hl b1 b2 vl_ ea eb hpl; lia) | omega), by (first | (clear n1 e1 n2 e2 n3 e3 e4 hpl hd ea eb b1 b2 vl_; lia) | omega), by simp; (first | (clear n1 e1 n2 e2 n3 e3 e4 hl b1 b2 vl_ ea eb hd; lia) | omega), fun p5 ys H5 S5 n5 e5 D5 => ?_⟩
      have l5 := D5.length
      simp at l5
      have S25 := S24.trans S5
      try (walk_at "rd")
      refine ⟨_, S25 _ _ e2, _, e5, small_le (by simp; (first | (clear n2 e2 n3 e3 e4 hpl hd ea b2 vl_ n1 e1 n5 e5 eb; lia) | omega)), NewO.mk fun p6 H6 S6 n6 e6 => ?_⟩
      have S26 := S25.trans S6
      try (walk_at "rd")
      refine ⟨_, items_t ((S12.trans S26) _ _ ea), _, atI_3, by decide, NewO.mk fun p7 H7 S7 n7 e7 => ?_⟩
      try (walk_at "rd")
      refine ⟨_, S7 _ _ ((S12.trans S26) _ _ eb), _, e7, small_le (by simp; (first | (clear e2 n3 e3 e4 n5 e5 l5 n6 e6 n7 e7 eb hl b1 e1 n2 ea b2 hd n1; lia) | omega)), fun p8 H8 S8 e8 => ?_⟩
      have S28 := (S26.trans S7).trans S8
      have d8 : Dt H8 (dP (p ++ [1])) (.ref p8) := dP_mk (by rw [e8]; simp [vP])
      refine ⟨r, p ++ [1], vr, _, rfl, hr'.same (S12.trans S28), d8, by (first | (clear n3 e3 e4 n5 e5 l5 n6 e6 n7 e7 e8 b2 vl_ n1 e1 n2 e2 eb hl b1 ea hpl; lia) | omega), by (first | (clear n3 e3 e4 n5 e5 l5 n6 e6 n7 e7 e8 hpl hd ea e1 n2 e2 b1 b2 vl_ n1 eb; lia) | omega), by simp; (first | (clear b2 vl_ n1 e1 n2 e2 n3 e3 e4 n5 e5 l5 n6 e6 n7 e7 e8 eb hl b1 ea hd; lia) | omega), fun p9 zs H9 S9 n9 e9 D9 => ?_⟩
      have l9 := D9.length
      simp at l9
      have S29 := S28.trans S9
      try (walk_at "rd")
      refine ⟨_, S9 _ _ (S8 _ _ (S7 _ _ e6)), _, e9, small_le (by simp; (first | (clear vl_ n1 e1 n2 e2 n3 e3 hpl hd ea eb e6 n7 e7 e8 n5 e5 n9 e9 e4 n6; lia) | omega)), NewO.mk fun pA HA SA nA eA => ?_⟩
      try (walk_at "rd")
      refine q pA _ HA (S12.trans (S29.trans SA)) ((S12.trans S29).free nA) eA ?_
      have S6A := ((S7.trans S8).trans S9).trans SA
      have D5' := (D5.same S6).same S6A
      simp only [M.Tr.wk, List.map_cons, List.map_append]
      exact Dts.append (.cons (d1.same (S29.trans SA)) D5') (D9.same SA)
/-! ### deeds -/
open M (inN)
/-! ### the program's machine.py -/
theorem wF {x y : Str} {a b : Prop} (h : (x == y) = false) (q : b) : if decide (V.str x = V.str y) = true then a else b := by rw [w_no h]; exact iteF q
theorem wT {x : Str} {a b : Prop} (q : a) : if decide (V.str x = V.str x) = true then a else b := by rw [w_yes]; exact iteT q
theorem getD_map {α β : Type} (g : α → β) (l : List α) (i : Nat) (z : α) : (l.map g).getD i (g z) = g (l.getD i z) := by
  rw [List.getD_eq_getElem?_getD, List.getD_eq_getElem?_getD, List.getElem?_map]
  cases l[i]? <;> rfl
/-! ### the law's marks -/
theorem lastOf_succ (x : Str) {l : List (List Nat × L2.Tree)} {n : Nat} {q : List Nat × L2.Tree} (e : l[n]? = some q) : M.lastOf x (l.take (n + 1)) = if q.2.isL = true ∧ q.2.name = x then some q.1 else M.lastOf x (l.take n) := by
  unfold M.lastOf
  rw [List.take_add_one, e, List.foldl_append]; rfl
theorem lawOver_succ (f : Str) (a b : Option (List Nat)) {l : List (List Nat × L2.Tree)} {n : Nat} {q : List Nat × L2.Tree} (e : l[n]? = some q) : M.lawOver f a b (l.take (n + 1)) = if q.2.isL = false ∧ q.2.name = f ∧ a = some (q.1 ++ [0]) ∧ b = some (q.1 ++ [1]) then some q.1 else M.lawOver f a b (l.take n) := by
  unfold M.lawOver
  rw [List.take_add_one, e, List.foldl_append]; rfl
noncomputable def spLMark : Sp := fun vs H Q _ => ∃ (t : L2.Tree) (d : L2.Deed) (st : List (Option (List Nat)) × List (Option (List Nat))) (pp : Addr) (ps : List V) (vd : V) (b s : Addr) (ws us : List V), vs = [.ref pp, vd, .ref b, .ref s] ∧ t.lv.Nodup ∧ t.dp ≤ 24 ∧ t.lv.length ≤ 32 ∧
  H pp = some (.lst ps) ∧ Dts H ((t.wk []).map dK) ps ∧ Dt H (dDeed d) vd ∧ H b = some (.lst ws) ∧ H s = some (.lst us) ∧ Dts H (st.1.map dO) ws ∧ Dts H (st.2.map dO) us ∧ d.ok st.1.length st.2.length ∧ RetS H ((M.mark t st d).1.map dO, (M.mark t st d).2.map dO) Q
theorem ok_lmark (T : Txt K mg) : FnOk P w K mg base CX0 1 T.f__law_marked T.d__law_marked ["parts", "deed", "boxes", "shelf"] spLMark := by
  refine T.F__law_marked.ok (k := 0) sc__law_marked (fun vs H Q E h => ?_) (fun cdv A outer s H vs Q E hr h => ?_)
  · obtain ⟨t, d, st, pp, ps, vd, b, s, ws, us, rfl, _⟩ := h
    rfl
  obtain ⟨t, d, st, pp, ps, vd, b, s', ws, us, rfl, nodup, hdp, hlv, epp, dps, hd, eb, es, db, ds, ok, q⟩ := h
  obtain ⟨a, rfl, ea⟩ := deed_of hd
  have nd := sc__law_marked.nd
  refine ⟨_, (pss_cons (ps_let (i := 2) nd rfl (Or.inl rfl) (pe_callTy call_listF rfl T.z_list bt_list (pa_cons (pv 2) pa_nil)))
    (pss_cons (ps_let (i := 3) nd rfl (Or.inl rfl) (pe_callTy call_listF rfl T.z_list bt_list (pa_cons (pv 3) pa_nil)))
    (pss_cons (ps_if (pt_cmpR op_eq (pe_ix ixF (pv 1) pe_int (fun _ _ => rfl)) pe_str (nomark _)) (pss_cons (ps_asg pe_non (pg_sub (pv 2) (pe_ix ixF (pv 1) pe_int (fun _ _ => rfl)) set_list))
      (pss_one (ps_for PassesOwn.never rfl (piL (pv 0)) (pg_tup rfl (pgs_cons (pg_name (i := 4) nd rfl (Or.inl rfl)) (pgs_cons (pg_name (i := 5) nd rfl (Or.inl rfl)) (pgs_cons (pg_name (i := 6) nd rfl (Or.inl rfl)) pgs_nil)))) (pss_one (ps_if (PW.pt (pw_and (pt_not (pt_val (pv 6))) (pw_and1 (pt_cmpR (op_eqD hr) (pv 5) (pe_ix ixF (pv 1) pe_int (fun _ _ => rfl)) (nomark _))))) (pss_one (ps_asg (pv 4) (pg_sub (pv 2) (pe_ix ixF (pv 1) pe_int (fun _ _ => rfl)) set_list))) pss_nil))))) pss_nil)
    (pss_cons (ps_if (pt_cmpR op_eq (pe_ix ixF (pv 1) pe_int (fun _ _ => rfl)) pe_str (nomark _)) (pss_cons (ps_let (i := 7) nd rfl (Or.inl rfl) pe_non)
      (pss_cons (ps_for PassesOwn.never rfl (piL (pv 0)) (pg_tup rfl (pgs_cons (pg_name (i := 4) nd rfl (Or.inl rfl)) (pgs_cons (pg_name (i := 5) nd rfl (Or.inl rfl)) (pgs_cons (pg_name (i := 6) nd rfl (Or.inl rfl)) pgs_nil)))) (pss_cons (ps_let (i := 8) nd rfl (Or.inl rfl) (pe_tup (pa_cons (pe_ix ixF (pv 2) (pe_ix ixF (pv 1) pe_int (fun _ _ => rfl)) (fun _ _ => rfl)) (pa_cons (pe_ix ixF (pv 2) (pe_ix ixF (pv 1) pe_int (fun _ _ => rfl)) (fun _ _ => rfl)) pa_nil))))
        (pss_one (ps_if (PW.pt (pw_and (pt_val (pv 6)) (pw_and (pt_cmpR (op_eqD hr) (pv 5) (pe_ix ixF (pv 1) pe_int (fun _ _ => rfl)) (nomark _)) (pw_and1 (pt_cmpR (op_eqD hr) (pv 8) (pe_tup (pa_cons (pe_op op_catD (pv 4) (pe_tup (pa_cons pe_int pa_nil))) (pa_cons (pe_op op_catD (pv 4) (pe_tup (pa_cons pe_int pa_nil))) pa_nil))) (nomark _)))))) (pss_one (ps_let (i := 7) nd rfl (Or.inl rfl) (pv 4))) pss_nil))))
      (pss_one (ps_asg (pv 7) (pg_sub (pv 2) (pe_ix ixF (pv 1) pe_int (fun _ _ => rfl)) set_list))))) pss_nil)
    (pss_cons (ps_if (pt_cmpR op_eq (pe_ix ixF (pv 1) pe_int (fun _ _ => rfl)) pe_str (nomark _)) (pss_one (ps_asg (pe_ix ixF (pv 2) (pe_ix ixF (pv 1) pe_int (fun _ _ => rfl)) (fun _ _ => rfl)) (pg_sub (pv 3) (pe_ix ixF (pv 1) pe_int (fun _ _ => rfl)) set_list))) pss_nil)
    (pss_cons (ps_if (pt_cmpR op_eq (pe_ix ixF (pv 1) pe_int (fun _ _ => rfl)) pe_str (nomark _)) (pss_one (ps_asg (pe_ix ixF (pv 3) (pe_ix ixF (pv 1) pe_int (fun _ _ => rfl)) (fun _ _ => rfl)) (pg_sub (pv 2) (pe_ix ixF (pv 1) pe_int (fun _ _ => rfl)) set_list))) pss_nil)
    (pss_one (ps_ret (pe_tup (pa_cons (pv 2) (pa_cons (pv 3) pa_nil))))))))))), ?_⟩
  walk_at "rd"
  refine ⟨_, items_l eb, NewO.mk fun p1 H1 S1 n1 e1 => ⟨_, items_l (S1 _ _ es), NewO.mk fun p2 H2 S2 n2 e2 => ?_⟩⟩
  have S12 := S1.trans S2
  have ea2 := S12 _ _ ea
  cases d with
  | take x i =>
    simp only [vDeed] at ea2
    refine ⟨_, items_t ea2, _, atI_0, rfl, wT ?_⟩
    have hi := ok.1 i (by simp [M.Deed.bn])
    have lw := db.length
    rw [List.length_map] at lw
    refine ⟨_, items_t ea2, _, atI_2, p1, rfl, ws, i, rfl, S2 _ _ e1, _, ixN_int hi.1 (by have := hi.2; (first | (clear hdp hlv epp eb es n1 e1 n2 e2 ea ea2; omega) | omega)), PutO.mk fun H3 k3 e3 => ?_⟩
    have hpp1 : pp ≠ p1 := ne_of_none epp n1
    have ha1 : a ≠ p1 := ne_of_none ea n1
    have h21 : p2 ≠ p1 := (ne_of_none e1 n2).symm
    have epp3 : H3 pp = some (.lst ps) := by rw [k3 _ hpp1]; exact S12 _ _ epp
    obtain ⟨Pv, hPv⟩ : ∃ Pv : Nat → St → Hp → Prop, ∀ n σ H', Pv n σ H' ↔ (∀ c, c ≠ p1 → H' c = H2 c) ∧ ∃ z, H' p1 = some (.lst (ws.set i.toNat z)) ∧ Dt H2 (dO (M.lastOf x ((t.wk []).take n))) z ∧ ∃ o4 o5 o6 : Option V, σ = [some (.ref pp), some (.ref a), some (.ref p1), some (.ref p2), o4, o5, o6, none, none] := ⟨_, fun _ _ _ => Iff.rfl⟩
    refine WalkL.for epp3 Pv ((hPv _ _ _).mpr ⟨k3, .non, e3, isD_non.mpr rfl, none, none, none, rfl⟩) (fun n σ H' _ h => by rw [((hPv _ _ _).mp h).1 _ hpp1]; exact S12 _ _ epp) ?_ ?_
    · intro n y σ H' ey h
      obtain ⟨k', z, ez, dz, o4, o5, o6, rfl⟩ := (hPv _ _ _).mp h
      have lp := dps.length
      rw [List.length_map] at lp
      have hn : n < (t.wk []).length := by have := (List.getElem?_eq_some_iff.mp ey).1; (first | (clear hdp hlv epp eb es n1 e1 n2 e2 ea ea2 lw e3 hpp1 ha1 h21 epp3 ey ez; lia) | omega)
      obtain ⟨v', hv', dv'⟩ := Dts.map_of dps (List.getElem?_eq_getElem hn)
      rw [ey] at hv'; cases hv'
      generalize hq0 : (t.wk [])[n] = q0 at dv'
      obtain ⟨c, w1, rfl, ec, dw⟩ := dK_of dv'
      have e0 : (t.wk [])[n]? = some q0 := by rw [List.getElem?_eq_getElem hn, hq0]
      have ec' : H' c = some (.tup [w1, .str q0.2.name, .bl (isK q0.2)]) := by rw [k' c (ne_of_none ec n1)]; exact S12 _ _ ec
      have ea' : H' a = some (.tup [.str (Str.ofString "take"), .str x, .int i]) := by rw [k' a ha1]; exact ea2
      have hs := lastOf_succ x e0
      walk_at "rd"
      refine ⟨_, .of ec', rfl, _, _, rfl, _, _, rfl, _, _, rfl, rfl, _, rfl, ite2 (fun c1 => ⟨_, items_t ea', _, atI_1, _, isD_str.mpr rfl, _, isD_str.mpr rfl, Nat.zero_le _, ite2 (fun c2 => ?_) (fun c2 => ?_)⟩) (fun c1 => ?_)⟩
      · refine ⟨_, items_t ea', _, atI_2, _, i, rfl, ez, _, ixN_int hi.1 (by simp; have := hi.2; (first | (clear hdp hlv epp eb es n1 e1 n2 epp3 ez lp hn hq0 ey ec e0 e3 hpp1 ha1 h21 ec' ea' hs c1 e2 ea ea2 c2; omega) | omega)), PutO.mk fun H5 k5 e5 => (hPv _ _ _).mpr ⟨fun c hc => (k5 c hc).trans (k' c hc), w1, by rw [e5, List.set_set], ?_, _, _, _, rfl⟩⟩
        rw [hs, if_pos ⟨by simpa [isK] using c1, by simpa [D.eq] using c2⟩]
        exact dw.same S12
      · rw [← hs.trans (if_neg fun h => c2 (by simpa [D.eq] using h.2))] at dz
        exact (hPv _ _ _).mpr ⟨k', z, ez, dz, _, _, _, rfl⟩
      · rw [← hs.trans (if_neg fun h => c1 (by simp [isK, h.1]))] at dz
        exact (hPv _ _ _).mpr ⟨k', z, ez, dz, _, _, _, rfl⟩
    · intro σ H' h
      obtain ⟨k', z, ez, dz, o4, o5, o6, rfl⟩ := (hPv _ _ _).mp h
      have ea' : H' a = some (.tup [.str (Str.ofString "take"), .str x, .int i]) := by rw [k' a ha1]; exact ea2
      have lp := dps.length
      rw [List.length_map] at lp
      rw [lp, List.take_length, M.lastOf_first nodup] at dz
      have S' : Same H H' := Same.put_new S12 n1 k'
      walk_at "rd"
      refine ⟨_, items_t ea', _, atI_0, rfl, wF w_tj ⟨_, items_t ea', _, atI_0, rfl, wF w_tp ⟨_, items_t ea', _, atI_0, rfl, wF w_tf ⟨by decide, NewO.mk fun p4 H4 S4 n4 e4 => ?_⟩⟩⟩⟩
      refine q p4 p1 p2 _ _ H4 (S'.trans S4) e4 n1 (S1.free n2) h21.symm (S4 _ _ ez) (S4 _ _ (by rw [k' _ h21]; exact e2)) ?_ (ds.same (S'.trans S4))
      have dz4 : Dt H4 (dO (M.firstOf x (t.wk []))) z := (dz.tups (fun c xs e => by rw [k' c (ne_of e (S2 _ _ e1) (by intro z; cases z))]; exact e) (dO_nl _)).same S4
      have := Dts.set dz4 i.toNat (db.same (S'.trans S4))
      rw [← List.map_set] at this
      exact this
  | join f i j h =>
    simp only [vDeed] at ea2
    obtain ⟨y1, hy1, dy1⟩ := getD_at db (by rw [List.length_map]; exact ok.1 i (by simp [M.Deed.bn]))
    obtain ⟨y2, hy2, dy2⟩ := getD_at db (by rw [List.length_map]; exact ok.1 j (by simp [M.Deed.bn]))
    rw [show D.non = dO none from rfl, getD_map] at dy1 dy2
    have hh := ok.1 h (by simp [M.Deed.bn])
    have lw := db.length
    rw [List.length_map] at lw
    have h12 : p1 ≠ p2 := ne_of_none e1 n2
    have hn2 : H p2 = none := S1.free n2
    refine ⟨_, items_t ea2, _, atI_0, rfl, wF w_jt ⟨_, items_t ea2, _, atI_0, rfl, wT ?_⟩⟩
    generalize hA : st.1.getD i.toNat none = oA at dy1
    generalize hB : st.1.getD j.toNat none = oB at dy2
    obtain ⟨Pv, hPv⟩ : ∃ Pv : Nat → St → Hp → Prop, ∀ n σ H', Pv n σ H' ↔ Same H2 H' ∧ ∃ zf, Dt H' (dO (M.lawOver f oA oB ((t.wk []).take n))) zf ∧ ∃ o4 o5 o6 o8 : Option V, σ = [some (.ref pp), some (.ref a), some (.ref p1), some (.ref p2), o4, o5, o6, some zf, o8] := ⟨_, fun _ _ _ => Iff.rfl⟩
    refine WalkL.for (S12 _ _ epp) Pv ((hPv _ _ _).mpr ⟨Same.refl _, .non, isD_non.mpr rfl, none, none, none, none, rfl⟩) (fun n σ H' _ h => ((hPv _ _ _).mp h).1 _ _ (S12 _ _ epp)) ?_ ?_
    · intro n y σ H' ey g
      obtain ⟨S', zf, dz, o4, o5, o6, o8, rfl⟩ := (hPv _ _ _).mp g
      have lp := dps.length
      rw [List.length_map] at lp
      have hn : n < (t.wk []).length := by have := (List.getElem?_eq_some_iff.mp ey).1; (first | (clear hdp hlv epp eb es n1 e1 n2 e2 ea ea2 hy1 hy2 lw h12 hn2 hA hB ey; lia) | omega)
      obtain ⟨v', hv', dv'⟩ := Dts.map_of dps (List.getElem?_eq_getElem hn)
      rw [ey] at hv'; cases hv'
      generalize hq0 : (t.wk [])[n] = q0 at dv'
      obtain ⟨c, w1, rfl, ec, dw⟩ := dK_of dv'
      obtain ⟨cw, rfl, ecw⟩ := dP_of dw
      have e0 : (t.wk [])[n]? = some q0 := by rw [List.getElem?_eq_getElem hn, hq0]
      have S0' := S12.trans S'
      have ec' := S0' _ _ ec
      have ea' := S' _ _ ea2
      have hs := lawOver_succ f oA oB e0
      walk_at "rd"
      refine ⟨_, .of ec', rfl, _, _, rfl, _, _, rfl, _, _, rfl, rfl, _, items_t ea', _, atI_2, _, i, rfl, items_l (S' _ _ (S2 _ _ e1)), y1, hy1, _, items_t ea', _, atI_3, _, j, rfl, items_l (S' _ _ (S2 _ _ e1)), y2, hy2, by decide, NewO.mk fun p4 H4 S4 n4 e4 => ?_⟩
      refine ⟨_, rfl, ?_⟩
      have q0l : q0.1.length ≤ 24 := by
        have := M.Tr.wk_plen t [] _ _ (List.mem_of_getElem? e0)
        simp at this; (first | (clear e2 ea ea2 hy1 hy2 lw h12 hn2 hA hB lp hn hq0 ey ecw ec es n1 e1 n2 e0 ec' ea' hs epp eb n4 e4 hlv; lia) | omega)
      refine ite2 (fun c1 => ⟨_, items_t (S4 _ _ ea'), _, atI_1, _, isD_str.mpr rfl, _, isD_str.mpr rfl, Nat.zero_le _, ite2 (fun c2 => ?_) (fun c2 => ?_)⟩) (fun c1 => ?_)
      · refine ⟨by decide, NewO.mk fun p5 H5 S5 n5 e5 => ⟨cw, rfl, _, rfl, _, S5 _ _ (S4 _ _ (S0' _ _ ecw)), _, e5, small_le (by simp [vP]; (first | (clear hdp hlv epp eb es n1 e1 n2 e2 ea ea2 hy1 hy2 lw h12 hn2 hA hB lp hn hq0 ey ecw ec e0 ec' ea' c2 n5 e5 hs n4 e4 c1; lia) | omega)), fun p6 H6 S6 e6 => ⟨by decide, NewO.mk fun p7 H7 S7 n7 e7 => ⟨cw, rfl, _, rfl, _, S7 _ _ (S6 _ _ (S5 _ _ (S4 _ _ (S0' _ _ ecw)))), _, e7, small_le (by simp [vP]; (first | (clear hdp hlv epp eb es n1 e1 n2 e2 ea ea2 hy1 hy2 lw h12 hn2 hA hB lp hn hq0 ey ecw ec e0 ec' ea' hs n4 e5 e6 n7 e7 c2 n5 c1 e4; lia) | omega)), fun p8 H8 S8 e8 => ?_⟩⟩⟩⟩
        have S48 := ((S5.trans S6).trans S7).trans S8
        have S08 := (S0'.trans S4).trans S48
        have d6 : Dt H8 (dO (some (q0.1 ++ [0]))) (.ref p6) := dP_mk (by rw [S8 _ _ (S7 _ _ e6)]; simp [vP])
        have d8 : Dt H8 (dO (some (q0.1 ++ [1]))) (.ref p8) := dP_mk (by rw [e8]; simp [vP])
        refine ⟨by decide, NewO.mk fun p9 H9 S9 n9 e9 => ⟨.tup [dO oA, dO oB], Dt.tup (S9 _ _ (S48 _ _ e4)) (.cons ((dy1.same S08).same S9) (.cons ((dy2.same S08).same S9) .nil)), .tup [dO (some (q0.1 ++ [0])), dO (some (q0.1 ++ [1]))], Dt.tup e9 (.cons (d6.same S9) (.cons (d8.same S9) .nil)), ?_, ite2 (fun c3 => ?_) (fun c3 => ?_)⟩⟩
        · have := dO_dp oA
          have := dO_dp oB
          simp only [D.dp, D.dps]; (first | (clear hdp hlv epp eb es n1 e1 n2 e2 ea ea2 hy1 hy2 lw h12 hn2 hA hB lp hn hq0 ey ecw ec e0 ec' ea' hs n4 e4 q0l c1 c2 n5 e5 e6 n7 e7 e8 n9 e9; lia) | omega)
        · have c3 := (D.eq_iff (by simp [D.cl, D.cls, dO_cl]) (by simp [D.cl, D.cls, dO_cl])).mp c3
          simp only [D.tup.injEq, List.cons.injEq, and_true] at c3
          have hp := hs.trans (if_pos ⟨by simpa [isK] using c1, by simpa [D.eq] using c2, dO_inj c3.1, dO_inj c3.2⟩)
          refine (hPv _ _ _).mpr ⟨((S'.trans S4).trans S48).trans S9, .ref cw, ?_, _, _, _, _, rfl⟩
          rw [hp]
          exact (dw.same S08).same S9
        · have c3 : ¬ (oA = some (q0.1 ++ [0]) ∧ oB = some (q0.1 ++ [1])) := fun z => c3 ((D.eq_iff (by simp [D.cl, D.cls, dO_cl]) (by simp [D.cl, D.cls, dO_cl])).mpr (by rw [z.1, z.2]))
          rw [← hs.trans (if_neg fun h => c3 h.2.2)] at dz
          exact (hPv _ _ _).mpr ⟨((S'.trans S4).trans S48).trans S9, zf, ((dz.same S4).same S48).same S9, _, _, _, _, rfl⟩
      · rw [← hs.trans (if_neg fun h => c2 (by simpa [D.eq] using h.2.1))] at dz
        exact (hPv _ _ _).mpr ⟨S'.trans S4, zf, dz.same S4, _, _, _, _, rfl⟩
      · rw [← hs.trans (if_neg fun h => c1 (by simp [isK, h.1]))] at dz
        exact (hPv _ _ _).mpr ⟨S'.trans S4, zf, dz.same S4, _, _, _, _, rfl⟩
    · intro σ H' g
      obtain ⟨S', zf, dz, o4, o5, o6, o8, rfl⟩ := (hPv _ _ _).mp g
      have lp := dps.length
      rw [List.length_map] at lp
      rw [lp, List.take_length, M.lawOver_over] at dz
      have ea' := S' _ _ ea2
      have e1' := S' _ _ (S2 _ _ e1)
      walk_at "rd"
      refine ⟨_, items_t ea', _, atI_4, _, h, rfl, e1', _, ixN_int hh.1 (by have := hh.2; (first | (clear hdp hlv epp eb es n1 e1 n2 e2 ea ea2 h12 hn2 hA hB lp ea' hy1 hy2 e1'; omega) | omega)), PutO.mk fun H5 k5 e5 => ?_⟩
      have S5 : Same H H5 := Same.put_new (S12.trans S') n1 k5
      have ea5 := S5 _ _ ea
      simp only [vDeed] at ea5
      refine ⟨_, items_t ea5, _, atI_0, rfl, wF w_jp ⟨_, items_t ea5, _, atI_0, rfl, wF w_jf ⟨by decide, NewO.mk fun p4 H4 S4 n4 e4 => ?_⟩⟩⟩
      refine q p4 p1 p2 _ _ H4 (S5.trans S4) e4 n1 hn2 h12 (S4 _ _ e5) (S4 _ _ (by rw [k5 _ h12.symm]; exact S' _ _ e2)) ?_ (ds.same (S5.trans S4))
      have dz4 : Dt H4 (dO (M.over t f oA oB)) zf := (dz.tups (fun c xs e => by rw [k5 c (ne_of e e1' (by intro z; cases z))]; exact e) (dO_nl _)).same S4
      have := Dts.set dz4 h.toNat (db.same (S5.trans S4))
      rw [← List.map_set, ← hA, ← hB] at this
      exact this
  | put i j =>
    simp only [vDeed] at ea2
    obtain ⟨y, hy, dy⟩ := getD_at db (by rw [List.length_map]; exact ok.1 i (by simp [M.Deed.bn]))
    have hj := ok.2 j (by simp [M.Deed.sn])
    have lu := ds.length
    rw [List.length_map] at lu
    have h12 : p1 ≠ p2 := ne_of_none e1 n2
    have hn2 : H p2 = none := S1.free n2
    have ha2 : a ≠ p2 := ne_of_none ea hn2
    refine ⟨_, items_t ea2, _, atI_0, rfl, wF w_pt ⟨_, items_t ea2, _, atI_0, rfl, wF w_pj ⟨_, items_t ea2, _, atI_0, rfl, wT ?_⟩⟩⟩
    refine ⟨_, items_t ea2, _, atI_1, p1, rfl, _, i, rfl, items_l (S2 _ _ e1), y, hy, _, items_t ea2, _, atI_2, p2, rfl, _, j, rfl, e2, _, ixN_int hj.1 (by have := hj.2; (first | (clear hdp hlv epp eb es n1 e1 n2 e2 ea ea2 hy hn2 ha2 h12; omega) | omega)), PutO.mk fun H5 k5 e5 => ?_⟩
    have S' : Same H H5 := Same.put_new S12 hn2 k5
    refine ⟨_, items_t (S' _ _ ea), _, atI_0, rfl, wF w_pf ⟨by decide, NewO.mk fun p4 H4 S4 n4 e4 => ?_⟩⟩
    refine q p4 p1 p2 _ _ H4 (S'.trans S4) e4 n1 hn2 h12 (S4 _ _ (by rw [k5 _ h12]; exact S2 _ _ e1)) (S4 _ _ e5) (db.same (S'.trans S4)) ?_
    have := Dts.set (dy.same (S'.trans S4)) j.toNat (ds.same (S'.trans S4))
    rw [show D.non = dO none from rfl, getD_map, ← List.map_set] at this
    exact this
  | fetch j i =>
    simp only [vDeed] at ea2
    obtain ⟨y, hy, dy⟩ := getD_at ds (by rw [List.length_map]; exact ok.2 j (by simp [M.Deed.sn]))
    have hi := ok.1 i (by simp [M.Deed.bn])
    have lw := db.length
    rw [List.length_map] at lw
    have h12 : p1 ≠ p2 := ne_of_none e1 n2
    have hn2 : H p2 = none := S1.free n2
    refine ⟨_, items_t ea2, _, atI_0, rfl, wF w_ft ⟨_, items_t ea2, _, atI_0, rfl, wF w_fj ⟨_, items_t ea2, _, atI_0, rfl, wF w_fp ⟨_, items_t ea2, _, atI_0, rfl, wT ?_⟩⟩⟩⟩
    refine ⟨_, items_t ea2, _, atI_1, p2, rfl, _, j, rfl, items_l e2, y, hy, _, items_t ea2, _, atI_2, p1, rfl, _, i, rfl, S2 _ _ e1, _, ixN_int hi.1 (by have := hi.2; (first | (clear hdp hlv epp eb es n1 e1 n2 e2 ea ea2 hy h12 hn2; omega) | omega)), PutO.mk fun H5 k5 e5 => ?_⟩
    have S' : Same H H5 := Same.put_new S12 n1 k5
    refine ⟨by decide, NewO.mk fun p4 H4 S4 n4 e4 => ?_⟩
    refine q p4 p1 p2 _ _ H4 (S'.trans S4) e4 n1 hn2 h12 (S4 _ _ e5) (S4 _ _ (by rw [k5 _ h12.symm]; exact e2)) ?_ (ds.same (S'.trans S4))
    have := Dts.set (dy.same (S'.trans S4)) i.toNat (db.same (S'.trans S4))
    rw [show D.non = dO none from rfl, getD_map, ← List.map_set] at this
    exact this
/-! ### the told row -/
noncomputable def rowInto (k : Int) : L2.Tree → Nat → Nat → List L2.Deed
  | .leaf x, box, _ => [.take x box]
  | .knot f l r, box, sh =>
    if mustT k (.knot f l r) = true then rowInto k r 0 sh ++ [.put 0 sh] ++ rowInto k l 0 (sh + 1) ++ [.fetch sh 1, .join f 0 1 0]
    else if r.rk ≤ l.rk then rowInto k l box sh ++ rowInto k r (box + 1) sh ++ [.join f box (box + 1 : Nat) box]
    else rowInto k r box sh ++ rowInto k l (box + 1) sh ++ [.join f (box + 1 : Nat) box box]
theorem rowInto_len (k : Int) : ∀ (t : L2.Tree) (b s : Nat), (rowInto k t b s).length + 3 ≤ 4 * t.lv.length
  | .leaf x, b, s => by simp [rowInto, M.Tr.lv]
  | .knot f l r, b, s => by
    have h1 := rowInto_len k r 0 s
    have h2 := rowInto_len k l 0 (s + 1)
    have h3 := rowInto_len k l b s
    have h4 := rowInto_len k r (b + 1) s
    have h5 := rowInto_len k r b s
    have h6 := rowInto_len k l (b + 1) s
    simp only [rowInto, M.Tr.lv, List.length_append]
    split
    · simp only [List.length_append, List.length_cons, List.length_nil]; (first | lia | omega)
    · split <;> (simp only [List.length_append, List.length_cons, List.length_nil]; (first | (clear h1 h2; lia) | omega))
noncomputable def spInto (n : Nat) : Sp := fun vs H Q _ => ∃ (t : L2.Tree) (k : Int) (b s : Nat) (v : V), vs = [v, .int k, .int b, .int s] ∧ Dt H (dT t) v ∧ t.dp ≤ n ∧ t.lv.length ≤ 5000 ∧ RetL H ((rowInto k t b s).map dDeed) Q
noncomputable def spShelf (n : Nat) : Sp := fun vs H Q _ => ∃ (f : Str) (l r : L2.Tree) (k : Int) (s : Nat) (v : V), vs = [v, .int k, .int s] ∧ Dt H (dT (.knot f l r)) v ∧ l.dp ≤ n ∧ r.dp ≤ n ∧ l.lv.length + r.lv.length ≤ 5000 ∧ RetL H ((rowInto k r 0 s ++ [(M.Deed.put 0 s : L2.Deed)] ++ rowInto k l 0 (s + 1) ++ [(M.Deed.fetch s 1 : L2.Deed), M.Deed.join f 0 1 0]).map dDeed) Q
theorem ok_bshelf (T : Txt K mg) {n c : Nat} (G_row_into : FnOk P w K mg base CX0 c T.f_row_into T.d_row_into ["tree", "k", "box", "shelf"] (spInto n)) : FnOk P w K mg base CX0 (c + 1) T.f_row_by_shelf T.d_row_by_shelf ["tree", "k", "shelf"] (spShelf n) := by
  refine T.F_row_by_shelf.ok (k := c) sc_row_by_shelf (fun vs H Q E h => ?_) (fun cdv A outer s H vs Q E hr h => ?_)
  · obtain ⟨f, l, r, k, s, v, rfl, _⟩ := h
    rfl
  obtain ⟨f, l, r, k, sh, v, rfl, ht, hl, hr', hlv, q⟩ := h
  obtain ⟨a, vl, vr, rfl, ea, dl, dr⟩ := dT_knot ht
  have nd := sc_row_by_shelf.nd
  refine ⟨_, (pss_cons (ps_let (i := 3) nd rfl (Or.inl rfl) (pe_call G_row_into hr rfl T.m_row_into T.F_row_into.kp T.b_row_into .nil pass0 (pa_cons (pe_ix ixF (pv 0) pe_int (fun _ _ => rfl)) (pa_cons (pv 1) (pa_cons pe_int (pa_cons (pv 2) pa_nil))))))
    (pss_cons (ps_let (i := 4) nd rfl (Or.inl rfl) (pe_call G_row_into hr rfl T.m_row_into T.F_row_into.kp T.b_row_into .nil pass0 (pa_cons (pe_ix ixF (pv 0) pe_int (fun _ _ => rfl)) (pa_cons (pv 1) (pa_cons pe_int (pa_cons (pe_op op_add (pv 2) pe_int) pa_nil))))))
    (pss_one (ps_ret (pe_op op_cat (pe_op op_cat (pe_op op_cat (pv 3) (pe_lst (pa_cons (pe_tup (pa_cons pe_str (pa_cons pe_int (pa_cons (pv 2) pa_nil)))) pa_nil))) (pv 4)) (pe_lst (pa_cons (pe_tup (pa_cons pe_str (pa_cons (pv 2) (pa_cons pe_int pa_nil)))) (pa_cons (pe_tup (pa_cons pe_str (pa_cons (pe_ix ixF (pv 0) pe_int (fun _ _ => rfl)) (pa_cons pe_int (pa_cons pe_int (pa_cons pe_int pa_nil)))))) pa_nil)))))))), ?_⟩
  walk_at "rd"
  have b1 := rowInto_len k r 0 sh
  have b2 := rowInto_len k l 0 (sh + 1)
  refine ⟨_, items_t ea, _, atI_3, r, k, 0, sh, vr, rfl, dr, hr', by (first | (clear ea b1 b2 hl hr'; lia) | omega), fun p1 xs H1 S1 n1 e1 D1 => ?_⟩
  refine ⟨_, items_t (S1 _ _ ea), _, atI_2, l, k, 0, sh + 1, vl, by simp, dl.same S1, hl, by (first | (clear b1 b2 n1 e1 hl hr' ea; lia) | omega), fun p2 ys H2 S2 n2 e2 D2 => ?_⟩
  have l1 := D1.length
  have l2 := D2.length
  rw [List.length_map] at l1 l2
  refine ⟨by decide, NewO.mk fun p3 H3 S3 n3 e3 => ⟨by decide, NewO.mk fun p4 H4 S4 n4 e4 => ⟨p1, rfl, _, rfl, _, S4 _ _ (S3 _ _ (S2 _ _ e1)), _, e4, small_le (by simp; (first | lia | omega)), NewO.mk fun p5 H5 S5 n5 e5 => ?_⟩⟩⟩
  have S25 := (S3.trans S4).trans S5
  refine ⟨p5, rfl, _, rfl, _, e5, _, S25 _ _ e2, small_le (by simp; (first | (clear e4 n5 e5 n1 e1 n2 n3 e3 n4 hl hr' ea e2; lia) | omega)), NewO.mk fun p6 H6 S6 n6 e6 => ?_⟩
  have S26 := S25.trans S6
  have S06 := (S1.trans S2).trans S26
  refine ⟨by decide, NewO.mk fun p7 H7 S7 n7 e7 => ⟨_, items_t (S7 _ _ (S06 _ _ ea)), _, atI_1, by decide, NewO.mk fun p8 H8 S8 n8 e8 => ⟨by decide, NewO.mk fun p9 H9 S9 n9 e9 => ⟨p6, rfl, _, rfl, _, S9 _ _ (S8 _ _ (S7 _ _ e6)), _, e9, small_le (by simp; (first | (clear e3 n4 e4 n5 e5 n6 e6 n7 e7 n8 e8 n9 e9 n3 hl hr' n1 e1 n2 e2 ea; lia) | omega)), NewO.mk fun pA HA SA nA eA => ?_⟩⟩⟩⟩
  have S6A := ((S7.trans S8).trans S9).trans SA
  have S2A := S26.trans S6A
  have S0A := (S1.trans S2).trans S2A
  refine q pA _ HA S0A (S06.free (((S7.trans S8).trans S9).free nA)) eA ?_
  have d3 : Dt HA (dDeed (M.Deed.put 0 sh)) (.ref p3) := deed_mk (S6A _ _ (S6 _ _ (S5 _ _ (S4 _ _ e3))))
  have d7 : Dt HA (dDeed (M.Deed.fetch sh 1)) (.ref p7) := deed_mk (SA _ _ (S9 _ _ (S8 _ _ e7)))
  have d8 : Dt HA (dDeed (M.Deed.join f 0 1 0)) (.ref p8) := deed_mk (SA _ _ (S9 _ _ e8))
  simp only [List.map_append, List.map_cons, List.map_nil]
  exact Dts.append (Dts.append (Dts.append (D1.same (S2.trans S2A)) (.one d3)) (D2.same S2A)) (.cons d7 (.one d8))
noncomputable def spBoxes (n : Nat) : Sp := fun vs H Q _ => ∃ (f : Str) (l r : L2.Tree) (k : Int) (b s : Nat) (v : V), vs = [v, .int k, .int b, .int s] ∧ Dt H (dT (.knot f l r)) v ∧ l.dp ≤ n ∧ r.dp ≤ n ∧ l.lv.length + r.lv.length ≤ 5000 ∧
  RetL H ((if r.rk ≤ l.rk then rowInto k l b s ++ rowInto k r (b + 1) s ++ [(M.Deed.join f b (b + 1 : Nat) b : L2.Deed)] else rowInto k r b s ++ rowInto k l (b + 1) s ++ [(M.Deed.join f (b + 1 : Nat) b b : L2.Deed)]).map dDeed) Q
theorem ok_bboxes (T : Txt K mg) {n c : Nat} (hc : n + 2 ≤ c) (G_row_into : FnOk P w K mg base CX0 c T.f_row_into T.d_row_into ["tree", "k", "box", "shelf"] (spInto n)) : FnOk P w K mg base CX0 (c + 1) T.f_row_by_boxes T.d_row_by_boxes ["tree", "k", "box", "shelf"] (spBoxes n) := by
  refine T.F_row_by_boxes.ok (k := c) sc_row_by_boxes (fun vs H Q E h => ?_) (fun cdv A outer s H vs Q E hr h => ?_)
  · obtain ⟨f, l, r, k, b, s, v, rfl, _⟩ := h
    rfl
  obtain ⟨f, l, r, k, b, sh, v, rfl, ht, hl, hr', hlv, q⟩ := h
  obtain ⟨a, vl, vr, rfl, ea, dl, dr⟩ := dT_knot ht
  have nd := sc_row_by_boxes.nd
  have G_rank := (ok_rank (P := P) (w := w) (base := base) T n).mono (k := c) (by omega)
  refine ⟨_, (pss_cons (ps_if (pt_cmpR op_ge (pe_call G_rank hr rfl T.m_rank T.F_rank.kp T.b_rank .nil pass0 (pa_cons (pe_ix ixF (pv 0) pe_int (fun _ _ => rfl)) pa_nil)) (pe_call G_rank hr rfl T.m_rank T.F_rank.kp T.b_rank .nil pass0 (pa_cons (pe_ix ixF (pv 0) pe_int (fun _ _ => rfl)) pa_nil)) (nomark _)) (pss_cons (ps_let (i := 4) nd rfl (Or.inl rfl) (pe_op op_cat (pe_call G_row_into hr rfl T.m_row_into T.F_row_into.kp T.b_row_into .nil pass0 (pa_cons (pe_ix ixF (pv 0) pe_int (fun _ _ => rfl)) (pa_cons (pv 1) (pa_cons (pv 2) (pa_cons (pv 3) pa_nil))))) (pe_call G_row_into hr rfl T.m_row_into T.F_row_into.kp T.b_row_into .nil pass0 (pa_cons (pe_ix ixF (pv 0) pe_int (fun _ _ => rfl)) (pa_cons (pv 1) (pa_cons (pe_op op_add (pv 2) pe_int) (pa_cons (pv 3) pa_nil)))))))
      (pss_one (ps_ret (pe_op op_cat (pv 4) (pe_lst (pa_cons (pe_tup (pa_cons pe_str (pa_cons (pe_ix ixF (pv 0) pe_int (fun _ _ => rfl)) (pa_cons (pv 2) (pa_cons (pe_op op_add (pv 2) pe_int) (pa_cons (pv 2) pa_nil)))))) pa_nil)))))) pss_nil)
    (pss_cons (ps_let (i := 4) nd rfl (Or.inl rfl) (pe_op op_cat (pe_call G_row_into hr rfl T.m_row_into T.F_row_into.kp T.b_row_into .nil pass0 (pa_cons (pe_ix ixF (pv 0) pe_int (fun _ _ => rfl)) (pa_cons (pv 1) (pa_cons (pv 2) (pa_cons (pv 3) pa_nil))))) (pe_call G_row_into hr rfl T.m_row_into T.F_row_into.kp T.b_row_into .nil pass0 (pa_cons (pe_ix ixF (pv 0) pe_int (fun _ _ => rfl)) (pa_cons (pv 1) (pa_cons (pe_op op_add (pv 2) pe_int) (pa_cons (pv 3) pa_nil)))))))
    (pss_one (ps_ret (pe_op op_cat (pv 4) (pe_lst (pa_cons (pe_tup (pa_cons pe_str (pa_cons (pe_ix ixF (pv 0) pe_int (fun _ _ => rfl)) (pa_cons (pe_op op_add (pv 2) pe_int) (pa_cons (pv 2) (pa_cons (pv 2) pa_nil)))))) pa_nil))))))), ?_⟩
  walk_at "rd"
  have b1 := rowInto_len k l b sh
  have b2 := rowInto_len k r (b + 1) sh
  have b3 := rowInto_len k r b sh
  have b4 := rowInto_len k l (b + 1) sh
  refine ⟨_, items_t ea, _, atI_2, l, vl, rfl, dl, hl, _, items_t ea, _, atI_3, r, vr, rfl, dr, hr', ?_⟩
  refine ⟨_, rfl, _, rfl, ite2 (fun c => ?_) (fun c => ?_)⟩
  · have c : r.rk ≤ l.rk := by have := of_decide_eq_true c; (first | (clear hc hl hr' hlv ea b1 b2 b3 b4 c; lia) | omega)
    rw [if_pos c] at q
    refine ⟨_, items_t ea, _, atI_2, l, k, b, sh, vl, rfl, dl, hl, by (first | (clear b1 b2 b3 b4 c hc hl hr' ea; lia) | omega), fun p1 xs H1 S1 n1 e1 D1 => ?_⟩
    refine ⟨_, items_t (S1 _ _ ea), _, atI_3, r, k, b + 1, sh, vr, rfl, dr.same S1, hr', by (first | (clear hc hl hr' c n1 e1 b1 b2 b3 b4 ea; lia) | omega), fun p2 ys H2 S2 n2 e2 D2 => ?_⟩
    have l1 := D1.length
    have l2 := D2.length
    rw [List.length_map] at l1 l2
    refine ⟨p1, rfl, _, rfl, _, S2 _ _ e1, _, e2, small_le (by (first | (clear b4 c n1 e1 hc hl n2 e2 hr' ea b3; lia) | omega)), NewO.mk fun p3 H3 S3 n3 e3 => ?_⟩
    have S03 := (S1.trans S2).trans S3
    refine ⟨_, items_t (S03 _ _ ea), _, atI_1, by decide, NewO.mk fun p4 H4 S4 n4 e4 => ⟨by decide, NewO.mk fun p5 H5 S5 n5 e5 => ⟨p3, rfl, _, rfl, _, S5 _ _ (S4 _ _ e3), _, e5, small_le (by simp; (first | (clear n4 e4 n5 e5 hc hl hr' c n1 e1 b3 b4 n2 e2 n3 e3 ea; lia) | omega)), NewO.mk fun p6 H6 S6 n6 e6 => ?_⟩⟩⟩
    have S36 := (S4.trans S5).trans S6
    refine q p6 _ H6 (S03.trans S36) (S03.free ((S4.trans S5).free n6)) e6 ?_
    have d4 : Dt H6 (dDeed (M.Deed.join f b (b + 1 : Nat) b)) (.ref p4) := deed_mk (S6 _ _ (S5 _ _ e4))
    simp only [List.map_append, List.map_cons, List.map_nil]
    exact Dts.append (Dts.append (D1.same ((S2.trans S3).trans S36)) (D2.same (S3.trans S36))) (.one d4)
  · have c : ¬ r.rk ≤ l.rk := fun z => c (decide_eq_true (by (first | (clear hc hl hr' hlv ea b1 b2 b3 b4 c; lia) | omega)))
    rw [if_neg c] at q
    refine ⟨_, items_t ea, _, atI_3, r, k, b, sh, vr, rfl, dr, hr', by (first | (clear b1 b2 b3 b4 c hc hl hr' ea; lia) | omega), fun p1 xs H1 S1 n1 e1 D1 => ?_⟩
    refine ⟨_, items_t (S1 _ _ ea), _, atI_2, l, k, b + 1, sh, vl, rfl, dl.same S1, hl, by (first | (clear b2 b3 b4 c n1 e1 hc hl hr' b1 ea; lia) | omega), fun p2 ys H2 S2 n2 e2 D2 => ?_⟩
    have l1 := D1.length
    have l2 := D2.length
    rw [List.length_map] at l1 l2
    refine ⟨p1, rfl, _, rfl, _, S2 _ _ e1, _, e2, small_le (by (first | (clear hc hl ea b1 n1 e1 n2 e2 hr' b2 c; lia) | omega)), NewO.mk fun p3 H3 S3 n3 e3 => ?_⟩
    have S03 := (S1.trans S2).trans S3
    refine ⟨_, items_t (S03 _ _ ea), _, atI_1, by decide, NewO.mk fun p4 H4 S4 n4 e4 => ⟨by decide, NewO.mk fun p5 H5 S5 n5 e5 => ⟨p3, rfl, _, rfl, _, S5 _ _ (S4 _ _ e3), _, e5, small_le (by simp; (first | (clear n4 e4 n5 e5 hc hl hr' c n1 e1 b1 b2 n2 e2 n3 e3 ea; lia) | omega)), NewO.mk fun p6 H6 S6 n6 e6 => ?_⟩⟩⟩
    have S36 := (S4.trans S5).trans S6
    refine q p6 _ H6 (S03.trans S36) (S03.free ((S4.trans S5).free n6)) e6 ?_
    have d4 : Dt H6 (dDeed (M.Deed.join f (b + 1 : Nat) b b)) (.ref p4) := deed_mk (S6 _ _ (S5 _ _ e4))
    simp only [List.map_append, List.map_cons, List.map_nil]
    exact Dts.append (Dts.append (D1.same ((S2.trans S3).trans S36)) (D2.same (S3.trans S36))) (.one d4)
theorem ok_into (T : Txt K mg) : ∀ n : Nat, FnOk P w K mg base CX0 (2 * n + 5) T.f_row_into T.d_row_into ["tree", "k", "box", "shelf"] (spInto n)
  | 0 => by
    refine T.F_row_into.ok (k := 4) sc_row_into (fun vs H Q E h => ?_) (fun cdv A outer s H vs Q E hr h => ?_)
    · obtain ⟨t, k, b, s, v, rfl, _⟩ := h
      rfl
    · obtain ⟨t, k, b, s, v, rfl, _, h, _⟩ := h
      have := t.dp_pos
      omega
  | n + 1 => by
    refine T.F_row_into.ok (k := 2 * n + 6) sc_row_into (fun vs H Q E h => ?_) (fun cdv A outer s H vs Q E hr h => ?_)
    · obtain ⟨t, k, b, s, v, rfl, _⟩ := h
      rfl
    obtain ⟨t, k, b, sh, v, rfl, ht, hd, hlv, q⟩ := h
    have nd := sc_row_into.nd
    have G_is_leaf := (ok_leaf (P := P) (w := w) (base := base) T).mono (k := 2 * n + 6) (by (first | lia | omega))
    have G_puts := (ok_puts (P := P) (w := w) (base := base) T (n + 1)).mono (k := 2 * n + 6) (by (first | lia | omega))
    have G_row_by_shelf := ok_bshelf T (ok_into T n)
    have G_row_by_boxes := ok_bboxes T (by (first | lia | omega)) (ok_into T n)
    refine ⟨_, (pss_cons (ps_if (pt_val (pe_call G_is_leaf hr rfl T.m_is_leaf T.F_is_leaf.kp T.b_is_leaf .nil pass0 (pa_cons (pv 0) pa_nil))) (pss_one (ps_ret (pe_lst (pa_cons (pe_tup (pa_cons pe_str (pa_cons (pe_ix ixF (pv 0) pe_int (fun _ _ => rfl)) (pa_cons (pv 2) pa_nil)))) pa_nil)))) pss_nil)
    (pss_cons (ps_if (pt_val (pe_call G_puts hr rfl T.m_puts T.F_puts.kp T.b_puts .nil pass0 (pa_cons (pv 0) (pa_cons (pv 1) pa_nil)))) (pss_one (ps_ret (pe_call G_row_by_shelf hr rfl T.m_row_by_shelf T.F_row_by_shelf.kp T.b_row_by_shelf .nil pass0 (pa_cons (pv 0) (pa_cons (pv 1) (pa_cons (pv 3) pa_nil)))))) pss_nil)
    (pss_one (ps_ret (pe_call G_row_by_boxes hr rfl T.m_row_by_boxes T.F_row_by_boxes.kp T.b_row_by_boxes .nil pass0 (pa_cons (pv 0) (pa_cons (pv 1) (pa_cons (pv 2) (pa_cons (pv 3) pa_nil))))))))), ?_⟩
    walk_at "rd"
    refine ⟨t, v, rfl, ht, _, rfl, ?_⟩
    cases t with
    | leaf x =>
      obtain ⟨a, rfl, ea⟩ := dT_leaf ht
      refine iteT ⟨_, rfl, _, items_t ea, _, atI_1, by decide, NewO.mk fun p1 H1 S1 n1 e1 => ⟨by decide, NewO.mk fun p2 H2 S2 n2 e2 => ?_⟩⟩
      exact q p2 _ H2 (S1.trans S2) (S1.free n2) e2 (.one (deed_mk (d := .take x b) (S2 _ _ e1)))
    | knot f l r =>
      simp only [M.Tr.dp] at hd
      simp only [M.Tr.lv, List.length_append] at hlv
      refine iteF ⟨_, k, v, rfl, ht, by simp only [M.Tr.dp]; omega, _, rfl, ite2 (fun c => ?_) (fun c => ?_)⟩
      · simp only [rowInto, if_pos c] at q
        exact ⟨f, l, r, k, sh, v, rfl, ht, by (first | (clear c hlv; lia) | omega), by (first | (clear c hlv; lia) | omega), hlv, q⟩
      · simp only [rowInto, if_neg c] at q
        exact ⟨f, l, r, k, b, sh, v, rfl, ht, by (first | lia | omega), by (first | lia | omega), hlv, q⟩
noncomputable def spFor (T : Txt K mg) : Sp := fun vs H Q E => ∃ (t : L2.Tree) (k : Int) (v : V), vs = [v, .int k] ∧ Dt H (dT t) v ∧ t.dp ≤ 24 ∧ t.lv.length ≤ 32 ∧ k.natAbs.log2 < 1900 ∧ (few t k → ∀ H', Same H H' → E (.ref T.C_TooFew) none H') ∧
  (¬ few t k → RetL H ((rowInto k t 0 0).map dDeed) Q)
theorem ok_for (T : Txt K mg) : FnOk P w K mg base (CXE P w) 54 T.f_row_for T.d_row_for ["tree", "k"] (spFor T) := by
  refine T.F_row_for.okE (k := 53) sc_row_for (fun vs H Q E h => ?_) (fun cdv A outer s H vs Q E hr h L => ?_)
  · obtain ⟨t, k, v, rfl, _⟩ := h
    rfl
  obtain ⟨t, k, v, rfl, ht, hd, hlv, hk, qe, q⟩ := h
  have nd := sc_row_for.nd
  have G_least := (ok_least (P := P) (w := w) (base := base) T).mono (k := 53) (by omega)
  have G_row_into := ok_into (P := P) (w := w) (base := base) T 24
  refine ⟨_, (pss_cons (ps_expr (pe_call G_least hr rfl T.m_least T.F_least.kp T.b_least .nil (passE L) (pa_cons (pv 0) (pa_cons (pv 1) pa_nil))))
    (pss_one (ps_ret (pe_call G_row_into hr rfl T.m_row_into T.F_row_into.kp T.b_row_into .nil pass0 (pa_cons (pv 0) (pa_cons (pv 1) (pa_cons pe_int (pa_cons pe_int pa_nil)))))))), ?_⟩
  walk_at "rd"
  refine ⟨t, k, v, rfl, ht, hd, hlv, hk, qe, fun nf v' H1 S1 d1 => ?_⟩
  refine ⟨t, k, 0, 0, v, rfl, ht.same S1, hd, by (first | lia | omega), fun p xs H2 S2 n2 e2 D2 => ?_⟩
  exact q nf p xs H2 (S1.trans S2) (S1.free n2) e2 D2
/-! ### what the told row does -/
noncomputable def cM (k : Int) : L2.Tree → Nat
  | .leaf _ => 0
  | .knot f l r => (if mustT k (.knot f l r) = true then 1 else 0) + cM k l + cM k r
theorem cM_wk (k : Int) (t : L2.Tree) : ∀ p, ((t.wk p).filter (mustQ k)).length = cM k t := by
  induction t with
  | leaf x => intro p; simp [M.Tr.wk, cM, mustQ, isK, M.Tr.isL]
  | knot f l r ihl ihr =>
    intro p
    have e : mustQ k (p, M.Tr.knot f l r) = mustT k (.knot f l r) := rfl
    simp only [M.Tr.wk, List.filter_cons, List.filter_append, cM, e]
    split <;> simp only [List.length_cons, List.length_append, ihl, ihr] <;> (first | lia | omega)
/-- what a tree comes to -/
noncomputable def Wt {β : Type} (tk : Str → β) (jn : Str → β → β → β) : L2.Tree → β
  | .leaf x => tk x
  | .knot f l r => jn f (Wt tk jn l) (Wt tk jn r)
theorem getD_set {β : Type} (l : List β) (i j : Nat) (v z : β) : (l.set i v).getD j z = if j = i ∧ i < l.length then v else l.getD j z := by
  rw [List.getD_eq_getElem?_getD, List.getD_eq_getElem?_getD, List.getElem?_set]
  by_cases c : i = j
  · subst c
    by_cases d : i < l.length
    · rw [if_pos rfl, if_pos d, if_pos ⟨rfl, d⟩]; rfl
    · rw [if_pos rfl, if_neg d, if_neg fun z => d z.2, List.getElem?_eq_none (by (first | lia | omega))]
  · rw [if_neg c, if_neg fun z => c z.1.symm]
theorem must_iff (k : Int) (f : Str) (l r : L2.Tree) : mustT k (.knot f l r) = true ↔ k ≤ l.rk ∧ k ≤ r.rk := by
  show (true && decide (k ≤ ((min l.rk r.rk : Nat) : Int))) = true ↔ _
  simp; (first | lia | omega)
theorem rk_knot (f : Str) (l r : L2.Tree) : (M.Tr.knot f l r).rk = if l.rk = r.rk then l.rk + 1 else max l.rk r.rk := rfl
section
variable {β : Type} {z : β} {tk : Str → β} {jn : Str → β → β → β}
/-- the row's deeds are of boxes and places that there are -/
theorem row_ok (k m : Nat) (hk : 2 ≤ k) : ∀ (t : L2.Tree) (b s : Nat), (b = 0 ∨ t.rk + b ≤ k) → s + cM k t ≤ m → ∀ d ∈ rowInto k t b s, d.ok k m
  | .leaf x, b, s, hb, hs, d, hd => by
    simp only [rowInto, List.mem_singleton] at hd
    subst hd
    refine ⟨fun i hi => ?_, fun i hi => by simp [M.Deed.sn] at hi⟩
    simp only [M.Deed.bn, List.mem_singleton] at hi
    subst hi
    have : b < k := by
      rcases hb with rfl | hb
      · omega
      · simp only [M.Tr.rk] at hb; (first | (clear hk hs; omega) | omega)
    exact ⟨by (first | (clear hs this hk hb; lia) | omega), by (first | (clear hb hs; omega) | omega)⟩
  | .knot f l r, b, s, hb, hs, d, hd => by
    simp only [cM] at hs
    rw [rk_knot] at hb
    have jok : ∀ (i j h : Nat), i < k → j < k → h < k → (M.Deed.join f i j h : L2.Deed).ok k m := fun i j h h1 h2 h3 => ⟨fun x hx => by
      simp only [M.Deed.bn, List.mem_cons, List.not_mem_nil, or_false] at hx
      rcases hx with rfl | rfl | rfl <;> exact ⟨by (first | (clear hk hb hs h1 h2 h3; lia) | omega), by (first | (clear hk hb hs; omega) | omega)⟩, fun x hx => by simp [M.Deed.sn] at hx⟩
    have lp := l.rk_pos
    have rp := r.rk_pos
    by_cases c : mustT k (.knot f l r) = true
    · simp only [rowInto, if_pos c, List.mem_append, List.mem_cons, List.not_mem_nil, or_false] at hd
      rw [if_pos c] at hs
      rw [must_iff] at c
      rcases hd with ((hd | rfl) | hd) | rfl | rfl
      · exact row_ok k m hk r 0 s (.inl rfl) (by (first | (clear lp rp c hk hb; lia) | omega)) d hd
      · refine ⟨fun x hx => ?_, fun x hx => ?_⟩
        · simp only [M.Deed.bn, List.mem_singleton] at hx; subst hx; exact ⟨by omega, by omega⟩
        · simp only [M.Deed.sn, List.mem_singleton] at hx; subst hx; exact ⟨by (first | (clear lp rp c hk hb hs; lia) | omega), by (first | (clear lp rp c hk hb; lia) | omega)⟩
      · exact row_ok k m hk l 0 (s + 1) (.inl rfl) (by (first | (clear lp rp c hk hb; lia) | omega)) d hd
      · refine ⟨fun x hx => ?_, fun x hx => ?_⟩
        · simp only [M.Deed.bn, List.mem_singleton] at hx; subst hx; exact ⟨by omega, by omega⟩
        · simp only [M.Deed.sn, List.mem_singleton] at hx; subst hx; exact ⟨by (first | lia | omega), by (first | lia | omega)⟩
      · exact jok 0 1 0 (by omega) (by omega) (by omega)
    · rw [if_neg c] at hs
      have c' : ¬ ((k : Int) ≤ l.rk ∧ (k : Int) ≤ r.rk) := fun y => c ((must_iff ..).mpr y)
      by_cases c2 : r.rk ≤ l.rk
      · simp only [rowInto, if_neg c, if_pos c2, List.mem_append, List.mem_cons, List.not_mem_nil, or_false] at hd
        have h1 : b = 0 ∨ l.rk + b ≤ k := by rcases hb with hb | hb; exact .inl hb; exact .inr (by split at hb <;> (first | (clear hk hs lp rp c c' c2 hd; lia) | omega))
        have h2 : r.rk + (b + 1) ≤ k := by rcases hb with hb | hb; (first | (clear hk hs lp rp c hd h1; lia) | omega); (split at hb <;> (first | (clear hk hs lp rp c c' hd h1; lia) | omega))
        rcases hd with (hd | hd) | rfl
        · exact row_ok k m hk l b s h1 (by (first | (clear c c' c2 h1 h2 lp rp hk hb; lia) | omega)) d hd
        · exact row_ok k m hk r (b + 1) s (.inr h2) (by (first | (clear c c' c2 h1 h2 lp rp hk hb; lia) | omega)) d hd
        · exact jok b (b + 1) b (by (first | (clear hk hb hs lp rp c c' c2 h1; lia) | omega)) (by (first | (clear hk hb hs c' c2 h1 lp c; lia) | omega)) (by (first | (clear hk hb hs lp rp c c' c2 h1; lia) | omega))
      · simp only [rowInto, if_neg c, if_neg c2, List.mem_append, List.mem_cons, List.not_mem_nil, or_false] at hd
        have h1 : b = 0 ∨ r.rk + b ≤ k := by rcases hb with hb | hb; exact .inl hb; exact .inr (by split at hb <;> (first | (clear hk hs lp rp c hd c'; lia) | omega))
        have h2 : l.rk + (b + 1) ≤ k := by rcases hb with hb | hb; (first | (clear hk hs lp rp c hd h1; lia) | omega); (split at hb <;> (first | (clear hk hs lp rp c h1 c'; lia) | omega))
        rcases hd with (hd | hd) | rfl
        · exact row_ok k m hk r b s h1 (by (first | lia | omega)) d hd
        · exact row_ok k m hk l (b + 1) s (.inr h2) (by (first | (clear lp rp c c' c2 h1 hk hb h2; lia) | omega)) d hd
        · exact jok (b + 1) b b (by (first | (clear hk hb hs c' c2 h1 rp c; lia) | omega)) (by (first | (clear hk hb hs lp rp c c' c2 h1; lia) | omega)) (by (first | (clear hk hb hs lp rp c c' c2 h1; lia) | omega))
theorem fold_len (row : List L2.Deed) (st : List β × List β) : (row.foldl (M.Deed.go z tk jn) st).1.length = st.1.length ∧ (row.foldl (M.Deed.go z tk jn) st).2.length = st.2.length := M.Deed.rows_len row st
/-- behind it the box has what the tree comes to; boxes and places below are as they were -/
theorem row_run (k m : Nat) (hk : 2 ≤ k) : ∀ (t : L2.Tree) (b s : Nat) (st : List β × List β), st.1.length = k → st.2.length = m → (b = 0 ∨ t.rk + b ≤ k) → s + cM k t ≤ m →
    ((rowInto k t b s).foldl (M.Deed.go z tk jn) st).1.getD b z = Wt tk jn t ∧ (∀ i < b, ((rowInto k t b s).foldl (M.Deed.go z tk jn) st).1.getD i z = st.1.getD i z) ∧ ∀ j < s, ((rowInto k t b s).foldl (M.Deed.go z tk jn) st).2.getD j z = st.2.getD j z
  | .leaf x, b, s, st, l1, l2, hb, hs => by
    have : b < k := by
      rcases hb with rfl | hb
      · (first | (clear l2 hs l1; omega) | omega)
      · simp only [M.Tr.rk] at hb; (first | (clear hk l1 l2 hs; omega) | omega)
    simp only [rowInto, List.foldl_cons, List.foldl_nil, M.Deed.go, M.Deed.set, M.Deed.val, Wt, getD_set, Int.toNat_natCast]
    refine ⟨by rw [if_pos ⟨trivial, by (first | (clear l2 hb hk hs; lia) | omega)⟩], fun i hi => by rw [if_neg (by (first | (clear hk l1 l2 hb hs this; lia) | omega))], fun j hj => trivial⟩
  | .knot f l r, b, s, st, l1, l2, hb, hs => by
    simp only [cM] at hs
    rw [rk_knot] at hb
    have lp := l.rk_pos
    have rp := r.rk_pos
    by_cases c : mustT k (.knot f l r) = true
    · rw [if_pos c] at hs
      have c' := (must_iff ..).mp c
      have b0 : b = 0 := by
        rcases hb with hb | hb
        · exact hb
        · split at hb <;> (first | (clear hk l1 l2 hs lp c; lia) | omega)
      subst b0
      simp only [rowInto, if_pos c, List.foldl_append]
      have r1 := row_run k m hk r 0 s st l1 l2 (.inl rfl) (by (first | (clear rp c c' hb hk l1 l2 lp; lia) | omega))
      have q1 := fold_len (z := z) (tk := tk) (jn := jn) (rowInto k r 0 s) st
      generalize (rowInto k r 0 s).foldl (M.Deed.go z tk jn) st = s1 at r1 q1
      simp only [List.foldl_cons, List.foldl_nil]
      generalize h2 : M.Deed.go z tk jn s1 (.put 0 s) = s2
      have e2 : s2.1 = s1.1 ∧ s2.2 = s1.2.set s (s1.1.getD 0 z) := by rw [← h2]; exact ⟨rfl, rfl⟩
      have r3 := row_run k m hk l 0 (s + 1) s2 (by rw [e2.1]; (first | (clear lp rp c c' e2 l2 hs hb r1 hk h2; lia) | omega)) (by rw [e2.2, List.length_set]; (first | (clear lp rp c c' e2 hk l1 hb r1 hs h2; lia) | omega)) (.inl rfl) (by (first | (clear c' hb r1 q1 h2 e2 lp rp c hk l1 l2; lia) | omega))
      have q3 := fold_len (z := z) (tk := tk) (jn := jn) (rowInto k l 0 (s + 1)) s2
      generalize (rowInto k l 0 (s + 1)).foldl (M.Deed.go z tk jn) s2 = s3 at r3 q3
      rw [e2.1, e2.2, List.length_set] at q3
      have hs3 : s3.2.getD s z = Wt tk jn r := by
        rw [r3.2.2 s (by (first | (clear hb r1 q1 h2 e2 r3 q3 hk l1 l2 hs lp rp c c'; lia) | omega)), e2.2, getD_set, if_pos ⟨rfl, by (first | (clear lp rp c c' e2 r3 q3 hk l1 hb r1 h2; lia) | omega)⟩]; exact r1.1
      simp only [M.Deed.go, M.Deed.set, M.Deed.val, Wt, getD_set, Int.toNat_natCast, List.length_set]
      refine ⟨?_, fun i hi => by (first | (clear hk l1 l2 hs lp rp c c' hb r1 q1 h2 e2 r3 q3 hs3; omega) | omega), fun j hj => ?_⟩
      · rw [if_pos ⟨by decide, by simp; (first | (clear lp rp c c' l2 hs hb r1 e2 r3 h2 hs3; lia) | omega)⟩, if_neg (by simp), if_pos ⟨by decide, by simp; (first | (clear lp rp c c' l2 hs hb r1 e2 r3 h2 hs3; lia) | omega)⟩, hs3]
        have := r3.1
        simp only [Int.toNat_zero] at *
        rw [this]
      · rw [r3.2.2 j (by (first | (clear hk l1 l2 hs lp rp c c' hb r1 q1 h2 e2 r3 q3 hs3; lia) | omega)), e2.2, getD_set, if_neg (by (first | (clear hk l1 l2 hs lp rp c c' hb r1 q1 h2 e2 r3 q3 hs3; lia) | omega))]; exact r1.2.2 j hj
    · rw [if_neg c] at hs
      have c' : ¬ ((k : Int) ≤ l.rk ∧ (k : Int) ≤ r.rk) := fun y => c ((must_iff ..).mpr y)
      by_cases c2 : r.rk ≤ l.rk
      · have h1 : b = 0 ∨ l.rk + b ≤ k := by rcases hb with hb | hb; exact .inl hb; exact .inr (by split at hb <;> (first | (clear hk l1 l2 hs lp c' c; lia) | omega))
        have h2 : r.rk + (b + 1) ≤ k := by rcases hb with hb | hb; (first | (clear hk l1 l2 hs lp rp h1; lia) | omega); (split at hb <;> (first | (clear hk l1 l2 hs lp rp c c' h1; lia) | omega))
        simp only [rowInto, if_neg c, if_pos c2, List.foldl_append]
        have r1 := row_run k m hk l b s st l1 l2 h1 (by (first | (clear rp c c' c2 h1 h2 hk l1 l2 lp hb; lia) | omega))
        have q1 := fold_len (z := z) (tk := tk) (jn := jn) (rowInto k l b s) st
        generalize (rowInto k l b s).foldl (M.Deed.go z tk jn) st = s1 at r1 q1
        have r2 := row_run k m hk r (b + 1) s s1 (by (first | (clear hs lp rp c c' c2 h1 h2 l2 hb hk r1; lia) | omega)) (by (first | (clear hs lp rp c c' c2 h1 h2 hk l1 hb r1; lia) | omega)) (.inr h2) (by (first | (clear c c' c2 h1 h2 r1 q1 hk l1 l2 hb rp lp; lia) | omega))
        have q2 := fold_len (z := z) (tk := tk) (jn := jn) (rowInto k r (b + 1) s) s1
        generalize (rowInto k r (b + 1) s).foldl (M.Deed.go z tk jn) s1 = s2 at r2 q2
        simp only [List.foldl_cons, List.foldl_nil, M.Deed.go, M.Deed.set, M.Deed.val, Wt, getD_set, Int.toNat_natCast]
        refine ⟨?_, fun i hi => ?_, fun j hj => ?_⟩
        · rw [if_pos ⟨trivial, by (first | (clear hs lp rp c l2 hb c' c2 hk h1 r1 r2; lia) | omega)⟩, r2.1, r2.2.1 b (by (first | (clear hk l1 l2 hb hs lp rp c c' c2 h1 h2 r1 q1 r2 q2; lia) | omega)), r1.1]
        · rw [if_neg (by (first | (clear hk l1 l2 hb hs lp rp c c' c2 h1 h2 r1 q1 r2 q2; lia) | omega)), r2.2.1 i (by (first | (clear hk l1 l2 hb hs lp rp c c' c2 h1 h2 r1 q1 r2 q2; lia) | omega))]; exact r1.2.1 i hi
        · rw [r2.2.2 j hj]; exact r1.2.2 j hj
      · have h1 : b = 0 ∨ r.rk + b ≤ k := by rcases hb with hb | hb; exact .inl hb; exact .inr (by split at hb <;> (first | (clear hk l1 l2 hs lp rp c c'; lia) | omega))
        have h2 : l.rk + (b + 1) ≤ k := by rcases hb with hb | hb; (first | (clear hk l1 l2 hs lp rp c h1; lia) | omega); (split at hb <;> (first | (clear hk l1 l2 hs lp rp c c'; lia) | omega))
        simp only [rowInto, if_neg c, if_neg c2, List.foldl_append]
        have r1 := row_run k m hk r b s st l1 l2 h1 (by (first | (clear rp c c' c2 h1 h2 hk l1 l2 lp hb; lia) | omega))
        have q1 := fold_len (z := z) (tk := tk) (jn := jn) (rowInto k r b s) st
        generalize (rowInto k r b s).foldl (M.Deed.go z tk jn) st = s1 at r1 q1
        have r2 := row_run k m hk l (b + 1) s s1 (by (first | (clear hs lp rp c c' c2 h1 h2 l2 hb hk r1; lia) | omega)) (by (first | (clear hs lp rp c c' c2 h1 h2 hk l1 hb r1; lia) | omega)) (.inr h2) (by (first | (clear c c' c2 h1 h2 r1 q1 hk l1 l2 hb rp lp; lia) | omega))
        have q2 := fold_len (z := z) (tk := tk) (jn := jn) (rowInto k l (b + 1) s) s1
        generalize (rowInto k l (b + 1) s).foldl (M.Deed.go z tk jn) s1 = s2 at r2 q2
        simp only [List.foldl_cons, List.foldl_nil, M.Deed.go, M.Deed.set, M.Deed.val, Wt, getD_set, Int.toNat_natCast]
        refine ⟨?_, fun i hi => ?_, fun j hj => ?_⟩
        · rw [if_pos ⟨trivial, by (first | (clear hs lp rp c l2 hb c' c2 hk h1 r1 r2; lia) | omega)⟩, r2.1, r2.2.1 b (by (first | (clear hk l1 l2 hb hs lp rp c c' c2 h1 h2 r1 q1 r2 q2; lia) | omega)), r1.1]
        · rw [if_neg (by (first | (clear hk l1 l2 hb hs lp rp c c' c2 h1 h2 r1 q1 r2 q2; lia) | omega)), r2.2.1 i (by (first | (clear hk l1 l2 hb hs lp rp c c' c2 h1 h2 r1 q1 r2 q2; lia) | omega))]; exact r1.2.1 i hi
        · rw [r2.2.2 j hj]; exact r1.2.2 j hj
end
/-! ### the law's own looks at a deed -/
theorem sl_two {xs : List V} (h : 3 ≤ xs.length) : ¬ (HT.sIx xs.length 0 (some 2) = 0 ∧ HT.sIx xs.length xs.length none = xs.length) := fun z => by
  have := z.1
  rw [show ((2 : Int)) = ((2 : Nat) : Int) from rfl, HT.sIx_nat] at this
  (first | (clear z; lia) | omega)
theorem sl_one {xs : List V} (h : 3 ≤ xs.length) : ¬ (HT.sIx xs.length 0 (some 1) = 0 ∧ HT.sIx xs.length xs.length none = xs.length) := fun z => by
  have := z.1
  rw [show ((1 : Int)) = ((1 : Nat) : Int) from rfl, HT.sIx_nat] at this
  (first | (clear z; lia) | omega)
theorem sl_to {xs : List V} (h : 3 ≤ xs.length) : ¬ (HT.sIx xs.length 0 none = 0 ∧ HT.sIx xs.length xs.length (some 2) = xs.length) := fun z => by
  have := z.2
  rw [show ((2 : Int)) = ((2 : Nat) : Int) from rfl, HT.sIx_nat] at this
  (first | (clear z; lia) | omega)
theorem cut_two {xs : List V} (h : 3 ≤ xs.length) : cutV xs (some 2) none = xs.drop 2 := cutV_from (xs := xs) (p := 2) (by (first | lia | omega))
theorem cut_one {xs : List V} (h : 3 ≤ xs.length) : cutV xs (some 1) none = xs.drop 1 := cutV_from (xs := xs) (p := 1) (by (first | lia | omega))
theorem cut_to2 {xs : List V} (h : 3 ≤ xs.length) : cutV xs none (some 2) = xs.take 2 := cutV_to (xs := xs) (p := 2) (by (first | lia | omega))
noncomputable def spLBox : Sp := fun vs H Q _ => ∃ (d : L2.Deed) (v : V), vs = [v] ∧ Dt H (dDeed d) v ∧ ∀ p H', Same H H' → H' p = some (.lst (d.bn.map V.int)) → Q (.ref p) H'
seal PSs PS PE PT PA PI PIfs in
theorem ok_lbox (T : Txt K mg) : FnOk P w K mg base CX0 1 T.f__law_boxes T.d__law_boxes ["deed"] spLBox := by
  refine T.F__law_boxes.ok (k := 0) sc__law_boxes (fun vs H Q E h => ?_) (fun cdv A outer s H vs Q E hr h => ?_)
  · obtain ⟨d, v, rfl, _⟩ := h
    rfl
  obtain ⟨d, v, rfl, hd, q⟩ := h
  have nd := sc__law_boxes.nd
  obtain ⟨a, rfl, ea⟩ := deed_of hd
  refine ⟨_, (pss_cons (ps_if (pt_cmpR op_eq (pe_ix ixF (pv 0) pe_int (fun _ _ => rfl)) pe_str (nomark _)) (pss_one (ps_ret (pe_lst (pa_cons (pe_ix ixF (pv 0) pe_int (fun _ _ => rfl)) pa_nil)))) pss_nil)
    (pss_one (ps_ret (pe_callTy call_listF rfl T.z_list bt_list (pa_cons (pe_slice sl_tupU (pv 0) (po_some pe_int) po_none) pa_nil))))), ?_⟩
  walk_at "rd"
  have main : ∀ xs : List V, H a = some (.tup xs) → 3 ≤ xs.length → xs.drop 2 = d.bn.map V.int → ∃ x, H a = some (HO.tup x) ∧ (HT.sIx x.length 0 (some 2) = 0 ∧ HT.sIx x.length x.length none = x.length → ∃ x, itemsOf (H a) = some x ∧ NewO H (HO.lst x) Q) ∧ (¬(HT.sIx x.length 0 (some 2) = 0 ∧ HT.sIx x.length x.length none = x.length) → NewO H (HO.tup (cutV x (some 2) none)) fun x H1 => ∃ p, x = V.ref p ∧ ∃ x, itemsOf (H1 p) = some x ∧ NewO H1 (HO.lst x) Q) := by
    intro xs e h e2
    refine ⟨xs, e, fun z => absurd z (sl_two h), fun _ => NewO.mk fun p1 H1 S1 n1 e1 => ⟨p1, rfl, _, items_t e1, NewO.mk fun p2 H2 S2 n2 e3 => q p2 H2 (S1.trans S2) ?_⟩⟩
    rw [e3, cut_two h, e2]
  cases d with
  | take x i => exact ⟨_, items_t ea, _, atI_0, rfl, wF w_tp (main _ ea (by simp [vDeed]) rfl)⟩
  | join f i j l => exact ⟨_, items_t ea, _, atI_0, rfl, wF w_jp (main _ ea (by simp [vDeed]) rfl)⟩
  | put i j => exact ⟨_, items_t ea, _, atI_0, rfl, wT ⟨_, items_t ea, _, atI_1, by decide, NewO.mk fun p1 H1 S1 n1 e1 => q p1 H1 S1 e1⟩⟩
  | fetch j i => exact ⟨_, items_t ea, _, atI_0, rfl, wF w_fp (main _ ea (by simp [vDeed]) rfl)⟩
/-- the deed with the boxes' places in the list for their numbers -/
noncomputable def ledI (L : List Nat) (i : Int) : Int := ((L.findIdx fun n : Nat => decide ((n : Int) = i) : Nat) : Int)
noncomputable def ledD (L : List Nat) : L2.Deed → L2.Deed
  | .take x i => .take x (ledI L i)
  | .join f i j l => .join f (ledI L i) (ledI L j) (ledI L l)
  | .put i s => .put (ledI L i) s
  | .fetch s i => .fetch s (ledI L i)
theorem ledI_at {L : List Nat} {i : Int} (h : ∃ n ∈ L, i = (n : Int)) : (L.map fun n : Nat => (n : Int))[(L.findIdx fun n : Nat => decide ((n : Int) = i))]? = some i ∧ ∀ j : Nat, j < (L.findIdx fun n : Nat => decide ((n : Int) = i)) → (L.map fun n : Nat => (n : Int))[j]? ≠ some i := by
  obtain ⟨n, hn, rfl⟩ := h
  have hlt : (L.findIdx fun m : Nat => decide ((m : Int) = (n : Int))) < L.length := List.findIdx_lt_length_of_exists ⟨n, hn, by simp⟩
  constructor
  · have := List.findIdx_getElem (w := hlt)
    rw [List.getElem?_map, List.getElem?_eq_getElem hlt]
    simpa using this
  · intro j hj e
    have := List.not_of_lt_findIdx hj
    rw [List.getElem?_map, List.getElem?_eq_getElem (by (first | lia | omega))] at e
    simp at e this
    exact this e
theorem natV_int (L : List Nat) : natV L = (L.map fun n : Nat => (n : Int)).map V.int := by unfold natV; rw [List.map_map]; rfl
noncomputable def spLed : Sp := fun vs H Q _ => ∃ (d : L2.Deed) (v : V) (a : Addr) (L : List Nat), vs = [v, .ref a] ∧ Dt H (dDeed d) v ∧ H a = some (.lst (natV L)) ∧ L.length ≤ 100 ∧ (∀ i ∈ d.bn, ∃ n ∈ L, i = (n : Int)) ∧ ∀ p H', Same H H' → Dt H' (dDeed (ledD L d)) (.ref p) → Q (.ref p) H'
seal PSs PS PE PT PA PI PIfs in
theorem ok_led (T : Txt K mg) : FnOk P w K mg base CX0 1 T.f__law_led T.d__law_led ["deed", "used"] spLed := by
  refine T.F__law_led.ok (k := 0) sc__law_led (fun vs H Q E h => ?_) (fun cdv A outer s H vs Q E hr h => ?_)
  · obtain ⟨d, v, a, L, rfl, _⟩ := h
    rfl
  obtain ⟨d, v, aL, L, rfl, hd, eL, l100, hin, q⟩ := h
  have nd := sc__law_led.nd
  obtain ⟨a, rfl, ea⟩ := deed_of hd
  refine ⟨_, (pss_cons (ps_if (pt_cmpR op_eq (pe_ix ixF (pv 0) pe_int (fun _ _ => rfl)) pe_str (nomark _)) (pss_one (ps_ret (pe_tup (pa_cons (pe_ix ixF (pv 0) pe_int (fun _ _ => rfl)) (pa_cons (pe_bm PySem.F.plainAttrs_list PySem.F.slot_list_index PySem.F.type_list_index mt_indexI (pv 1) (pa_cons (pe_ix ixF (pv 0) pe_int (fun _ _ => rfl)) pa_nil)) (pa_cons (pe_ix ixF (pv 0) pe_int (fun _ _ => rfl)) pa_nil)))))) pss_nil)
    (pss_one (ps_ret (pe_op op_catD (pe_slice sl_tupU (pv 0) po_none (po_some pe_int)) (pe_callTy call_tupF rfl T.z_tuple bt_tuple (pa_cons (pe_comp (N := ["n", "used"]) (caps := [1]) rfl ⟨rfl, rfl, rfl, rfl, by decide +kernel, rfl, rfl, rfl, rfl⟩ (piT (pe_slice sl_tupU (pv 0) (po_some pe_int) po_none)) (fun _ _ _ _ => pif_nil) (fun _ _ _ _ => (pe_bmK (K := K) rfl PySem.F.plainAttrs_list PySem.F.slot_list_index PySem.F.type_list_index mt_indexI (pv 1) (pa_cons (pv 0) pa_nil)))) pa_nil)))))), ?_⟩
  walk_at "rd"
  rw [natV_int] at eL
  by_cases cp : ∃ i j, d = .put i j
  · obtain ⟨i, j, rfl⟩ := cp
    obtain ⟨h1, h2⟩ := ledI_at (hin i (by simp [M.Deed.bn]))
    exact ⟨_, items_t ea, _, atI_0, rfl, wT ⟨_, items_t ea, _, atI_0, ty_lst eL, _, items_t ea, _, atI_1, _, i, rfl, eL, _, h1, h2, _, items_t ea, _, atI_2, by decide, NewO.mk fun p1 H1 S1 n1 e1 => q p1 H1 S1 (deed_mk e1)⟩⟩
  have fx : 3 ≤ (vDeed d).length ∧ (vDeed d).length ≤ 5 ∧ (vDeed d).drop 2 = d.bn.map V.int ∧ vDeed (ledD L d) = (vDeed d).take 2 ++ d.bn.map fun i => V.int (ledI L i) := by
    cases d with
    | put i j => exact absurd ⟨i, j, rfl⟩ cp
    | take x i => exact ⟨by simp [vDeed], by simp [vDeed], rfl, rfl⟩
    | join f i j l => exact ⟨by simp [vDeed], by simp [vDeed], rfl, rfl⟩
    | fetch j i => exact ⟨by simp [vDeed], by simp [vDeed], rfl, rfl⟩
  obtain ⟨f3, f5, f2, fv⟩ := fx
  obtain ⟨wd, hw0, hwp⟩ : ∃ wd : Str, atI (vDeed d) 0 = some (.str wd) ∧ (wd == Str.ofString "put") = false := by
    cases d with
    | put i j => exact absurd ⟨i, j, rfl⟩ cp
    | take x i => exact ⟨_, rfl, w_tp⟩
    | join f i j l => exact ⟨_, rfl, w_jp⟩
    | fetch j i => exact ⟨_, rfl, w_fp⟩
  refine ⟨_, items_t ea, _, hw0, rfl, wF hwp ?_⟩
  refine ⟨_, ea, fun z => absurd z (sl_to f3), fun _ => NewO.mk fun p1 H1 S1 n1 e1 => ⟨_, S1 _ _ ea, fun z => absurd z (sl_two f3), fun _ => NewO.mk fun p2 H2 S2 n2 e2 => ?_⟩⟩
  rw [cut_to2 f3] at e1
  rw [cut_two f3, f2] at e2
  have l3 : d.bn.length ≤ 3 := by have := congrArg List.length f2; rw [List.length_map, List.length_drop] at this; (first | (clear eL l100 ea cp hw0 hwp n1 e1 n2 e2 f3 f2 fv; omega) | omega)
  have S12 := S1.trans S2
  refine WalkT.comp e2 (fun i ys H' => ys = (d.bn.take i).map fun i => V.int (ledI L i)) rfl (by rw [List.length_map]; (first | (clear eL l100 ea cp f3 f5 f2 fv hw0 hwp n1 e1 n2 e2; lia) | omega)) (fun i ys H' h => by rw [h]; simp; (first | (clear eL l100 ea cp f3 f5 f2 fv hw0 hwp n1 e1 n2 e2 l3 h; lia) | omega)) (fun i x ys H5 ex S' h => ?_) (fun p ys B1 B2 W1 W2 h n3 g2 => ?_)
  · rw [List.getElem?_map] at ex
    obtain ⟨k, ek, rfl⟩ := Option.map_eq_some_iff.mp ex
    obtain ⟨h1, h2⟩ := ledI_at (hin k (List.mem_of_getElem? ek))
    have eL' := S' _ _ (S12 _ _ eL)
    walk_at "rd"
    refine ⟨ty_lst eL', _, eL', _, h1, h2, S', ?_⟩
    rw [h, List.take_add_one, ek]
    simp [ledI]
  · rw [List.length_map, List.take_length] at h
    refine ⟨p, rfl, _, g2, NewO.mk fun p6 H6 S6 n6 e6 => ⟨p1, rfl, p6, rfl, _, S6 _ _ (W2 _ _ (W1 _ _ (S2 _ _ e1))), _, e6, small_le ?_, fun p7 H7 S7 e7 => q p7 H7 ((((S12.trans W1).trans W2).trans S6).trans S7) (deed_mk ?_)⟩⟩
    · rw [h]; simp; (first | (clear eL l100 ea cp f3 f5 f2 fv hw0 hwp h n3 g2 n6 e6 n1 e1 n2 e2; lia) | omega)
    · rw [e7, fv, h]
noncomputable def kvF : List (Key × V) := [(.inr (Str.ofString "take"), .str (Str.ofString "xb")), (.inr (Str.ofString "join"), .str (Str.ofString "xbbb")), (.inr (Str.ofString "put"), .str (Str.ofString "bs")), (.inr (Str.ofString "fetch"), .str (Str.ofString "sb"))]
noncomputable def wdF : L2.Deed → Str
  | .take _ _ => Str.ofString "take"
  | .join _ _ _ _ => Str.ofString "join"
  | .put _ _ => Str.ofString "put"
  | .fetch _ _ => Str.ofString "fetch"
noncomputable def shF : L2.Deed → Str
  | .take _ _ => Str.ofString "xb"
  | .join _ _ _ _ => Str.ofString "xbbb"
  | .put _ _ => Str.ofString "bs"
  | .fetch _ _ => Str.ofString "sb"
theorem shF_at (d : L2.Deed) : valV (mergeK [] kvF) (.inr (wdF d)) = some (.str (shF d)) := by
  have n1 : ¬ Str.ofString "take" = Str.ofString "join" := by decide +kernel
  have n2 : ¬ Str.ofString "take" = Str.ofString "put" := by decide +kernel
  have n3 : ¬ Str.ofString "take" = Str.ofString "fetch" := by decide +kernel
  have n4 : ¬ Str.ofString "join" = Str.ofString "put" := by decide +kernel
  have n5 : ¬ Str.ofString "join" = Str.ofString "fetch" := by decide +kernel
  have n6 : ¬ Str.ofString "put" = Str.ofString "fetch" := by decide +kernel
  have em : mergeK [] kvF = kvF := by simp [mergeK, putK, kvF, n1, n2, n3, n4, n5, n6]
  rw [em]
  cases d with
  | take x i => simp [kvF, valV, wdF, shF]
  | join f i j l => simp [kvF, valV, wdF, shF, n1]
  | put i j => simp [kvF, valV, wdF, shF, n2, n4]
  | fetch j i => simp [kvF, valV, wdF, shF, n3, n5, n6]
/-- which sort each part is of -/
noncomputable def sgF (m k : Int) : V → Str → Prop := fun v s => (s = Str.ofString "x" ∧ ∃ x, v = .str x) ∨ (s = Str.ofString "b" ∧ ∃ i, v = .int i ∧ 0 ≤ i ∧ i < k) ∨ (s = Str.ofString "s" ∧ ∃ i, v = .int i ∧ 0 ≤ i ∧ i < m)
theorem sgF_all {d : L2.Deed} {k m : Int} (hb : ∀ i ∈ d.bn, 0 ≤ i ∧ i < k) (hs : ∀ i ∈ d.sn, 0 ≤ i ∧ i < m) : ((vDeed d).drop 1).length = (shF d).length ∧ ∀ (i : Nat) (v u : V), ((vDeed d).drop 1)[i]? = some v → (signsV (shF d))[i]? = some u → ∃ s, u = .str s ∧ sgF m k v s := by
  have ex : (⟨#[120]⟩ : Str) = Str.ofString "x" := by decide +kernel
  have eb : (⟨#[98]⟩ : Str) = Str.ofString "b" := by decide +kernel
  have es : (⟨#[115]⟩ : Str) = Str.ofString "s" := by decide +kernel
  have s1 : signsV (Str.ofString "xb") = [.str (Str.ofString "x"), .str (Str.ofString "b")] := by decide +kernel
  have s2 : signsV (Str.ofString "xbbb") = [.str (Str.ofString "x"), .str (Str.ofString "b"), .str (Str.ofString "b"), .str (Str.ofString "b")] := by decide +kernel
  have s3 : signsV (Str.ofString "bs") = [.str (Str.ofString "b"), .str (Str.ofString "s")] := by decide +kernel
  have s4 : signsV (Str.ofString "sb") = [.str (Str.ofString "s"), .str (Str.ofString "b")] := by decide +kernel
  cases d with
  | take x i =>
    refine ⟨by simp only [vDeed, shF, List.drop_succ_cons, List.drop_zero, List.length_cons, List.length_nil]; decide +kernel, fun n v u hv hu => ?_⟩
    simp only [shF, s1] at hu
    have h1 := hb i (by simp [M.Deed.bn])
    match n, hv, hu with
    | 0, hv, hu => cases hv; cases hu; exact ⟨_, rfl, .inl ⟨rfl, _, rfl⟩⟩
    | 1, hv, hu => cases hv; cases hu; exact ⟨_, rfl, .inr (.inl ⟨rfl, _, rfl, h1⟩)⟩
    | n + 2, hv, hu => simp at hu
  | join f i j l =>
    refine ⟨by simp only [vDeed, shF, List.drop_succ_cons, List.drop_zero, List.length_cons, List.length_nil]; decide +kernel, fun n v u hv hu => ?_⟩
    simp only [shF, s2] at hu
    have h1 := hb i (by simp [M.Deed.bn])
    have h2 := hb j (by simp [M.Deed.bn])
    have h3 := hb l (by simp [M.Deed.bn])
    match n, hv, hu with
    | 0, hv, hu => cases hv; cases hu; exact ⟨_, rfl, .inl ⟨rfl, _, rfl⟩⟩
    | 1, hv, hu => cases hv; cases hu; exact ⟨_, rfl, .inr (.inl ⟨rfl, _, rfl, h1⟩)⟩
    | 2, hv, hu => cases hv; cases hu; exact ⟨_, rfl, .inr (.inl ⟨rfl, _, rfl, h2⟩)⟩
    | 3, hv, hu => cases hv; cases hu; exact ⟨_, rfl, .inr (.inl ⟨rfl, _, rfl, h3⟩)⟩
    | n + 4, hv, hu => simp at hu
  | put i j =>
    refine ⟨by simp only [vDeed, shF, List.drop_succ_cons, List.drop_zero, List.length_cons, List.length_nil]; decide +kernel, fun n v u hv hu => ?_⟩
    simp only [shF, s3] at hu
    have h1 := hb i (by simp [M.Deed.bn])
    have h2 := hs j (by simp [M.Deed.sn])
    match n, hv, hu with
    | 0, hv, hu => cases hv; cases hu; exact ⟨_, rfl, .inr (.inl ⟨rfl, _, rfl, h1⟩)⟩
    | 1, hv, hu => cases hv; cases hu; exact ⟨_, rfl, .inr (.inr ⟨rfl, _, rfl, h2⟩)⟩
    | n + 2, hv, hu => simp at hu
  | fetch j i =>
    refine ⟨by simp only [vDeed, shF, List.drop_succ_cons, List.drop_zero, List.length_cons, List.length_nil]; decide +kernel, fun n v u hv hu => ?_⟩
    simp only [shF, s4] at hu
    have h1 := hb i (by simp [M.Deed.bn])
    have h2 := hs j (by simp [M.Deed.sn])
    match n, hv, hu with
    | 0, hv, hu => cases hv; cases hu; exact ⟨_, rfl, .inr (.inr ⟨rfl, _, rfl, h2⟩)⟩
    | 1, hv, hu => cases hv; cases hu; exact ⟨_, rfl, .inr (.inl ⟨rfl, _, rfl, h1⟩)⟩
    | n + 2, hv, hu => simp at hu
noncomputable def spFits : Sp := fun vs H Q _ => ∃ (d : L2.Deed) (v : V) (k m : Int), vs = [v, .int k, .int m] ∧ Dt H (dDeed d) v ∧ (∀ i ∈ d.bn, 0 ≤ i ∧ i < k) ∧ (∀ i ∈ d.sn, 0 ≤ i ∧ i < m) ∧ ∀ H', Same H H' → Q (.bl true) H'
seal PSs PS PE PT PA PI PIfs in
theorem ok_fits (T : Txt K mg) : FnOk P w K mg base CX0 1 T.f__law_fits T.d__law_fits ["deed", "k", "puts_v"] spFits := by
  refine T.F__law_fits.ok (k := 0) sc__law_fits (fun vs H Q E h => ?_) (fun cdv A outer s H vs Q E hr h => ?_)
  · obtain ⟨d, v, k, m, rfl, _⟩ := h
    rfl
  obtain ⟨d, v, k, m, rfl, hd, hb, hs, q⟩ := h
  have nd := sc__law_fits.nd
  obtain ⟨a, rfl, ea⟩ := deed_of hd
  refine ⟨_, (pss_cons (ps_let (i := 3) nd rfl (Or.inl rfl) (pe_disp (pps_cons pe_str pe_str (pps_cons pe_str pe_str (pps_cons pe_str pe_str (pps_cons pe_str pe_str pps_nil)))) rfl rfl (fun h => by cases h) (by decide)))
    (pss_cons (ps_if (PW.pt (pw_or (pt_not (pt_val (pe_callB call_isi rfl T.z_isinstance bt_isinstance (pa_cons (pv 0) (pa_cons (pe_bltn (v := .ty "tuple") rfl T.z_tuple bt_tuple rfl) pa_nil))))) (pw_or (pt_cmpR op_eq (pe_callB lenG rfl T.z_len bt_len (pa_cons (pv 0) pa_nil)) pe_int (nomark _)) (pw_or (pt_cmp (pc_dnotin (hu_of hr) (pe_ix ixF (pv 0) pe_int (fun _ _ => rfl)) (pv 3))) (pw_or1 (pt_cmpR op_ne (pe_callB lenG rfl T.z_len bt_len (pa_cons (pv 0) pa_nil)) (pe_op op_add pe_int (pe_callB call_len_str rfl T.z_len bt_len (pa_cons (pe_dget (hu_of hr) (pv 3) (pe_ix ixF (pv 0) pe_int (fun _ _ => rfl)) (fun _ _ => rfl)) pa_nil))) (nomark _))))))) (pss_one (ps_ret pe_bl)) pss_nil)
    (pss_cons (ps_for PassesOwn.never rfl (pi_zipK (K := K) rfl rfl T.z_zip (pa_cons (pe_slice sl_tupU (pv 0) (po_some pe_int) po_none) (pa_cons (pe_dget (hu_of hr) (pv 3) (pe_ix ixF (pv 0) pe_int (fun _ _ => rfl)) (fun _ _ => rfl)) pa_nil))) (pg_tup rfl (pgs_cons (pg_name (i := 4) nd rfl (Or.inl rfl)) (pgs_cons (pg_name (i := 5) nd rfl (Or.inl rfl)) pgs_nil))) (pss_cons (ps_if (PW.pt (pw_and (pt_cmpR op_eq (pv 5) pe_str (nomark _)) (pw_and1 (pt_not (pt_val (pe_callB call_isi rfl T.z_isinstance bt_isinstance (pa_cons (pv 4) (pa_cons (pe_bltn (v := .ty "str") rfl T.z_str bt_str rfl) pa_nil)))))))) (pss_one (ps_ret pe_bl)) pss_nil)
      (pss_one (ps_if (pt_cmpR op_ne (pv 5) pe_str (nomark _)) (pss_cons (ps_let (i := 6) nd rfl (Or.inl rfl) (pe_dget (hu_of hr) (pe_disp (pps_cons pe_str (pv 1) (pps_cons pe_str (pv 2) pps_nil)) rfl rfl (fun h => by cases h) (by decide)) (pv 5) (fun _ _ => rfl)))
        (pss_one (ps_if (PW.pt (pw_or (pt_not (pt_val (pe_callB call_isi rfl T.z_isinstance bt_isinstance (pa_cons (pv 4) (pa_cons (pe_bltn (v := .ty "int") rfl T.z_int bt_int rfl) pa_nil))))) (pw_or (pt_val (pe_callB call_isi rfl T.z_isinstance bt_isinstance (pa_cons (pv 4) (pa_cons (pe_bltn (v := .ty "bool") rfl T.z_bool bt_bool rfl) pa_nil)))) (pw_or1 (pt_not (pt_chain op_le op_lt pe_int (pv 4) (pv 6))))))) (pss_one (ps_ret pe_bl)) pss_nil))) pss_nil))))
    (pss_one (ps_ret pe_bl))))), ?_⟩
  refine cutC1 fun C hC => ?_
  walk_at "rd"
  refine fun p1 n1 => ⟨upd_same, kvF, rfl, by decide, ?_⟩
  have S1 : Same H (upd (upd H p1 (HO.dK [])) p1 (HO.dK (mergeK [] kvF))) := fun b o e => by
    rw [upd_ne (ne_of_none e n1), upd_ne (ne_of_none e n1)]; exact e
  have g1 := @upd_same (upd H p1 (HO.dK [])) p1 (HO.dK (mergeK [] kvF))
  generalize upd (upd H p1 (HO.dK [])) p1 (HO.dK (mergeK [] kvF)) = H1 at S1 g1
  have ea1 := S1 _ _ ea
  have sv := shF_at d
  obtain ⟨r', hr'⟩ : ∃ r', vDeed d = .str (wdF d) :: r' := by cases d <;> exact ⟨_, rfl⟩
  have f35 : 3 ≤ (vDeed d).length ∧ (vDeed d).length ≤ 5 := by cases d <;> simp [vDeed]
  have a0 : atI (vDeed d) 0 = some (.str (wdF d)) := by rw [hr']; exact atI_0
  have g2 : DGet H1 p1 (V.str (wdF d)) (some (.str (shF d))) := by rw [← sv]; exact DGet.k (k := .inr (wdF d)) g1
  obtain ⟨sl, sg⟩ := sgF_all hb hs
  rw [List.length_drop] at sl
  rw [hC]
  clear hC C
  refine cutC1 fun C hC => ?_
  walk_at "rd"
  have lS : (shF d).length + 1 = (vDeed d).length := by (first | lia | omega)
  refine ⟨_, _, ⟨rfl, rfl⟩, "tuple", .tup ea1, by decide, ?_⟩
  rw [show isiB "tuple" "tuple" = true by decide]
  refine iteF ⟨_, items_t ea1, ?_⟩
  rw [decide_eq_false (show ¬ (((vDeed d).length : Nat) : Int) = 0 by (first | (clear ea n1 g1 ea1 sv hr' f35 a0 sl hC; lia) | omega))]
  refine iteF ⟨_, items_t ea1, _, a0, _, g2, iteF ⟨_, items_t ea1, _, items_t ea1, _, a0, _, g2, ?_⟩⟩
  refine ⟨_, rfl, Nat.le_trans (show (shF d).length ≤ 1000 by (first | lia | omega)) (by decide), ?_⟩
  rw [decide_eq_true (show (((vDeed d).length : Nat) : Int) = 1 + (((shF d).length : Nat) : Int) by (first | (clear ea n1 g1 ea1 sv hr' f35 a0 sl hC; lia) | omega))]
  refine iteF ?_
  rw [hC]
  clear hC C
  refine cutC1 fun C hC => ?_
  walk_at "rd"
  refine ⟨_, ea1, fun z => absurd z (sl_one f35.1), fun _ => NewO.mk fun p2 H2 S2 n2 e2 => ⟨_, items_t (S2 _ _ ea1), _, a0, .str (shF d), by rw [← sv]; exact DGet.k (k := .inr (wdF d)) (S2 _ _ g1), _, _, ⟨rfl, rfl⟩, ?_⟩⟩
  rw [cut_one f35.1] at e2
  have lsg : (signsV (shF d)).length = (shF d).length := by simp [signsV, Str.length]
  obtain ⟨Pw, hPw⟩ : ∃ Pw : Nat → St → Hp → Prop, ∀ i σ H', Pw i σ H' ↔ Same H2 H' ∧ ∃ o4 o5 o6 : Option V, σ = [some (V.ref a), some (V.int k), some (V.int m), some (V.ref p1), o4, o5, o6] := ⟨_, fun _ _ _ => Iff.rfl⟩
  refine WalkK.for (p := .t p2) (q := .s (shF d)) (xs := (vDeed d).drop 1) (ys := signsV (shF d)) (SqT.of e2) rfl (by rw [lsg, List.length_drop]; omega) Pw ((hPw _ _ _).mpr ⟨Same.refl _, none, none, none, rfl⟩) (fun j σ H'' _ h => ⟨SqT.of (((hPw _ _ _).mp h).1 _ _ e2), rfl⟩) ?_ ?_
  · intro j v1 v2 σ A1 pT A2 ev1 ev2 h SA nT eT
    obtain ⟨U1, o4, o5, o6, rfl⟩ := (hPw _ _ _).mp h
    obtain ⟨sg0, rfl, sgv⟩ := sg j v1 v2 ev1 ev2
    have SU := U1.trans SA
    walk_at "rd"
    refine ⟨_, SqT.of eT, rfl, _, _, rfl, _, _, rfl, rfl, ?_⟩
    have ebs : ¬ Str.ofString "b" = Str.ofString "s" := by decide +kernel
    rcases sgv with ⟨rfl, x, rfl⟩ | sgv
    · rw [decide_eq_true (rfl : V.str (Str.ofString "x") = V.str (Str.ofString "x"))]
      refine ⟨rfl, iteT ⟨_, _, ⟨rfl, rfl⟩, "str", .str _, by decide, ?_⟩⟩
      rw [show isiB "str" "str" = true by decide]
      exact iteF ⟨rfl, iteF ((hPw _ _ _).mpr ⟨SU, _, _, _, rfl⟩)⟩
    · obtain ⟨n, sz, ne, rfl, h0, h1, hv⟩ : ∃ n sz : Int, ¬ sg0 = Str.ofString "x" ∧ v1 = .int n ∧ 0 ≤ n ∧ n < sz ∧ valV (mergeK [] [((.inr (Str.ofString "b") : Key), V.int k), (.inr (Str.ofString "s"), .int m)]) (.inr sg0) = some (.int sz) := by
        rcases sgv with ⟨rfl, n, rfl, h0, h1⟩ | ⟨rfl, n, rfl, h0, h1⟩
        · exact ⟨n, k, by decide +kernel, rfl, h0, h1, by simp [mergeK, putK, valV, ebs]⟩
        · exact ⟨n, m, by decide +kernel, rfl, h0, h1, by simp [mergeK, putK, valV, ebs]⟩
      rw [decide_eq_false (fun z : V.str sg0 = V.str (Str.ofString "x") => ne (V.str.inj z))]
      refine ⟨rfl, iteF ⟨rfl, iteT fun p3 n3 => ⟨upd_same, [(.inr (Str.ofString "b"), .int k), (.inr (Str.ofString "s"), .int m)], rfl, by simp, ?_⟩⟩⟩
      have S3 : Same A2 (upd (upd A2 p3 (HO.dK [])) p3 (HO.dK (mergeK [] [(.inr (Str.ofString "b"), V.int k), (.inr (Str.ofString "s"), .int m)]))) := fun b o e => by
        rw [upd_ne (ne_of_none e n3), upd_ne (ne_of_none e n3)]; exact e
      have g3 := @upd_same (upd A2 p3 (HO.dK [])) p3 (HO.dK (mergeK [] [(.inr (Str.ofString "b"), V.int k), (.inr (Str.ofString "s"), .int m)]))
      generalize upd (upd A2 p3 (HO.dK [])) p3 (HO.dK (mergeK [] [(.inr (Str.ofString "b"), V.int k), (.inr (Str.ofString "s"), .int m)])) = A3 at S3 g3
      refine ⟨.int sz, by rw [← hv]; exact DGet.k (k := .inr sg0) g3, _, _, ⟨rfl, rfl⟩, "int", .int _, by decide, ?_⟩
      rw [show isiB "int" "int" = true by decide]
      refine iteF ⟨_, _, ⟨rfl, rfl⟩, "int", .int _, by decide, ?_⟩
      rw [show isiB "int" "bool" = false by decide]
      refine iteF ⟨_, rfl, ?_⟩
      rw [decide_eq_true h0]
      refine iteT ⟨_, rfl, sz, rfl, ?_⟩
      rw [decide_eq_true h1]
      exact iteF ((hPw _ _ _).mpr ⟨SU.trans S3, _, _, _, rfl⟩)
  · intro σ H' h
    obtain ⟨U1, o4, o5, o6, rfl⟩ := (hPw _ _ _).mp h
    dsimp only
    rw [hC]
    walk_at "rd"
    exact q H' ((S1.trans S2).trans U1)
/-! ### the told row in boxes that are numbered anew -/
theorem row_num (k : Int) : ∀ (t : L2.Tree) (b s : Nat) (d : L2.Deed), d ∈ rowInto k t b s → ∀ i ∈ d.bn, 0 ≤ i ∧ i < (b : Int) + t.rk
  | .leaf x, b, s, d, hd, i, hi => by
    simp only [rowInto, List.mem_singleton] at hd
    subst hd
    simp only [M.Deed.bn, List.mem_singleton] at hi
    subst hi
    simp only [M.Tr.rk]; (first | lia | omega)
  | .knot f l r, b, s, d, hd, i, hi => by
    have lp := l.rk_pos
    have rp := r.rk_pos
    have e := rk_knot f l r
    have e1 : l.rk ≤ (M.Tr.knot f l r).rk ∧ r.rk ≤ (M.Tr.knot f l r).rk ∧ 2 ≤ (M.Tr.knot f l r).rk := by rw [e]; split <;> (first | lia | omega)
    simp only [rowInto] at hd
    split at hd
    · simp only [List.mem_append, List.mem_cons, List.not_mem_nil, or_false] at hd
      rcases hd with ((hd | hd) | hd) | hd | hd
      · have := row_num k r 0 s d hd i hi; (first | (clear lp rp e; lia) | omega)
      · subst hd; simp only [M.Deed.bn, List.mem_singleton] at hi; (first | (clear lp rp e; lia) | omega)
      · have := row_num k l 0 (s + 1) d hd i hi; (first | (clear lp rp e; lia) | omega)
      · subst hd; simp only [M.Deed.bn, List.mem_singleton] at hi; (first | (clear lp rp e; lia) | omega)
      · subst hd; simp only [M.Deed.bn, List.mem_cons, List.not_mem_nil, or_false] at hi; (first | (clear lp rp e; lia) | omega)
    · split at hd
      · rename_i c
        have e2 : r.rk + 1 ≤ (M.Tr.knot f l r).rk := by rw [e]; split <;> (first | lia | omega)
        simp only [List.mem_append, List.mem_singleton] at hd
        rcases hd with (hd | hd) | hd
        · have := row_num k l b s d hd i hi; (first | (clear e e2; lia) | omega)
        · have := row_num k r (b + 1) s d hd i hi; (first | (clear lp rp e e1 c; lia) | omega)
        · subst hd; simp only [M.Deed.bn, List.mem_cons, List.not_mem_nil, or_false] at hi; (first | (clear e e1; lia) | omega)
      · rename_i c
        have e2 : l.rk + 1 ≤ (M.Tr.knot f l r).rk := by rw [e]; split <;> (first | (clear e1 e; lia) | omega)
        simp only [List.mem_append, List.mem_singleton] at hd
        rcases hd with (hd | hd) | hd
        · have := row_num k r b s d hd i hi; (first | (clear lp rp c e2 e; lia) | omega)
        · have := row_num k l (b + 1) s d hd i hi; (first | (clear lp rp e e1 c; lia) | omega)
        · subst hd; simp only [M.Deed.bn, List.mem_cons, List.not_mem_nil, or_false] at hi; (first | (clear e e1 c; lia) | omega)
theorem rk_pow : ∀ t : L2.Tree, 2 ^ t.rk ≤ 2 * t.lv.length
  | .leaf x => by simp [M.Tr.rk, M.Tr.lv]
  | .knot f l r => by
    have h1 := rk_pow l
    have h2 := rk_pow r
    rw [rk_knot]
    simp only [M.Tr.lv, List.length_append]
    split
    · rename_i c
      rw [Nat.pow_succ]
      rw [← c] at h2
      (first | lia | omega)
    · by_cases c : l.rk ≤ r.rk
      · rw [Nat.max_eq_right c]; (first | (clear c h1; lia) | omega)
      · rw [Nat.max_eq_left (by (first | (clear h1 h2; lia) | omega))]; (first | (clear c h2; lia) | omega)
theorem rk_six {t : L2.Tree} (h : t.lv.length ≤ 32) : t.rk ≤ 6 := by
  have h1 := rk_pow t
  by_cases c : t.rk ≤ 6
  · exact c
  · have : 2 ^ 7 ≤ 2 ^ t.rk := Nat.pow_le_pow_right (by decide) (by (first | lia | omega))
    (first | lia | omega)
theorem few_two {t : L2.Tree} {k : Int} (nf : ¬ few t k) : ∃ k' : Nat, 2 ≤ k' ∧ rowInto k t 0 0 = rowInto (k' : Int) t 0 0 ∧ cM k t = cM (k' : Int) t ∧ ((k' : Int) = k ∨ ∃ x, k = 1 ∧ t = .leaf x) := by
  have h1 : 1 ≤ k := Int.not_lt.mp fun z => nf (.inl z)
  by_cases c : k = 1
  · subst c
    cases t with
    | leaf x => exact ⟨2, by decide, rfl, rfl, .inr ⟨x, rfl, rfl⟩⟩
    | knot f l r =>
      refine absurd (.inr ⟨rfl, ?_⟩) nf
      have := nK_lv (M.Tr.knot f l r)
      simp only [M.Tr.lv, List.length_append] at this
      have a1 := l.lv_pos
      have a2 := r.lv_pos
      (first | lia | omega)
  · exact ⟨k.toNat, by (first | lia | omega), by rw [Int.toNat_of_nonneg (by (first | lia | omega))], by rw [Int.toNat_of_nonneg (by (first | lia | omega))], .inl (by (first | lia | omega))⟩
theorem row_fits {t : L2.Tree} {k : Int} (nf : ¬ few t k) : ∀ d ∈ rowInto k t 0 0, (∀ i ∈ d.bn, 0 ≤ i ∧ i < k) ∧ ∀ i ∈ d.sn, 0 ≤ i ∧ i < (cM k t : Nat) := by
  obtain ⟨k', h2, e1, e2, hk⟩ := few_two nf
  intro d hd
  rcases hk with hk | ⟨x, rfl, rfl⟩
  · subst hk
    have := row_ok k' (cM k' t) h2 t 0 0 (.inl rfl) (by (first | lia | omega)) d hd
    exact ⟨fun i hi => this.1 i hi, fun i hi => this.2 i hi⟩
  · simp only [rowInto, List.mem_singleton] at hd
    subst hd
    exact ⟨fun i hi => by simp only [M.Deed.bn, List.mem_singleton] at hi; (first | (clear h2 nf e1 e2; lia) | omega), fun i hi => by simp [M.Deed.sn] at hi⟩
theorem ledI_in {L : List Nat} {i : Int} (h : ∃ n ∈ L, i = (n : Int)) : ∃ n : Nat, ledI L i = (n : Int) ∧ L[n]? = some i.toNat := by
  obtain ⟨h1, _⟩ := ledI_at h
  refine ⟨_, rfl, ?_⟩
  rw [List.getElem?_map] at h1
  obtain ⟨x, hx, e⟩ := Option.map_eq_some_iff.mp h1
  rw [hx, ← e]; simp
section
variable {β : Type} {z : β} {tk : Str → β} {jn : Str → β → β → β}
structure Sim (z : β) (L : List Nat) (st st' : List β × List β) : Prop where
  len : st'.1.length = L.length
  sh : st'.2 = st.2
  bx : ∀ n x, L[n]? = some x → st'.1.getD n z = st.1.getD x z
  lt : ∀ x ∈ L, x < st.1.length
theorem Sim.rd {L : List Nat} {st st' : List β × List β} (S : Sim z L st st') {i : Int} (h : ∃ n ∈ L, i = (n : Int)) : st'.1.getD (ledI L i).toNat z = st.1.getD i.toNat z := by
  obtain ⟨n, e, hn⟩ := ledI_in h
  rw [e, Int.toNat_natCast]
  exact S.bx n _ hn
theorem Sim.wr {L : List Nat} {st st' : List β × List β} (S : Sim z L st st') (ha : asc L) {i : Int} (h : ∃ n ∈ L, i = (n : Int)) (v : β) (w : List β) : Sim z L (st.1.set i.toNat v, w) (st'.1.set (ledI L i).toNat v, w) := by
  obtain ⟨m, e, hm⟩ := ledI_in h
  rw [e, Int.toNat_natCast]
  have lm : m < L.length := (List.getElem?_eq_some_iff.mp hm).1
  refine ⟨by rw [List.length_set]; exact S.len, rfl, fun n x hx => ?_, fun x hx => by rw [List.length_set]; exact S.lt x hx⟩
  rw [getD_set, getD_set]
  have li : i.toNat < st.1.length := S.lt _ (List.mem_of_getElem? hm)
  by_cases c : n = m
  · subst c
    rw [hx] at hm
    cases hm
    rw [if_pos ⟨rfl, by rw [S.len]; exact lm⟩, if_pos ⟨rfl, li⟩]
  · have c2 : x ≠ i.toNat := fun y => by
      obtain ⟨a1, b1⟩ := List.getElem?_eq_some_iff.mp hx
      obtain ⟨a2, b2⟩ := List.getElem?_eq_some_iff.mp hm
      rcases Nat.lt_or_gt_of_ne c with d | d
      · have := List.pairwise_iff_getElem.mp ha.1 n m a1 a2 d; (first | (clear h e hm lm hx li c d; lia) | omega)
      · have := List.pairwise_iff_getElem.mp ha.1 m n a2 a1 d; (first | (clear h e hm lm hx li c d; lia) | omega)
    rw [if_neg fun y => c y.1, if_neg fun y => c2 y.1]
    exact S.bx n x hx
theorem Sim.go {L : List Nat} {st st' : List β × List β} (S : Sim z L st st') (ha : asc L) {d : L2.Deed} (h : ∀ i ∈ d.bn, ∃ n ∈ L, i = (n : Int)) : Sim z L (M.Deed.go z tk jn st d) (M.Deed.go z tk jn st' (ledD L d)) := by
  cases d with
  | take x i =>
    have := S.wr ha (h i (by simp [M.Deed.bn])) (tk x) st.2
    simp only [M.Deed.go, M.Deed.set, M.Deed.val, ledD]
    rw [S.sh]; exact this
  | join f i j l =>
    have := S.wr ha (h l (by simp [M.Deed.bn])) (jn f (st.1.getD i.toNat z) (st.1.getD j.toNat z)) st.2
    simp only [M.Deed.go, M.Deed.set, M.Deed.val, ledD]
    rw [S.sh, S.rd (h i (by simp [M.Deed.bn])), S.rd (h j (by simp [M.Deed.bn]))]; exact this
  | put i s =>
    simp only [M.Deed.go, M.Deed.set, M.Deed.val, ledD]
    rw [S.sh, S.rd (h i (by simp [M.Deed.bn]))]
    exact ⟨S.len, rfl, S.bx, S.lt⟩
  | fetch s i =>
    have := S.wr ha (h i (by simp [M.Deed.bn])) (st.2.getD s.toNat z) st.2
    simp only [M.Deed.go, M.Deed.set, M.Deed.val, ledD]
    rw [S.sh]; exact this
theorem Sim.row {L : List Nat} (ha : asc L) : ∀ (row : List L2.Deed) (st st' : List β × List β), Sim z L st st' → (∀ d ∈ row, ∀ i ∈ d.bn, ∃ n ∈ L, i = (n : Int)) → Sim z L (row.foldl (M.Deed.go z tk jn) st) ((row.map (ledD L)).foldl (M.Deed.go z tk jn) st')
  | [], st, st', S, _ => S
  | d :: row, st, st', S, h => by
    simp only [List.foldl_cons, List.map_cons]
    exact Sim.row ha row _ _ (S.go ha (h d (by simp))) fun e he => h e (by simp [he])
end
theorem wt_at {t : L2.Tree} (nd : t.lv.Nodup) : ∀ (u : L2.Tree) (p : List Nat), t.sub p = some u → Wt (fun x => M.firstOf x (t.wk [])) (M.over t) u = some p
  | .leaf x, p, h => by
    have hm := M.sub_wk t [] p _ h
    have e := M.Tr.wk_lv t []
    exact M.firstOf_some (by rw [e]; exact nd) (by simpa using hm)
  | .knot f l r, p, h => by
    have h0 : t.sub (p ++ [0]) = some l := by rw [M.Tr.sub_app, h]; simp [M.Tr.sub]
    have h1 : t.sub (p ++ [1]) = some r := by rw [M.Tr.sub_app, h]; simp [M.Tr.sub]
    show M.over t f (Wt _ _ l) (Wt _ _ r) = some p
    rw [wt_at nd l _ h0, wt_at nd r _ h1]
    have hd : (p ++ [0]).dropLast = p := by simp
    have hk : M.knotAt t f p = true := by unfold M.knotAt; rw [h]; simp
    simp only [M.over, hd]
    rw [if_pos ⟨trivial, trivial, hk⟩]
/-- behind the row, in boxes numbered anew, the first holds the formula -/
theorem led_held {t : L2.Tree} (nd : t.lv.Nodup) {k : Int} (nf : ¬ few t k) {L : List Nat} (ha : asc L) (h0 : 0 ∈ L) (hL : ∀ d ∈ rowInto k t 0 0, ∀ i ∈ d.bn, ∃ n ∈ L, i = (n : Int)) (hL2 : ∀ x ∈ L, x = 0 ∨ ∃ d ∈ rowInto k t 0 0, (x : Int) ∈ d.bn) :
    (((rowInto k t 0 0).map (ledD L)).foldl (M.mark t) (List.replicate L.length none, List.replicate (cM k t) none)).1.getD 0 none = some [] := by
  obtain ⟨k', h2, e1, e2, hk⟩ := few_two nf
  have run := (row_run (z := none) (tk := fun x => M.firstOf x (t.wk [])) (jn := M.over t) k' (cM k t) h2 t 0 0 (List.replicate k' none, List.replicate (cM k t) none) (by simp) (by simp) (.inl rfl) (by (first | lia | omega))).1
  have hs : t.sub [] = some t := by cases t <;> rfl
  rw [wt_at nd t [] hs, ← e1] at run
  have ok := row_ok k' (cM k t) h2 t 0 0 (.inl rfl) (by (first | lia | omega))
  have rep : ∀ (n i : Nat), (List.replicate n (none : Option (List Nat))).getD i none = none := fun n i => by
    rw [List.getD_eq_getElem?_getD, List.getElem?_replicate]; split <;> rfl
  have S0 : Sim (none : Option (List Nat)) L (List.replicate k' none, List.replicate (cM k t) none) (List.replicate L.length none, List.replicate (cM k t) none) := by
    refine ⟨by simp, rfl, fun n x _ => by rw [rep, rep], fun x hx => ?_⟩
    rw [List.length_replicate]
    rcases hL2 x hx with rfl | ⟨d, hd, hi⟩
    · omega
    · rw [e1] at hd
      have := ((ok d hd).1 _ hi).2
      omega
  have S := Sim.row (tk := fun x => M.firstOf x (t.wk [])) (jn := M.over t) ha (rowInto k t 0 0) _ _ S0 hL
  obtain ⟨r, rfl⟩ : ∃ r, L = 0 :: r := by
    cases L with
    | nil => simp at h0
    | cons a r =>
      rcases List.mem_cons.mp h0 with e | e
      · exact ⟨r, by rw [e]⟩
      · have := (List.pairwise_cons.mp ha.1).1 0 e; (first | (clear nf h2 e1 e2 hk run hs; lia) | omega)
  exact (S.bx 0 0 rfl).trans run
/-! ### the law -/
theorem flat_rep {β : Type} (x : β) (n : Nat) : (List.replicate n [x]).flatten = List.replicate n x := by
  induction n with
  | zero => rfl
  | succ n ih => rw [List.replicate_succ, List.flatten_cons, ih]; rfl
theorem dts_none {H : Hp} : ∀ n : Nat, Dts H ((List.replicate n (none : Option (List Nat))).map dO) (List.replicate n .non)
  | 0 => .nil
  | n + 1 => .cons (isD_non.mpr rfl) (dts_none n)
noncomputable def spLaw (K : PySem.W.Frag) : Sp := fun vs H Q _ => ∃ (a : Addr) (ns : List Int), vs = [.ref a] ∧ SqL K H a (ns.map V.int) ∧ ns.length ≤ 63 ∧ ∀ H', Q (.bl true) H'
seal PSs PS PE PT PA PI PIfs in
theorem ok_law (T : Txt K mg) : FnOk P w K mg base (CXE P w) 60 T.f_law T.d_law ["script"] (spLaw K) := by
  refine T.F_law.okE (k := 59) sc_law (fun vs H Q E h => ?_) (fun cdv A outer s H vs Q E hr h L => ?_)
  · obtain ⟨a, ns, rfl, _⟩ := h
    rfl
  obtain ⟨a, ns, rfl, hS, h63, q⟩ := h
  have nd := sc_law.nd
  have G__law_at := (ok_at (P := P) (w := w) (base := base) T).mono (k := 59) (by omega)
  have G__law_many := (ok_many (P := P) (w := w) (base := base) T).mono (k := 59) (by omega)
  have G__law_tree := (ok_tree (P := P) (w := w) (base := base) T).mono (k := 59) (by omega)
  have G__law_ranks := (ok_ranks (P := P) (w := w) (base := base) T 24).mono (k := 59) (by omega)
  have G__law_knots := (ok_knots (P := P) (w := w) (base := base) T 24).mono (k := 59) (by omega)
  have G__law_marked := (ok_lmark (P := P) (w := w) (base := base) T).mono (k := 59) (by omega)
  have G__law_fits := (ok_fits (P := P) (w := w) (base := base) T).mono (k := 59) (by omega)
  have G__law_boxes := (ok_lbox (P := P) (w := w) (base := base) T).mono (k := 59) (by omega)
  have G__law_led := (ok_led (P := P) (w := w) (base := base) T).mono (k := 59) (by omega)
  have G_row_for := (ok_for (P := P) (w := w) (base := base) T).mono (k := 59) (by omega)
  refine ⟨_, (pss_cons (ps_let (i := 1) nd rfl (Or.inl rfl) (pe_call G__law_tree hr rfl T.m__law_tree T.F__law_tree.kp T.b__law_tree .nil pass0 (pa_cons (pv 0) (pa_cons pe_int (pa_cons (pe_call G__law_many hr rfl T.m__law_many T.F__law_many.kp T.b__law_many .nil pass0 (pa_cons (pv 0) pa_nil)) pa_nil)))))
    (pss_cons (ps_let (i := 2) nd rfl (Or.inr rfl) (pe_op op_add pe_int (pe_op op_mod (pe_op op_fdiv (pe_call G__law_at hr rfl T.m__law_at T.F__law_at.kp T.b__law_at .nil pass0 (pa_cons (pv 0) (pa_cons pe_int pa_nil))) pe_int) pe_int)))
    (pss_cons (ps_if (pt_cmpR op_eq (pe_op op_mod (pe_call G__law_at hr rfl T.m__law_at T.F__law_at.kp T.b__law_at .nil pass0 (pa_cons (pv 0) (pa_cons pe_int pa_nil))) pe_int) pe_int (nomark _)) (pss_one (ps_let (i := 2) nd rfl (Or.inr rfl) (pe_op op_add (pe_op op_mod (pe_op op_fdiv (pe_call G__law_at hr rfl T.m__law_at T.F__law_at.kp T.b__law_at .nil pass0 (pa_cons (pv 0) (pa_cons pe_int pa_nil))) pe_int) (pe_op op_pow pe_int pe_int)) (pe_ix ixF (pe_lst (pa_cons (pe_op op_sub pe_int (pe_op op_pow pe_int pe_int)) (pa_cons pe_int pa_nil))) (pe_op op_mod (pe_op op_fdiv (pe_call G__law_at hr rfl T.m__law_at T.F__law_at.kp T.b__law_at .nil pass0 (pa_cons (pv 0) (pa_cons pe_int pa_nil))) pe_int) pe_int) (fun _ _ => rfl))))) pss_nil)
    (pss_cons (ps_if (pt_cmpR op_eq (pe_op op_mod (pe_call G__law_at hr rfl T.m__law_at T.F__law_at.kp T.b__law_at .nil pass0 (pa_cons (pv 0) (pa_cons pe_int pa_nil))) pe_int) pe_int (nomark _)) (pss_one (ps_let (i := 2) nd rfl (Or.inr rfl) (pe_op op_sub (pv 2) pe_int))) pss_nil)
    (pss_cons (ps_let (i := 3) nd rfl (Or.inl rfl) (pe_lst pa_nil))
    (pss_cons (ps_let (i := 4) nd rfl (Or.inl rfl) pe_bl)
    (pss_cons (ps_tryE (J := fun σ0 σ1 => σ1 = σ0) rfl rfl rfl T.m_TooFew T.x_TooFew (fun _ _ _ => (pss_one (ps_let (i := 3) nd rfl (Or.inl rfl) (pe_callJ G_row_for hr rfl T.m_row_for T.F_row_for.kp T.b_row_for .nil passJ (pa_cons (pv 1) (pa_cons (pv 2) pa_nil)))))) (fun _ => (pss_one (ps_let (i := 4) nd rfl (Or.inl rfl) pe_bl))))
    (pss_cons (ps_if (PW.pt (pw_or (pt_cmpR op_lt (pv 2) pe_int (nomark _)) (pw_or1 (PW.pt (pw_and (pt_cmpR op_eq (pv 2) pe_int (nomark _)) (pw_and1 (pt_cmpR op_eq (pe_ix ixF (pv 1) pe_int (fun _ _ => rfl)) pe_str (nomark _)))))))) (pss_one (ps_ret (pv 4))) pss_nil)
    (pss_cons (ps_if (PW.pt (pw_or (pt_val (pv 4)) (pw_or1 (pt_not (pt_val (pe_callB call_isi rfl T.z_isinstance bt_isinstance (pa_cons (pv 3) (pa_cons (pe_bltn (v := .ty "list") rfl T.z_list bt_list rfl) pa_nil)))))))) (pss_one (ps_ret pe_bl)) pss_nil)
    (pss_cons (ps_expr (pe_bm PySem.F.plainAttrs_list PySem.F.slot_list_append PySem.F.type_list_append mt_append (pe_call G_row_for hr rfl T.m_row_for T.F_row_for.kp T.b_row_for .nil (passE L) (pa_cons (pv 1) (pa_cons (pv 2) pa_nil))) (pa_cons (pe_tup (pa_cons pe_str (pa_cons pe_str (pa_cons pe_int pa_nil)))) pa_nil)))
    (pss_cons (ps_if (pt_cmpR (op_neD hr) (pv 3) (pe_call G_row_for hr rfl T.m_row_for T.F_row_for.kp T.b_row_for .nil (passE L) (pa_cons (pv 1) (pa_cons (pv 2) pa_nil))) (nomark _)) (pss_one (ps_ret pe_bl)) pss_nil)
    (pss_cons (ps_let (i := 5) nd rfl (Or.inl rfl) (pe_call G__law_knots hr rfl T.m__law_knots T.F__law_knots.kp T.b__law_knots .nil pass0 (pa_cons (pv 1) (pa_cons (pe_tup pa_nil) pa_nil))))
    (pss_cons (ps_let (i := 6) nd rfl (Or.inl rfl) (pe_callB lenG rfl T.z_len bt_len (pa_cons (pe_comp (N := ["one", "k"]) (caps := [2]) rfl ⟨rfl, rfl, rfl, rfl, by decide +kernel, rfl, rfl, rfl, rfl⟩ (piL (pe_call G__law_ranks hr rfl T.m__law_ranks T.F__law_ranks.kp T.b__law_ranks .nil pass0 (pa_cons (pv 1) (pa_cons (pe_tup pa_nil) pa_nil)))) (fun _ _ _ _ => pif_one (PW.pt (pw_and (pt_val (pe_ix ixF (pv 0) pe_int (fun _ _ => rfl))) (pw_and1 (pt_cmpR op_ge (pe_ix ixF (pv 0) pe_int (fun _ _ => rfl)) (pv 1) (nomark _)))))) (fun _ _ _ _ => (pv 0))) pa_nil)))
    (pss_cons (ps_let (i := 7) nd rfl (Or.inl rfl) (pe_lst (pa_cons pe_int pa_nil)))
    (pss_cons (ps_for PassesOwn.leaving rfl (piL (pv 3)) (pg_name (i := 8) nd rfl (Or.inl rfl)) (pss_cons (ps_if (pt_not (pt_val (pe_call G__law_fits hr rfl T.m__law_fits T.F__law_fits.kp T.b__law_fits .nil pass0 (pa_cons (pv 8) (pa_cons (pv 2) (pa_cons (pv 6) pa_nil)))))) (pss_one (ps_ret pe_bl)) pss_nil)
      (pss_one (ps_let (i := 7) nd rfl (Or.inl rfl) (pe_op op_cat (pv 7) (pe_call G__law_boxes hr rfl T.m__law_boxes T.F__law_boxes.kp T.b__law_boxes .nil pass0 (pa_cons (pv 8) pa_nil)))))))
    (pss_cons (ps_let (i := 7) nd rfl (Or.inl rfl) (pe_sortS rfl rfl T.z_sorted rfl T.z_set (pv 7)))
    (pss_cons (ps_let (i := 9) nd rfl (Or.inl rfl) (pe_op op_rep (pe_lst (pa_cons pe_non pa_nil)) (pe_callB lenG rfl T.z_len bt_len (pa_cons (pv 7) pa_nil))))
    (pss_cons (ps_let (i := 10) nd rfl (Or.inl rfl) (pe_op op_rep (pe_lst (pa_cons pe_non pa_nil)) (pv 6)))
    (pss_cons (ps_for PassesOwn.leaving rfl (piL (pv 3)) (pg_name (i := 8) nd rfl (Or.inl rfl)) (pss_one (ps_asg (pe_call G__law_marked hr rfl T.m__law_marked T.F__law_marked.kp T.b__law_marked .nil pass0 (pa_cons (pv 5) (pa_cons (pe_call G__law_led hr rfl T.m__law_led T.F__law_led.kp T.b__law_led .nil pass0 (pa_cons (pv 8) (pa_cons (pv 7) pa_nil))) (pa_cons (pv 9) (pa_cons (pv 10) pa_nil))))) (pg_tup rfl (pgs_cons (pg_name (i := 9) nd rfl (Or.inl rfl)) (pgs_cons (pg_name (i := 10) nd rfl (Or.inl rfl)) pgs_nil))))))
    (pss_one (ps_ret (pe_cmpR (op_eqD hr) (pe_ix ixF (pv 9) pe_int (fun _ _ => rfl)) (pe_tup pa_nil) (nomark _))))))))))))))))))))))), ?_⟩
  refine cutC2 fun C hC => ?_
  walk_at "rd"
  refine ⟨a, ns, rfl, hS, h63, fun many H1 hm1 hm S1 hmn => ?_⟩
  refine ⟨a, ns, 1, many, rfl, S1.seq hS, h63, by decide, hm1, hm, fun t c c' v H2 S2 ht tr cc => ?_⟩
  have hd := tr.dp
  have hlen := tr.len
  have nodup := tr.nodup hm
  have hS2 := (S1.trans S2).seq hS
  have wlen := t.wk_len []
  clear cc
  refine ⟨a, ns, 20, rfl, hS2, h63, by omega, by omega, ?_⟩
  generalize lawAt ns (20 : Int).toNat = cell
  refine ⟨_, rfl, ⟨by decide, by decide⟩, by decide, ?_⟩
  have hk0 : 1 ≤ 1 + cell / 5 % 6 ∧ 1 + cell / 5 % 6 ≤ 6 := by (first | (clear h63 hC hm1 hm hmn hd hlen wlen; lia) | omega)
  generalize 1 + cell / 5 % 6 = kk0 at hk0
  rw [hC]
  clear hC C
  refine cutC1 fun C hC => ?_
  have tail1 : ∀ (kk : Int) (H3 : Hp), Same H2 H3 → -10000000000000000000000000000000 < kk → kk < 10000000000000000000000000000000 → C [some (V.ref a), some v, some (V.int kk), none, none, none, none, none, none, none, none] H3 := by
    intro kk1 H3 S3 hk1 hk2
    rw [hC]
    clear hC C
    refine cutC1 fun C hC => ?_
    have tail2 : ∀ (kk : Int) (H3 : Hp), Same H2 H3 → -20000000000000000000000000000000 < kk → kk < 20000000000000000000000000000000 → C [some (V.ref a), some v, some (V.int kk), none, none, none, none, none, none, none, none] H3 := by
      clear hk1 hk2 S3 kk1 H3 hk0 kk0 cell
      intro kk H3 S3 hk1 hk2
      have hlog : kk.natAbs.log2 < 1900 := by
        by_cases z : kk.natAbs = 0
        · rw [z]; decide
        · refine (Nat.log2_lt z).mpr (Nat.lt_of_lt_of_le (show kk.natAbs < 2 ^ 110 by (first | (clear h63 hm1 hm hmn hd hlen wlen hC z; omega) | omega)) (Nat.pow_le_pow_right (by decide) (by decide)))
      have ht3 := ht.same S3
      rw [hC]
      clear hC C
      refine cutC2 fun C hC => ?_
      walk_at "rd"
      refine ⟨Nat.zero_le _, NewO.mk fun p4 H4 S4 n4 e4 => ?_⟩
      rw [hC]
      clear hC C
      refine cutC1 fun C hC => ?_
      walk_at "rd"
      have ht4 := ht3.same S4
      have hk01 : 0 < nK t ↔ isK t = true := by
        have e := nK_lv t
        cases t with
        | leaf x => simp [isK, M.Tr.isL, M.Tr.lv] at e ⊢; omega
        | knot f l r =>
          simp only [M.Tr.lv, List.length_append] at e
          have a1 := l.lv_pos
          have a2 := r.lv_pos
          simp [isK, M.Tr.isL]; (first | (clear h63 hm1 hm hmn hk1 hk2 hlog n4 e4 hC hd hlen wlen; lia) | omega)
      refine ⟨t, kk, v, rfl, ht4, hd, by (first | (clear hk1 hk2 hlog n4 e4 hC hk01 h63 hm1 wlen hmn hd; lia) | omega), hlog, fun hf HA SA => ⟨T.C_TooFew, rfl, T.x_TooFew, T.u_TooFew_TooFew, fun σ' hσ => ?_⟩, fun nf pr rs HA SA nA eA DA => ?_⟩
      · subst hσ
        walk_at "rd"
        rw [hC]
        clear hC C
        refine cutC1 fun C hC => ?_
        rw [a_tSeq]
        simp only [a_rIndexI, a_tDisp, a_pNil, a_pCons, a_iZipK, a_tSortS, a_tFor, a_tSet, a_tSetC, a_tVar, a_tC, a_tB, a_tAnd, a_tOr, a_tNot, a_tAndV, a_tNotV, a_tNext, a_tDrop, a_tRet, a_tIfS, a_gName, a_gNil, a_gCons, a_gTup, a_gSub, a_tAsg, a_iRng1, a_tOp, a_rI, a_rI0, a_rEq, a_rNe, a_tTest, a_tChain, a_tNil, a_tCons, b_tTup, b_tLst, a_tCall, a_tCB, a_tNoPart, a_tPart, a_tSl, b_rSlT, a_rIxL, a_rIxS, b_rSetL, a_tBM, b_rAppend, b_rExtend, b_rCat, b_rRep, a_tDGet, a_tDNotIn, a_tYes, a_tComp, a_rJoin, a_rEqD, a_rNeD, a_rIsi, a_rCatD, a_rIxF, a_rSlLF, a_rLenF, a_rIntB, ty_str, tJs, a_tFmtI, a_tRaise, a_tTry, a_tCallJ, a_rMaxS, a_rMinS, a_rListF, a_rTupF, a_rSlU, a_iL, a_iT, L2.start, blkSt, cxOf_K, blk_K, List.getElem?_cons_zero, List.getElem?_cons_succ, Option.some.injEq, Option.join_some, exists_eq_left', exists_eq_left, exists_eq_right, V.int.injEq, V.ref.injEq, V.str.injEq, V.bl.injEq, V.ty.injEq, and_true, true_and, List.set_cons_zero, List.set_cons_succ, List.cons.injEq, List.cons_append, List.nil_append, List.append_nil, List.map_cons, List.map_nil, List.length_cons, List.length_nil, List.replicate, exists_and_left, exists_and_right, Nat.reduceAdd, Nat.reduceSub, atI_0, atI_1, atI_2, atI_3, atI_4, if_true, if_false, Bool.false_eq_true, scal_ii, scal_ss, scal_bb]
        rcases hf with hf | ⟨hf, hn⟩
        · rw [decide_eq_true hf]
          exact iteT (q _)
        · rw [decide_eq_false (show ¬ kk < 1 by (first | (clear h63 hm1 hm hmn hd hlen wlen hk1 hk2 hlog n4 e4 hk01 hC hn; lia) | omega)), decide_eq_true hf]
          have hK := hk01.mp hn
          cases t with
          | leaf x => simp [isK, M.Tr.isL] at hK
          | knot f l r =>
            obtain ⟨b, vl, vr, rfl, eb, _, _⟩ := dT_knot (ht4.same SA)
            exact iteF (iteT ⟨b, rfl, _, items_t eb, _, atI_0, rfl, wT (q _)⟩)
      · dsimp only
        rw [hC]
        clear hC C
        refine cutC1 fun C hC => ?_
        have htA := ht4.same SA
        have main : C [some (V.ref a), some v, some (V.int kk), some (V.ref pr), some (V.bl false), none, none, none, none, none, none] HA := by
          rw [hC]
          clear hC C
          refine cutC1 fun C hC => ?_
          rw [a_tSeq]
          simp only [a_rIndexI, a_tDisp, a_pNil, a_pCons, a_iZipK, a_tSortS, a_tFor, a_tSet, a_tSetC, a_tVar, a_tC, a_tB, a_tAnd, a_tOr, a_tNot, a_tAndV, a_tNotV, a_tNext, a_tDrop, a_tRet, a_tIfS, a_gName, a_gNil, a_gCons, a_gTup, a_gSub, a_tAsg, a_iRng1, a_tOp, a_rI, a_rI0, a_rEq, a_rNe, a_tTest, a_tChain, a_tNil, a_tCons, b_tTup, b_tLst, a_tCall, a_tCB, a_tNoPart, a_tPart, a_tSl, b_rSlT, a_rIxL, a_rIxS, b_rSetL, a_tBM, b_rAppend, b_rExtend, b_rCat, b_rRep, a_tDGet, a_tDNotIn, a_tYes, a_tComp, a_rJoin, a_rEqD, a_rNeD, a_rIsi, a_rCatD, a_rIxF, a_rSlLF, a_rLenF, a_rIntB, ty_str, tJs, a_tFmtI, a_tRaise, a_tTry, a_tCallJ, a_rMaxS, a_rMinS, a_rListF, a_rTupF, a_rSlU, a_iL, a_iT, L2.start, blkSt, cxOf_K, blk_K, List.getElem?_cons_zero, List.getElem?_cons_succ, Option.some.injEq, Option.join_some, exists_eq_left', exists_eq_left, exists_eq_right, V.int.injEq, V.ref.injEq, V.str.injEq, V.bl.injEq, V.ty.injEq, and_true, true_and, List.set_cons_zero, List.set_cons_succ, List.cons.injEq, List.cons_append, List.nil_append, List.append_nil, List.map_cons, List.map_nil, List.length_cons, List.length_nil, List.replicate, exists_and_left, exists_and_right, Nat.reduceAdd, Nat.reduceSub, atI_0, atI_1, atI_2, atI_3, atI_4, if_true, if_false, Bool.false_eq_true, scal_ii, scal_ss, scal_bb]
          refine ⟨_, _, ⟨rfl, rfl⟩, "list", .lst eA, by decide, ?_⟩
          rw [show isiB "list" "list" = true by decide]
          refine iteF ?_
          rw [hC]
          clear hC C
          refine cutC4 fun C hC => ?_
          walk_at "rd"
          have lrs := DA.length
          rw [List.length_map] at lrs
          have rl := rowInto_len kk t 0 0
          refine ⟨t, kk, v, rfl, htA, hd, by (first | (clear n4 e4 hk01 nf nA eA hC lrs rl wlen hk1 hk2 hlog h63 hm1 hmn hd; lia) | omega), hlog, fun z => absurd z nf, fun _ p5 rs5 H5 S5 n5 e5 D5 => ?_⟩
          have l5 := D5.length
          rw [List.length_map] at l5
          refine ⟨ty_lst e5, by decide, NewO.mk fun p6 H6 S6 n6 e6 => ⟨p5, rfl, _, S6 _ _ e5, small_size (by (first | (clear wlen hk1 hk2 hlog n4 e4 hk01 nf nA eA hC lrs h63 hm1 n6 e6 hmn hd n5 e5; lia) | omega)), PutO.mk fun H7 k7 e7 => ?_⟩⟩
          have S7 : Same HA H7 := Same.put_new (S5.trans S6) n5 k7
          refine ⟨t, kk, v, rfl, htA.same S7, hd, by (first | (clear nf nA eA hC lrs rl n5 e5 l5 n6 e6 e7 hk2 hlog n4 e4 hk01 h63 hm1 wlen hk1 hmn hd; lia) | omega), hlog, fun z => absurd z nf, fun _ p8 rs8 H8 S8 n8 e8 D8 => ?_⟩
          have S78 := S7.trans S8
          refine ⟨.lst ((rowInto kk t 0 0).map dDeed), Dt.lst (S78 _ _ eA) (DA.same S78), .lst ((rowInto kk t 0 0).map dDeed), Dt.lst e8 D8, ?_, ?_⟩
          · have : D.dps ((rowInto kk t 0 0).map dDeed) ≤ 1 := dps_le fun d hd => by
              obtain ⟨d0, _, rfl⟩ := List.mem_map.mp hd
              exact dDeed_dp d0
            simp only [D.dp]; (first | (clear h63 hm1 hm hmn hd hlen wlen hk1 hk2 hlog n4 e4 hk01 nf nA eA hC lrs rl n5 e5 l5 n6 e6 e7 n8 e8; lia) | omega)
          rw [D.eq_refl]
          refine iteF ⟨Nat.zero_le _, NewO.mk fun p9 H9 S9 n9 e9 => ?_⟩
          have S09 := S78.trans S9
          refine ⟨t, [], v, .ref p9, rfl, htA.same S09, dP_mk e9, hd, by (first | (clear eA hC lrs rl n5 e5 l5 n6 e6 e7 n8 e8 n9 e9 hk2 hlog n4 e4 hk01 nf nA h63 hm1 wlen hk1 hmn hd; lia) | omega), by simp, fun pp ps HB SB nB eB DB => ⟨Nat.zero_le _, NewO.mk fun pc HC SC nC eC => ?_⟩⟩
          have S0C := (S09.trans SB).trans SC
          refine ⟨t, [], v, .ref pc, rfl, htA.same S0C, dP_mk eC, hd, by (first | (clear lrs rl n5 e5 l5 n6 e6 e7 n8 e8 n9 e9 nB eB nC eC hlog n4 e4 hk01 nf nA eA hC wlen hk1 hk2 h63 hm1 hmn hd; lia) | omega), by simp, fun pd ys HD SD nD eD DD => ?_⟩
          have l4 : ys.length = (t.wk []).length := by have := DD.length; simpa using this
          refine WalkL.comp eD (fun i ws H' => ws.length = (((t.wk []).take i).filter (mustQ kk)).length) rfl (by (first | (clear hlog n4 e4 hk01 nf nA eA hC lrs rl n5 e5 l5 n6 e6 e7 n8 e8 e9 nB eB nC eC n9 nD eD h63 hm1 hmn hd hk1 hk2; lia) | omega)) (fun i us H' h => by rw [h]; exact Nat.le_trans (List.length_filter_le ..) (List.length_take_le ..)) (fun i x ws H' ex S' h => ?_) (fun p7 ws HE HF SE SF h8 nF eF => ?_)
          · have hi : i < (t.wk []).length := by have := (List.getElem?_eq_some_iff.mp ex).1; (first | (clear h63 hm1 hm hmn hd hlen wlen hk1 hk2 hlog n4 e4 hk01 nf nA eA hC lrs rl n5 e5 l5 n6 e6 e7 n8 e8 n9 e9 nB eB nC eC nD eD ex h; lia) | omega)
            obtain ⟨v', hv', dv'⟩ := Dts.map_of (DD.same S') (List.getElem?_eq_getElem hi)
            rw [ex] at hv'; cases hv'
            obtain ⟨b, v1, rfl, eb, h1⟩ := dR_of dv'
            rw [List.take_add_one, List.getElem?_eq_getElem hi, List.filter_append]
            simp only [Option.toList_some, List.filter_cons, List.filter_nil]
            have hm : mustQ kk (t.wk [])[i] = (isK (t.wk [])[i].2 && decide (kk ≤ (mnR (t.wk [])[i].2 : Int))) := rfl
            rw [hm]
            walk_at "rd"
            refine ⟨_, items_t eb, _, atI_2, _, rfl, ?_⟩
            cases hk : isK (t.wk [])[i].2 with
            | false => exact iteF ⟨S', by simp [h]⟩
            | true =>
              refine iteT ⟨_, items_t eb, _, atI_3, _, rfl, ?_⟩
              simp only [Bool.true_and]
              refine ite2 (fun d => ?_) (fun d => ?_)
              · rw [if_pos d]; exact ⟨S', by simp [h]⟩
              · rw [if_neg d]; exact ⟨S', by simp [h]⟩
          rw [l4, List.take_length, cM_wk] at h8
          refine ⟨p7, rfl, _, items_l eF, ?_⟩
          rw [h8]
          have S0F := ((S0C.trans SD).trans SE).trans SF
          have eBF := SF _ _ (SE _ _ (SD _ _ (SC _ _ eB)))
          have DBF := (((DB.same SC).same SD).same SE).same SF
          have eAF := S0F _ _ eA
          have DAF := DA.same S0F
          clear h8 eF nF l4 DD eD nD eC nC nB DB eB e9 n9 D8 e8 n8 e7 k7 S7 S8 S78 S9 S09 SB SC S0C SD SE SF e6 n6 e5 n5 D5 l5 S5 S6
          generalize hrow : rowInto kk t 0 0 = row at *
          rw [hC]
          clear hC C
          refine cutC2 fun C hC => ?_
          walk_at "rd"
          have lv32 : t.lv.length ≤ 32 := by (first | (clear e4 hk01 nf nA eA eBF eAF hrow lrs rl hC wlen hk1 hk2 h63 hm1 hlog n4 hmn hd; lia) | omega)
          have fits := row_fits nf
          rw [hrow] at fits
          have small : ∀ d ∈ row, ∀ i ∈ d.bn, ∃ n : Nat, i = (n : Int) ∧ n < 8 := fun d hd i hi => by
            rw [← hrow] at hd
            have h1 := row_num kk t 0 0 d hd i hi
            have h2 := rk_six lv32
            exact ⟨i.toNat, by (first | (clear h63 hm1 hm hmn hlen wlen hk1 hk2 hlog n4 e4 hk01 nf nA eA eBF eAF hrow lrs rl hC h2 lv32; lia) | omega), by (first | (clear h63 hm1 hm hmn hlen wlen hk1 hk2 hlog n4 e4 hk01 eBF eAF hrow lrs rl hC eA lv32 nA; lia) | omega)⟩
          have bnN : ∀ d ∈ row, d.bn.map V.int = natV (d.bn.map Int.toNat) ∧ d.bn.length ≤ 3 := fun d hd => by
            refine ⟨?_, by cases d <;> simp [M.Deed.bn]⟩
            unfold natV
            rw [List.map_map]
            refine List.map_congr_left fun i hi => ?_
            obtain ⟨n, rfl, _⟩ := small d hd i hi
            simp
          refine ⟨by decide, NewO.mk fun pu HG SG nG eG => ?_⟩
          obtain ⟨Pv, hPv⟩ : ∃ Pv : Nat → St → Hp → Prop, ∀ i σ H', Pv i σ H' ↔ Same HF H' ∧ ∃ (pu : Addr) (us : List Nat), H' pu = some (.lst (natV us)) ∧ (∀ k ∈ us, k < 8) ∧ us.length ≤ 1 + 3 * i ∧ (∀ x, x ∈ us ↔ x = 0 ∨ ∃ d ∈ row.take i, (x : Int) ∈ d.bn) ∧ ∃ o8 : Option V, σ = [some (V.ref a), some v, some (V.int kk), some (V.ref pr), some (V.bl false), some (V.ref pp), some (V.int (cM kk t)), some (V.ref pu), o8, none, none] := ⟨_, fun _ _ _ => Iff.rfl⟩
          refine WalkL.for (SG _ _ eAF) Pv ((hPv _ _ _).mpr ⟨SG, pu, [0], eG, by simp, by simp, by simp, none, rfl⟩) (fun i σ H' _ h => ((hPv _ _ _).mp h).1 _ _ eAF) ?_ ?_
          · intro i y σ H' ey h
            obtain ⟨U1, pu', us, eu, u8, ul, um, o8, rfl⟩ := (hPv _ _ _).mp h
            have hi : i < row.length := by have := (List.getElem?_eq_some_iff.mp ey).1; (first | (clear h63 hm1 hm hmn hd hlen wlen hk1 hk2 hlog n4 e4 hk01 nf nA eA eBF eAF hrow nG eG ey eu hC lv32 rl ul; lia) | omega)
            have e0 : row[i]? = some row[i] := List.getElem?_eq_getElem hi
            obtain ⟨y', hy', dy⟩ := Dts.map_of DAF e0
            rw [ey] at hy'; cases hy'
            have hmem := List.getElem_mem hi
            generalize row[i] = d at e0 dy hmem
            obtain ⟨b1, b3⟩ := bnN d hmem
            walk_at "rd"
            refine ⟨d, y, kk, _, rfl, dy.same U1, (fits d hmem).1, (fits d hmem).2, fun H'' S'' => ⟨_, rfl, iteF ⟨d, y, rfl, (dy.same U1).same S'', fun pb HH SH eb => ?_⟩⟩⟩
            rw [b1] at eb
            refine ⟨pb, rfl, _, SH _ _ (S'' _ _ eu), _, eb, ?_, ?_⟩
            · refine small_le ?_
              unfold natV
              rw [List.length_map, List.length_map, List.length_map]
              (first | (clear h63 hm1 hm hmn hd hlen wlen hk1 hk2 hlog n4 e4 hk01 nf nA eA eBF eAF hrow lrs nG eG ey eu b1; lia) | omega)
            refine NewO.mk fun pn HI SI nI eI => (hPv _ _ _).mpr ⟨((U1.trans S'').trans SH).trans SI, pn, us ++ d.bn.map Int.toNat, by rw [eI]; simp [natV], fun k hk => ?_, by rw [List.length_append, List.length_map]; (first | (clear h63 hm1 hm hmn hd hlen wlen hk1 hk2 hlog n4 e4 hk01 nf nA eA eBF eAF hrow lrs rl hC lv32 nG eG ey eu eb nI eI e0 b1 hi; lia) | omega), fun x => ?_, _, rfl⟩
            · rcases List.mem_append.mp hk with hk | hk
              · exact u8 k hk
              · obtain ⟨z, hz, rfl⟩ := List.mem_map.mp hk
                obtain ⟨n, rfl, hn⟩ := small d hmem z hz
                simpa using hn
            · have hx : x ∈ d.bn.map Int.toNat ↔ (x : Int) ∈ d.bn := by
                constructor
                · intro hx
                  obtain ⟨z, hz, rfl⟩ := List.mem_map.mp hx
                  obtain ⟨n, rfl, hn⟩ := small d hmem z hz
                  simpa using hz
                · intro hx
                  exact List.mem_map.mpr ⟨_, hx, by simp⟩
              rw [List.mem_append, um, hx, List.take_add_one, e0]
              simp only [Option.toList_some, List.mem_append, List.mem_singleton]
              constructor
              · rintro ((h | ⟨e, h1, h2⟩) | h)
                · exact .inl h
                · exact .inr ⟨e, .inl h1, h2⟩
                · exact .inr ⟨d, .inr rfl, h⟩
              · rintro (h | ⟨e, h1 | h1, h2⟩)
                · exact .inl (.inl h)
                · exact .inl (.inr ⟨e, h1, h2⟩)
                · subst h1; exact .inr h2
          · intro σ H' h
            obtain ⟨U1, pu', us, eu, u8, ul, um, o8, rfl⟩ := (hPv _ _ _).mp h
            rw [lrs, List.take_length] at um
            dsimp only
            rw [hC]
            clear hC C
            refine cutC3 fun C hC => ?_
            walk_at "rd"
            have cm : cM kk t ≤ 100 := by
              have h1 := cM_wk kk t []
              have h2 := List.length_filter_le (mustQ kk) (t.wk [])
              (first | (clear hk2 hlog n4 e4 hk01 nf nA eA eBF eAF hrow lrs rl lv32 nG eG h63 hm1 eu ul hmn hd hk1 hC; lia) | omega)
            refine ⟨us, eu, u8, fun L0 ha hL => NewO.mk fun pL HJ SJ nJ eJ => ?_⟩
            have l8 := asc_len ha
            have lN : (natV L0).length = L0.length := by unfold natV; rw [List.length_map]
            refine ⟨by decide, NewO.mk fun pq HK SK nK' eK => ⟨pL, rfl, _, items_l (SK _ _ eJ), pq, rfl, _, eK, by (first | (clear h63 hm1 hm hmn hd hlen wlen hk1 hk2 hlog n4 e4 hk01 nf nA eA eBF eAF hrow lrs rl lv32 nG eG eu ul hC cm nJ eJ l8 lN nK' eK; lia) | omega), by (first | (clear h63 hm1 hm hmn hd hlen wlen hk1 hk2 hlog n4 e4 hk01 nf nA eA eBF eAF hrow lrs rl lv32 nG eG eu ul hC cm nJ nK' eK eJ; lia) | omega), small_le (by rw [List.length_singleton]; (first | (clear h63 hm1 hm hmn hd hlen wlen hk1 hk2 hlog n4 e4 hk01 nf nA eA eBF eAF hrow lrs rl lv32 nG eG eu ul hC cm nJ nK' eK; lia) | omega)), NewO.mk fun pb HM SM nM eM => ⟨by decide, NewO.mk fun pq2 HN SN nN eN => ⟨pq2, rfl, _, eN, by (first | (clear h63 hm1 hm hmn hd hlen wlen hk1 hk2 hlog n4 e4 hk01 nf nA eA eBF eAF hrow lrs rl lv32 nG eG eu ul hC cm nJ eJ l8 lN nK' eK nM eM nN eN; lia) | omega), by (first | (clear h63 hm1 hm hmn hd hlen wlen hk1 hk2 hlog n4 e4 hk01 nf nA eA eBF eAF hrow eJ l8 lN nK' eK nM eM nN eN lrs rl lv32 nG eG eu ul hC nJ; omega) | omega), small_le (by rw [List.length_singleton]; (first | (clear h63 hm1 hm hmn hd hlen wlen hk1 hk2 hlog n4 e4 hk01 nf nA eA eBF eAF hrow eJ l8 lN nK' eK nM eM nN eN lrs rl lv32 nG eG eu ul hC nJ; lia) | omega)), NewO.mk fun ph HO' SO nO eO => ?_⟩⟩⟩⟩
            rw [flat_rep, lN, Int.toNat_natCast] at eM
            rw [flat_rep, Int.toNat_natCast] at eO
            have SFO := ((((U1.trans SJ).trans SK).trans SM).trans SN).trans SO
            have eLO := SO _ _ (SN _ _ (SM _ _ (SK _ _ eJ)))
            have ebO := SO _ _ (SN _ _ eM)
            have eAO := SFO _ _ eAF
            have inL : ∀ d ∈ row, ∀ i ∈ d.bn, ∃ n ∈ L0, i = (n : Int) := fun d hd i hi => by
              obtain ⟨n, rfl, _⟩ := small d hd i hi
              exact ⟨n, (hL n).mpr ((um n).mpr (.inr ⟨d, hd, hi⟩)), rfl⟩
            have held := led_held (t := t) nodup nf ha ((hL 0).mpr ((um 0).mpr (.inl rfl))) (by rw [hrow]; exact inL) (by rw [hrow]; exact fun x hx => (um x).mp ((hL x).mp hx))
            rw [hrow] at held
            rw [hC]
            clear hC C
            refine cutC1 fun C hC => ?_
            walk_at "rd"
            obtain ⟨Pw, hPw⟩ : ∃ Pw : Nat → St → Hp → Prop, ∀ j σ H'', Pw j σ H'' ↔ Same HO' H'' ∧ ∃ (pb ph : Addr) (bs ss : List V), H'' pb = some (.lst bs) ∧ H'' ph = some (.lst ss) ∧ Dts H'' ((((row.take j).map (ledD L0)).foldl (M.mark t) (List.replicate L0.length none, List.replicate (cM kk t) none)).1.map dO) bs ∧ Dts H'' ((((row.take j).map (ledD L0)).foldl (M.mark t) (List.replicate L0.length none, List.replicate (cM kk t) none)).2.map dO) ss ∧ ∃ o8 : Option V, σ = [some (V.ref a), some v, some (V.int kk), some (V.ref pr), some (V.bl false), some (V.ref pp), some (V.int (cM kk t)), some (V.ref pL), o8, some (V.ref pb), some (V.ref ph)] := ⟨_, fun _ _ _ => Iff.rfl⟩
            refine WalkL.for eAO Pw ((hPw _ _ _).mpr ⟨Same.refl _, pb, ph, _, _, ebO, eO, dts_none _, dts_none _, _, rfl⟩) (fun j σ H'' _ h => ((hPw _ _ _).mp h).1 _ _ eAO) ?_ ?_
            · intro j y σ H'' ey h
              obtain ⟨V1, pb', ph', bs, ss, eb', eh', db, ds, o8', rfl⟩ := (hPw _ _ _).mp h
              have hj : j < row.length := by have := (List.getElem?_eq_some_iff.mp ey).1; (first | (clear h63 hm1 hm hmn hd hlen wlen hk1 hk2 hlog n4 e4 eu ul cm nJ eJ l8 lN nK' eK nM eM nN hk01 nf nA eA eBF eAF eN nO eO eLO ebO eAO lv32 nG eG held hC ey rl eb' hrow eh'; lia) | omega)
              have e0 : row[j]? = some row[j] := List.getElem?_eq_getElem hj
              obtain ⟨y', hy', dy⟩ := Dts.map_of DAF e0
              rw [ey] at hy'; cases hy'
              have hmem := List.getElem_mem hj
              generalize row[j] = d at e0 dy hmem
              have SFV := SFO.trans V1
              have nxt : (row.take (j + 1)).map (ledD L0) = (row.take j).map (ledD L0) ++ [ledD L0 d] := by rw [List.take_add_one, e0]; simp
              have lens := fold_len (z := none) (tk := fun x => M.firstOf x (t.wk [])) (jn := M.over t) ((row.take j).map (ledD L0)) (List.replicate L0.length none, List.replicate (cM kk t) none)
              change (((row.take j).map (ledD L0)).foldl (M.mark t) (List.replicate L0.length none, List.replicate (cM kk t) none)).1.length = _ ∧ (((row.take j).map (ledD L0)).foldl (M.mark t) (List.replicate L0.length none, List.replicate (cM kk t) none)).2.length = _ at lens
              simp only [List.length_replicate] at lens
              have nst : ((row.take (j + 1)).map (ledD L0)).foldl (M.mark t) (List.replicate L0.length none, List.replicate (cM kk t) none) = M.mark t (((row.take j).map (ledD L0)).foldl (M.mark t) (List.replicate L0.length none, List.replicate (cM kk t) none)) (ledD L0 d) := by rw [nxt, List.foldl_append]; rfl
              generalize ((row.take j).map (ledD L0)).foldl (M.mark t) (List.replicate L0.length none, List.replicate (cM kk t) none) = st at db ds lens nst
              have okL : (ledD L0 d).ok st.1.length st.2.length := by
                rw [lens.1, lens.2]
                have bx : ∀ i ∈ d.bn, M.inN (L0.length : Nat) (ledI L0 i) := fun i hi => by
                  obtain ⟨n, e, hn⟩ := ledI_in (inL d hmem i hi)
                  have := (List.getElem?_eq_some_iff.mp hn).1
                  rw [e]; exact ⟨by (first | (clear h63 hm1 hm hmn hd hlen wlen hk1 hk2 hlog n4 e4 hk01 nf nA eA eBF eAF hrow lrs rl lv32 nG eG eu ul cm nJ eJ l8 lN nK' eK nM eM nN eN nO eO eLO ebO eAO held hC ey eb' eh' hj e0 nxt lens nst e hn this; lia) | omega), by (first | (clear h63 hm1 hm hmn hd hlen wlen hk1 hk2 hlog n4 e4 hk01 nf nA eA eBF eAF hrow lrs rl lv32 nG eG eu ul cm nJ eJ l8 lN nK' eK nM eM nN eN nO eO eLO ebO eAO held hC ey eb' eh' hj e0 nxt lens nst e hn; omega) | omega)⟩
                have sx := (fits d hmem).2
                cases d with
                | take x i => exact ⟨fun z hz => by simp only [ledD, M.Deed.bn, List.mem_singleton] at hz; rw [hz]; exact bx i (by simp [M.Deed.bn]), fun z hz => by simp [ledD, M.Deed.sn] at hz⟩
                | join f i k l =>
                  refine ⟨fun z hz => ?_, fun z hz => by simp [ledD, M.Deed.sn] at hz⟩
                  simp only [ledD, M.Deed.bn, List.mem_cons, List.not_mem_nil, or_false] at hz
                  rcases hz with rfl | rfl | rfl
                  · exact bx i (by simp [M.Deed.bn])
                  · exact bx k (by simp [M.Deed.bn])
                  · exact bx l (by simp [M.Deed.bn])
                | put i s => exact ⟨fun z hz => by simp only [ledD, M.Deed.bn, List.mem_singleton] at hz; rw [hz]; exact bx i (by simp [M.Deed.bn]), fun z hz => sx z hz⟩
                | fetch s i => exact ⟨fun z hz => by simp only [ledD, M.Deed.bn, List.mem_singleton] at hz; rw [hz]; exact bx i (by simp [M.Deed.bn]), fun z hz => sx z hz⟩
              walk_at "rd"
              refine ⟨d, y, pL, L0, rfl, dy.same SFV, V1 _ _ eLO, by (first | (clear h63 hm1 hm hmn hd hlen wlen hk1 hk2 hlog n4 e4 hk01 nf nA eA eBF eAF hrow lrs rl lv32 nG eG eu ul eLO ebO eAO held hC ey eb' eh' hj e0 nxt lens nst nM eM nN eN nO eO lN nK' eK cm nJ eJ; lia) | omega), inL d hmem, fun pd HP SP dP' => ?_⟩
              refine ⟨t, ledD L0 d, st, pp, ps, .ref pd, pb', ph', bs, ss, rfl, nodup, hd, lv32, SP _ _ (SFV _ _ eBF), (DBF.same SFV).same SP, dP', SP _ _ eb', SP _ _ eh', db.same SP, ds.same SP, okL, fun p4 p1 p2 ws2 us2 HQ SQ e4 n1 n2 ne e1 e2 D1 D2 => ?_⟩
              exact ⟨p4, rfl, _, SqT.of e4, rfl, _, _, rfl, _, _, rfl, rfl, (hPw _ _ _).mpr ⟨(V1.trans SP).trans SQ, p1, p2, _, _, e1, e2, by rw [nst]; exact D1, by rw [nst]; exact D2, _, rfl⟩⟩
            · intro σ H'' h
              obtain ⟨V1, pb', ph', bs, ss, eb', eh', db, ds, o8', rfl⟩ := (hPw _ _ _).mp h
              rw [lrs, List.take_length] at db
              dsimp only
              rw [hC]
              clear hC C
              walk_at "rd"
              have lens := fold_len (z := none) (tk := fun x => M.firstOf x (t.wk [])) (jn := M.over t) (row.map (ledD L0)) (List.replicate L0.length none, List.replicate (cM kk t) none)
              change ((row.map (ledD L0)).foldl (M.mark t) (List.replicate L0.length none, List.replicate (cM kk t) none)).1.length = _ ∧ _ at lens
              have lenA := lens.1
              simp only [List.length_replicate] at lenA
              have pos : 0 < L0.length := List.length_pos_of_mem ((hL 0).mpr ((um 0).mpr (.inl rfl)))
              obtain ⟨x0, hx0, dx0⟩ := getD_at (i := 0) db ⟨by (first | (clear h63 hm1 hm hmn hd hlen wlen hk1 hk2 hlog n4 e4 hk01 nf nA eA eBF eAF hrow lrs rl lv32 nG eG eu ul cm nJ eJ l8 lN nK' eK nM eM nN eN nO eO eLO ebO eAO held eb' eh' lens lenA pos; omega) | omega), by rw [List.length_map]; (first | (clear h63 hm1 hm hmn hd hlen wlen hk1 hk2 hlog n4 e4 hk01 nf nA eA eBF eAF hrow lrs rl lv32 nG eG eu ul cm nJ eJ l8 lN nK' eK nM eM nN eN nO eO eLO ebO eAO held eb' eh' lens; omega) | omega)⟩
              rw [show D.non = dO none from rfl, getD_map] at dx0
              rw [show (0 : Int).toNat = 0 from rfl, held] at dx0
              refine ⟨_, items_l eb', x0, hx0, Nat.zero_le _, NewO.mk fun pz HZ SZ nZ eZ => ⟨dO (some []), dx0.same SZ, dO (some []), dP_mk eZ, by have := dO_dp (some []); (first | (clear h63 hm1 hm hmn hd hlen wlen hk1 hk2 hlog n4 e4 hk01 nf nA eA eBF eAF hrow lrs rl lv32 nG eG eu ul cm nJ eJ l8 lN nK' eK nM eM nN eN nO eO eLO ebO eAO held eb' eh' lens lenA pos hx0 nZ eZ; lia) | omega), ?_⟩⟩
              rw [D.eq_refl]
              exact q _
        rw [a_tSeq]
        simp only [a_rIndexI, a_tDisp, a_pNil, a_pCons, a_iZipK, a_tSortS, a_tFor, a_tSet, a_tSetC, a_tVar, a_tC, a_tB, a_tAnd, a_tOr, a_tNot, a_tAndV, a_tNotV, a_tNext, a_tDrop, a_tRet, a_tIfS, a_gName, a_gNil, a_gCons, a_gTup, a_gSub, a_tAsg, a_iRng1, a_tOp, a_rI, a_rI0, a_rEq, a_rNe, a_tTest, a_tChain, a_tNil, a_tCons, b_tTup, b_tLst, a_tCall, a_tCB, a_tNoPart, a_tPart, a_tSl, b_rSlT, a_rIxL, a_rIxS, b_rSetL, a_tBM, b_rAppend, b_rExtend, b_rCat, b_rRep, a_tDGet, a_tDNotIn, a_tYes, a_tComp, a_rJoin, a_rEqD, a_rNeD, a_rIsi, a_rCatD, a_rIxF, a_rSlLF, a_rLenF, a_rIntB, ty_str, tJs, a_tFmtI, a_tRaise, a_tTry, a_tCallJ, a_rMaxS, a_rMinS, a_rListF, a_rTupF, a_rSlU, a_iL, a_iT, L2.start, blkSt, cxOf_K, blk_K, List.getElem?_cons_zero, List.getElem?_cons_succ, Option.some.injEq, Option.join_some, exists_eq_left', exists_eq_left, exists_eq_right, V.int.injEq, V.ref.injEq, V.str.injEq, V.bl.injEq, V.ty.injEq, and_true, true_and, List.set_cons_zero, List.set_cons_succ, List.cons.injEq, List.cons_append, List.nil_append, List.append_nil, List.map_cons, List.map_nil, List.length_cons, List.length_nil, List.replicate, exists_and_left, exists_and_right, Nat.reduceAdd, Nat.reduceSub, atI_0, atI_1, atI_2, atI_3, atI_4, if_true, if_false, Bool.false_eq_true, scal_ii, scal_ss, scal_bb]
        have n1 : ¬ kk < 1 := fun z => nf (.inl z)
        rw [decide_eq_false n1]
        by_cases c1 : kk = 1
        · rw [decide_eq_true c1]
          cases t with
          | knot f l r => exact absurd (.inr ⟨c1, hk01.mpr rfl⟩) nf
          | leaf x =>
            obtain ⟨b, rfl, eb⟩ := dT_leaf htA
            exact iteF (iteT ⟨b, rfl, _, items_t eb, _, atI_0, rfl, wF (by decide +kernel) main⟩)
        · rw [decide_eq_false c1]
          exact iteF (iteF main)
    rw [a_tSeq]
    simp only [a_rIndexI, a_tDisp, a_pNil, a_pCons, a_iZipK, a_tSortS, a_tFor, a_tSet, a_tSetC, a_tVar, a_tC, a_tB, a_tAnd, a_tOr, a_tNot, a_tAndV, a_tNotV, a_tNext, a_tDrop, a_tRet, a_tIfS, a_gName, a_gNil, a_gCons, a_gTup, a_gSub, a_tAsg, a_iRng1, a_tOp, a_rI, a_rI0, a_rEq, a_rNe, a_tTest, a_tChain, a_tNil, a_tCons, b_tTup, b_tLst, a_tCall, a_tCB, a_tNoPart, a_tPart, a_tSl, b_rSlT, a_rIxL, a_rIxS, b_rSetL, a_tBM, b_rAppend, b_rExtend, b_rCat, b_rRep, a_tDGet, a_tDNotIn, a_tYes, a_tComp, a_rJoin, a_rEqD, a_rNeD, a_rIsi, a_rCatD, a_rIxF, a_rSlLF, a_rLenF, a_rIntB, ty_str, tJs, a_tFmtI, a_tRaise, a_tTry, a_tCallJ, a_rMaxS, a_rMinS, a_rListF, a_rTupF, a_rSlU, a_iL, a_iT, L2.start, blkSt, cxOf_K, blk_K, List.getElem?_cons_zero, List.getElem?_cons_succ, Option.some.injEq, Option.join_some, exists_eq_left', exists_eq_left, exists_eq_right, V.int.injEq, V.ref.injEq, V.str.injEq, V.bl.injEq, V.ty.injEq, and_true, true_and, List.set_cons_zero, List.set_cons_succ, List.cons.injEq, List.cons_append, List.nil_append, List.append_nil, List.map_cons, List.map_nil, List.length_cons, List.length_nil, List.replicate, exists_and_left, exists_and_right, Nat.reduceAdd, Nat.reduceSub, atI_0, atI_1, atI_2, atI_3, atI_4, if_true, if_false, Bool.false_eq_true, scal_ii, scal_ss, scal_bb]
    refine ⟨a, ns, 20, rfl, S3.seq hS2, h63, by omega, by omega, _, rfl, by decide, ite2 (fun _ => ?_) (fun _ => ?_)⟩
    · exact tail2 _ H3 S3 (by (first | (clear h63 hm1 hm hmn hd hlen hk2 hC wlen hk0; omega) | omega)) (by (first | (clear h63 hm1 hm hmn hd hlen wlen hk0 hk1 hC; omega) | omega))
    · exact tail2 _ H3 S3 (by (first | (clear h63 hm1 hm hmn hd hlen hk2 hC wlen hk0; omega) | omega)) (by (first | (clear h63 hm1 hm hmn hd hlen wlen hk0 hk1 hC; omega) | omega))
  rw [a_tSeq]
  simp only [a_rIndexI, a_tDisp, a_pNil, a_pCons, a_iZipK, a_tSortS, a_tFor, a_tSet, a_tSetC, a_tVar, a_tC, a_tB, a_tAnd, a_tOr, a_tNot, a_tAndV, a_tNotV, a_tNext, a_tDrop, a_tRet, a_tIfS, a_gName, a_gNil, a_gCons, a_gTup, a_gSub, a_tAsg, a_iRng1, a_tOp, a_rI, a_rI0, a_rEq, a_rNe, a_tTest, a_tChain, a_tNil, a_tCons, b_tTup, b_tLst, a_tCall, a_tCB, a_tNoPart, a_tPart, a_tSl, b_rSlT, a_rIxL, a_rIxS, b_rSetL, a_tBM, b_rAppend, b_rExtend, b_rCat, b_rRep, a_tDGet, a_tDNotIn, a_tYes, a_tComp, a_rJoin, a_rEqD, a_rNeD, a_rIsi, a_rCatD, a_rIxF, a_rSlLF, a_rLenF, a_rIntB, ty_str, tJs, a_tFmtI, a_tRaise, a_tTry, a_tCallJ, a_rMaxS, a_rMinS, a_rListF, a_rTupF, a_rSlU, a_iL, a_iT, L2.start, blkSt, cxOf_K, blk_K, List.getElem?_cons_zero, List.getElem?_cons_succ, Option.some.injEq, Option.join_some, exists_eq_left', exists_eq_left, exists_eq_right, V.int.injEq, V.ref.injEq, V.str.injEq, V.bl.injEq, V.ty.injEq, and_true, true_and, List.set_cons_zero, List.set_cons_succ, List.cons.injEq, List.cons_append, List.nil_append, List.append_nil, List.map_cons, List.map_nil, List.length_cons, List.length_nil, List.replicate, exists_and_left, exists_and_right, Nat.reduceAdd, Nat.reduceSub, atI_0, atI_1, atI_2, atI_3, atI_4, if_true, if_false, Bool.false_eq_true, scal_ii, scal_ss, scal_bb]
  refine ⟨a, ns, 20, rfl, hS2, h63, by omega, by omega, _, rfl, by decide, ite2 (fun _ => ?_) (fun _ => tail1 _ H2 (Same.refl _) (by (first | (clear h63 hm1 hm hmn hd hC hlen wlen; omega) | omega)) (by (first | (clear h63 hm1 hm hmn hd hC hlen wlen; omega) | omega)))⟩
  have e30 : (10 : Int) ^ Int.toNat 30 = 1000000000000000000000000000000 := by decide
  refine ⟨a, ns, 20, rfl, hS2, h63, by omega, by omega, _, rfl, ⟨by decide, by decide⟩, ⟨by decide, by decide, by decide⟩, by decide, ⟨by decide, by decide, by decide⟩, by decide, NewO.mk fun p3 H3 S3 n3 e3 => ⟨a, ns, 20, rfl, S3.seq hS2, h63, by omega, by omega, _, rfl, ⟨by decide, by decide⟩, by decide, p3, rfl, _, items_l e3, ?_⟩⟩
  generalize lawAt ns (20 : Int).toNat = cell3
  have m0 : 0 ≤ cell3 / 5 % 10 ^ Int.toNat 30 ∧ cell3 / 5 % 10 ^ Int.toNat 30 < 1000000000000000000000000000000 := by rw [e30]; (first | (clear h63 hm1 hm hmn hd hlen wlen hk0 hC e30 n3 e3; lia) | omega)
  rcases (show cell3 / 7 % 2 = 0 ∨ cell3 / 7 % 2 = 1 by (first | (clear h63 hm1 hm hmn hd hlen wlen hk0 hC e30 n3 e3 m0; lia) | omega)) with e | e <;> rw [e]
  · exact ⟨_, atI_0, _, rfl, tail1 _ H3 S3 (by rw [e30] at m0 ⊢; (first | (clear h63 hm1 hm hmn hd hlen wlen hk0 hC e30 n3 e3 m0 e; lia) | omega)) (by rw [e30] at m0 ⊢; (first | (clear h63 hm1 hm hmn hd hlen wlen hk0 hC e30 n3 e3 m0 e; lia) | omega))⟩
  · exact ⟨_, atI_1, _, rfl, tail1 _ H3 S3 (by (first | (clear h63 hm1 hm hmn hd hlen wlen hk0 hC e30 n3 e3 m0 e; omega) | omega)) (by (first | (clear h63 hm1 hm hmn hd hlen wlen hk0 hC e30 n3 e e3; omega) | omega))⟩
end
theorem sub_of_mro {K : PySem.W.Frag} {C F : Addr} {r : Bool} (h : PySem.W.mroIn K C (.ref F) = some r) : subOf K C F = r := by
  obtain ⟨cd, a, b⟩ := Option.bind_eq_some_iff.mp h
  unfold PySem.W.clsIn at a
  split at a
  · rename_i lk
    cases a
    unfold subOf
    rw [lk]
    split at b
    · cases b
    · exact Option.some.inj b
  · cases a
theorem txt_mk {K : PySem.W.Frag} {h : Heap} {mg : Str → Option Value} (X : K.In h) (G : h.Ns mainGlobals mg)
    {f0 : Addr} {od0 an0 : Option Addr} {sl0 : Array (Option Value)} {oc0 kV0 dc0 pm0 cd0 ct0 : Value}
    {f1 : Addr} {od1 an1 : Option Addr} {sl1 : Array (Option Value)} {oc1 kV1 dc1 pm1 cd1 ct1 : Value}
    {f2 : Addr} {od2 an2 : Option Addr} {sl2 : Array (Option Value)} {oc2 kV2 dc2 pm2 cd2 ct2 : Value}
    {f3 : Addr} {od3 an3 : Option Addr} {sl3 : Array (Option Value)} {oc3 kV3 dc3 pm3 cd3 ct3 : Value}
    {f4 : Addr} {od4 an4 : Option Addr} {sl4 : Array (Option Value)} {oc4 kV4 dc4 pm4 cd4 ct4 : Value}
    {f5 : Addr} {od5 an5 : Option Addr} {sl5 : Array (Option Value)} {oc5 kV5 dc5 pm5 cd5 ct5 : Value}
    {f6 : Addr} {od6 an6 : Option Addr} {sl6 : Array (Option Value)} {oc6 kV6 dc6 pm6 cd6 ct6 : Value}
    {f7 : Addr} {od7 an7 : Option Addr} {sl7 : Array (Option Value)} {oc7 kV7 dc7 pm7 cd7 ct7 : Value}
    {f8 : Addr} {od8 an8 : Option Addr} {sl8 : Array (Option Value)} {oc8 kV8 dc8 pm8 cd8 ct8 : Value}
    {f9 : Addr} {od9 an9 : Option Addr} {sl9 : Array (Option Value)} {oc9 kV9 dc9 pm9 cd9 ct9 : Value}
    {f10 : Addr} {od10 an10 : Option Addr} {sl10 : Array (Option Value)} {oc10 kV10 dc10 pm10 cd10 ct10 : Value}
    {f11 : Addr} {od11 an11 : Option Addr} {sl11 : Array (Option Value)} {oc11 kV11 dc11 pm11 cd11 ct11 : Value}
    {f12 : Addr} {od12 an12 : Option Addr} {sl12 : Array (Option Value)} {oc12 kV12 dc12 pm12 cd12 ct12 : Value}
    {f13 : Addr} {od13 an13 : Option Addr} {sl13 : Array (Option Value)} {oc13 kV13 dc13 pm13 cd13 ct13 : Value}
    {f14 : Addr} {od14 an14 : Option Addr} {sl14 : Array (Option Value)} {oc14 kV14 dc14 pm14 cd14 ct14 : Value}
    {f15 : Addr} {od15 an15 : Option Addr} {sl15 : Array (Option Value)} {oc15 kV15 dc15 pm15 cd15 ct15 : Value}
    {f16 : Addr} {od16 an16 : Option Addr} {sl16 : Array (Option Value)} {oc16 kV16 dc16 pm16 cd16 ct16 : Value}
    {f17 : Addr} {od17 an17 : Option Addr} {sl17 : Array (Option Value)} {oc17 kV17 dc17 pm17 cd17 ct17 : Value}
    {f18 : Addr} {od18 an18 : Option Addr} {sl18 : Array (Option Value)} {oc18 kV18 dc18 pm18 cd18 ct18 : Value}
    {f19 : Addr} {od19 an19 : Option Addr} {sl19 : Array (Option Value)} {oc19 kV19 dc19 pm19 cd19 ct19 : Value}
    {f20 : Addr} {od20 an20 : Option Addr} {sl20 : Array (Option Value)} {oc20 kV20 dc20 pm20 cd20 ct20 : Value}
    {f21 : Addr} {od21 an21 : Option Addr} {sl21 : Array (Option Value)} {oc21 kV21 dc21 pm21 cd21 ct21 : Value}
    {f22 : Addr} {od22 an22 : Option Addr} {sl22 : Array (Option Value)} {oc22 kV22 dc22 pm22 cd22 ct22 : Value}
    {f23 : Addr} {od23 an23 : Option Addr} {sl23 : Array (Option Value)} {oc23 kV23 dc23 pm23 cd23 ct23 : Value}
    {C_TooFew : Addr}
    (a0 : PySem.W.nsIn K mainGlobals "is_leaf" = some (some (.ref f0))) (l0 : K.lookup f0 = some ⟨oc0, od0, .func (PySem.W.fnOf "is_leaf" "is_leaf" (defArgs s_is_leaf) (defBody s_is_leaf) (defScope s_is_leaf) .none kV0 dc0 pm0 an0 cd0 ct0), sl0⟩) (c0 : PySem.W.codeIn K cd0 "is_leaf" = true) (k0 : PySem.W.keepIn K (.ref f0) = true)
    (a1 : PySem.W.nsIn K mainGlobals "places" = some (some (.ref f1))) (l1 : K.lookup f1 = some ⟨oc1, od1, .func (PySem.W.fnOf "places" "places" (defArgs s_places) (defBody s_places) (defScope s_places) .none kV1 dc1 pm1 an1 cd1 ct1), sl1⟩) (c1 : PySem.W.codeIn K cd1 "places" = true) (k1 : PySem.W.keepIn K (.ref f1) = true)
    (a2 : PySem.W.nsIn K mainGlobals "leaves" = some (some (.ref f2))) (l2 : K.lookup f2 = some ⟨oc2, od2, .func (PySem.W.fnOf "leaves" "leaves" (defArgs s_leaves) (defBody s_leaves) (defScope s_leaves) .none kV2 dc2 pm2 an2 cd2 ct2), sl2⟩) (c2 : PySem.W.codeIn K cd2 "leaves" = true) (k2 : PySem.W.keepIn K (.ref f2) = true)
    (a3 : PySem.W.nsIn K mainGlobals "part_at" = some (some (.ref f3))) (l3 : K.lookup f3 = some ⟨oc3, od3, .func (PySem.W.fnOf "part_at" "part_at" (defArgs s_part_at) (defBody s_part_at) (defScope s_part_at) .none kV3 dc3 pm3 an3 cd3 ct3), sl3⟩) (c3 : PySem.W.codeIn K cd3 "part_at" = true) (k3 : PySem.W.keepIn K (.ref f3) = true)
    (a4 : PySem.W.nsIn K mainGlobals "rank" = some (some (.ref f4))) (l4 : K.lookup f4 = some ⟨oc4, od4, .func (PySem.W.fnOf "rank" "rank" (defArgs s_rank) (defBody s_rank) (defScope s_rank) .none kV4 dc4 pm4 an4 cd4 ct4), sl4⟩) (c4 : PySem.W.codeIn K cd4 "rank" = true) (k4 : PySem.W.keepIn K (.ref f4) = true)
    (a5 : PySem.W.nsIn K mainGlobals "puts" = some (some (.ref f5))) (l5 : K.lookup f5 = some ⟨oc5, od5, .func (PySem.W.fnOf "puts" "puts" (defArgs s_puts) (defBody s_puts) (defScope s_puts) .none kV5 dc5 pm5 an5 cd5 ct5), sl5⟩) (c5 : PySem.W.codeIn K cd5 "puts" = true) (k5 : PySem.W.keepIn K (.ref f5) = true)
    (a6 : PySem.W.nsIn K mainGlobals "must_put" = some (some (.ref f6))) (l6 : K.lookup f6 = some ⟨oc6, od6, .func (PySem.W.fnOf "must_put" "must_put" (defArgs s_must_put) (defBody s_must_put) (defScope s_must_put) .none kV6 dc6 pm6 an6 cd6 ct6), sl6⟩) (c6 : PySem.W.codeIn K cd6 "must_put" = true) (k6 : PySem.W.keepIn K (.ref f6) = true)
    (a7 : PySem.W.nsIn K mainGlobals "least" = some (some (.ref f7))) (l7 : K.lookup f7 = some ⟨oc7, od7, .func (PySem.W.fnOf "least" "least" (defArgs s_least) (defBody s_least) (defScope s_least) .none kV7 dc7 pm7 an7 cd7 ct7), sl7⟩) (c7 : PySem.W.codeIn K cd7 "least" = true) (k7 : PySem.W.keepIn K (.ref f7) = true)
    (a8 : PySem.W.nsIn K mainGlobals "row_by_shelf" = some (some (.ref f8))) (l8 : K.lookup f8 = some ⟨oc8, od8, .func (PySem.W.fnOf "row_by_shelf" "row_by_shelf" (defArgs s_row_by_shelf) (defBody s_row_by_shelf) (defScope s_row_by_shelf) .none kV8 dc8 pm8 an8 cd8 ct8), sl8⟩) (c8 : PySem.W.codeIn K cd8 "row_by_shelf" = true) (k8 : PySem.W.keepIn K (.ref f8) = true)
    (a9 : PySem.W.nsIn K mainGlobals "row_by_boxes" = some (some (.ref f9))) (l9 : K.lookup f9 = some ⟨oc9, od9, .func (PySem.W.fnOf "row_by_boxes" "row_by_boxes" (defArgs s_row_by_boxes) (defBody s_row_by_boxes) (defScope s_row_by_boxes) .none kV9 dc9 pm9 an9 cd9 ct9), sl9⟩) (c9 : PySem.W.codeIn K cd9 "row_by_boxes" = true) (k9 : PySem.W.keepIn K (.ref f9) = true)
    (a10 : PySem.W.nsIn K mainGlobals "row_into" = some (some (.ref f10))) (l10 : K.lookup f10 = some ⟨oc10, od10, .func (PySem.W.fnOf "row_into" "row_into" (defArgs s_row_into) (defBody s_row_into) (defScope s_row_into) .none kV10 dc10 pm10 an10 cd10 ct10), sl10⟩) (c10 : PySem.W.codeIn K cd10 "row_into" = true) (k10 : PySem.W.keepIn K (.ref f10) = true)
    (a11 : PySem.W.nsIn K mainGlobals "row_for" = some (some (.ref f11))) (l11 : K.lookup f11 = some ⟨oc11, od11, .func (PySem.W.fnOf "row_for" "row_for" (defArgs s_row_for) (defBody s_row_for) (defScope s_row_for) .none kV11 dc11 pm11 an11 cd11 ct11), sl11⟩) (c11 : PySem.W.codeIn K cd11 "row_for" = true) (k11 : PySem.W.keepIn K (.ref f11) = true)
    (a12 : PySem.W.nsIn K mainGlobals "_law_at" = some (some (.ref f12))) (l12 : K.lookup f12 = some ⟨oc12, od12, .func (PySem.W.fnOf "_law_at" "_law_at" (defArgs s__law_at) (defBody s__law_at) (defScope s__law_at) .none kV12 dc12 pm12 an12 cd12 ct12), sl12⟩) (c12 : PySem.W.codeIn K cd12 "_law_at" = true) (k12 : PySem.W.keepIn K (.ref f12) = true)
    (a13 : PySem.W.nsIn K mainGlobals "_law_names" = some (some (.ref f13))) (l13 : K.lookup f13 = some ⟨oc13, od13, .func (PySem.W.fnOf "_law_names" "_law_names" (defArgs s__law_names) (defBody s__law_names) (defScope s__law_names) .none kV13 dc13 pm13 an13 cd13 ct13), sl13⟩) (c13 : PySem.W.codeIn K cd13 "_law_names" = true) (k13 : PySem.W.keepIn K (.ref f13) = true)
    (a14 : PySem.W.nsIn K mainGlobals "_law_many" = some (some (.ref f14))) (l14 : K.lookup f14 = some ⟨oc14, od14, .func (PySem.W.fnOf "_law_many" "_law_many" (defArgs s__law_many) (defBody s__law_many) (defScope s__law_many) .none kV14 dc14 pm14 an14 cd14 ct14), sl14⟩) (c14 : PySem.W.codeIn K cd14 "_law_many" = true) (k14 : PySem.W.keepIn K (.ref f14) = true)
    (a15 : PySem.W.nsIn K mainGlobals "_law_second" = some (some (.ref f15))) (l15 : K.lookup f15 = some ⟨oc15, od15, .func (PySem.W.fnOf "_law_second" "_law_second" (defArgs s__law_second) (defBody s__law_second) (defScope s__law_second) .none kV15 dc15 pm15 an15 cd15 ct15), sl15⟩) (c15 : PySem.W.codeIn K cd15 "_law_second" = true) (k15 : PySem.W.keepIn K (.ref f15) = true)
    (a16 : PySem.W.nsIn K mainGlobals "_law_tree" = some (some (.ref f16))) (l16 : K.lookup f16 = some ⟨oc16, od16, .func (PySem.W.fnOf "_law_tree" "_law_tree" (defArgs s__law_tree) (defBody s__law_tree) (defScope s__law_tree) .none kV16 dc16 pm16 an16 cd16 ct16), sl16⟩) (c16 : PySem.W.codeIn K cd16 "_law_tree" = true) (k16 : PySem.W.keepIn K (.ref f16) = true)
    (a17 : PySem.W.nsIn K mainGlobals "_law_ranks" = some (some (.ref f17))) (l17 : K.lookup f17 = some ⟨oc17, od17, .func (PySem.W.fnOf "_law_ranks" "_law_ranks" (defArgs s__law_ranks) (defBody s__law_ranks) (defScope s__law_ranks) .none kV17 dc17 pm17 an17 cd17 ct17), sl17⟩) (c17 : PySem.W.codeIn K cd17 "_law_ranks" = true) (k17 : PySem.W.keepIn K (.ref f17) = true)
    (a18 : PySem.W.nsIn K mainGlobals "_law_knots" = some (some (.ref f18))) (l18 : K.lookup f18 = some ⟨oc18, od18, .func (PySem.W.fnOf "_law_knots" "_law_knots" (defArgs s__law_knots) (defBody s__law_knots) (defScope s__law_knots) .none kV18 dc18 pm18 an18 cd18 ct18), sl18⟩) (c18 : PySem.W.codeIn K cd18 "_law_knots" = true) (k18 : PySem.W.keepIn K (.ref f18) = true)
    (a19 : PySem.W.nsIn K mainGlobals "_law_marked" = some (some (.ref f19))) (l19 : K.lookup f19 = some ⟨oc19, od19, .func (PySem.W.fnOf "_law_marked" "_law_marked" (defArgs s__law_marked) (defBody s__law_marked) (defScope s__law_marked) .none kV19 dc19 pm19 an19 cd19 ct19), sl19⟩) (c19 : PySem.W.codeIn K cd19 "_law_marked" = true) (k19 : PySem.W.keepIn K (.ref f19) = true)
    (a20 : PySem.W.nsIn K mainGlobals "_law_fits" = some (some (.ref f20))) (l20 : K.lookup f20 = some ⟨oc20, od20, .func (PySem.W.fnOf "_law_fits" "_law_fits" (defArgs s__law_fits) (defBody s__law_fits) (defScope s__law_fits) .none kV20 dc20 pm20 an20 cd20 ct20), sl20⟩) (c20 : PySem.W.codeIn K cd20 "_law_fits" = true) (k20 : PySem.W.keepIn K (.ref f20) = true)
    (a21 : PySem.W.nsIn K mainGlobals "_law_boxes" = some (some (.ref f21))) (l21 : K.lookup f21 = some ⟨oc21, od21, .func (PySem.W.fnOf "_law_boxes" "_law_boxes" (defArgs s__law_boxes) (defBody s__law_boxes) (defScope s__law_boxes) .none kV21 dc21 pm21 an21 cd21 ct21), sl21⟩) (c21 : PySem.W.codeIn K cd21 "_law_boxes" = true) (k21 : PySem.W.keepIn K (.ref f21) = true)
    (a22 : PySem.W.nsIn K mainGlobals "_law_led" = some (some (.ref f22))) (l22 : K.lookup f22 = some ⟨oc22, od22, .func (PySem.W.fnOf "_law_led" "_law_led" (defArgs s__law_led) (defBody s__law_led) (defScope s__law_led) .none kV22 dc22 pm22 an22 cd22 ct22), sl22⟩) (c22 : PySem.W.codeIn K cd22 "_law_led" = true) (k22 : PySem.W.keepIn K (.ref f22) = true)
    (a23 : PySem.W.nsIn K mainGlobals "law" = some (some (.ref f23))) (l23 : K.lookup f23 = some ⟨oc23, od23, .func (PySem.W.fnOf "law" "law" (defArgs s_law) (defBody s_law) (defScope s_law) .none kV23 dc23 pm23 an23 cd23 ct23), sl23⟩) (c23 : PySem.W.codeIn K cd23 "law" = true) (k23 : PySem.W.keepIn K (.ref f23) = true)
    (z0 : PySem.W.nsIn K mainGlobals "bool" = some none)
    (z1 : PySem.W.nsIn K mainGlobals "int" = some none)
    (z2 : PySem.W.nsIn K mainGlobals "isinstance" = some none)
    (z3 : PySem.W.nsIn K mainGlobals "len" = some none)
    (z4 : PySem.W.nsIn K mainGlobals "list" = some none)
    (z5 : PySem.W.nsIn K mainGlobals "max" = some none)
    (z6 : PySem.W.nsIn K mainGlobals "min" = some none)
    (z7 : PySem.W.nsIn K mainGlobals "range" = some none)
    (z8 : PySem.W.nsIn K mainGlobals "set" = some none)
    (z9 : PySem.W.nsIn K mainGlobals "sorted" = some none)
    (z10 : PySem.W.nsIn K mainGlobals "str" = some none)
    (z11 : PySem.W.nsIn K mainGlobals "tuple" = some none)
    (z12 : PySem.W.nsIn K mainGlobals "zip" = some none)
    (ea_TooFew : PySem.W.nsIn K mainGlobals "TooFew" = some (some (.ref C_TooFew)))
    (ex_TooFew : PySem.W.excIn K C_TooFew bmV "ValueError.__new__" = true)
    (u_TooFew_TooFew : PySem.W.mroIn K C_TooFew (.ref C_TooFew) = some true) :
    ∃ T : Txt K mg, T.f_law = f23 ∧ (∀ (s : Shared) (v : Value), BindsTo s T.d_law ⟨[v], []⟩ [("script", v)]) := by
  have F0 := fun_mk (st := s_is_leaf) l0 c0 k0
  have b0 := F0.binds1 (ps := ["tree"]) rfl fun _ _ _ _ _ _ _ => rfl
  have F1 := fun_mk (st := s_places) l1 c1 k1
  have b1 := F1.binds1 (ps := ["tree"]) rfl fun _ _ _ _ _ _ _ => rfl
  have F2 := fun_mk (st := s_leaves) l2 c2 k2
  have b2 := F2.binds1 (ps := ["tree"]) rfl fun _ _ _ _ _ _ _ => rfl
  have F3 := fun_mk (st := s_part_at) l3 c3 k3
  have b3 := F3.binds2 (ps := ["tree", "place"]) rfl fun _ _ _ _ _ _ _ _ => rfl
  have F4 := fun_mk (st := s_rank) l4 c4 k4
  have b4 := F4.binds1 (ps := ["tree"]) rfl fun _ _ _ _ _ _ _ => rfl
  have F5 := fun_mk (st := s_puts) l5 c5 k5
  have b5 := F5.binds2 (ps := ["tree", "k"]) rfl fun _ _ _ _ _ _ _ _ => rfl
  have F6 := fun_mk (st := s_must_put) l6 c6 k6
  have b6 := F6.binds2 (ps := ["tree", "k"]) rfl fun _ _ _ _ _ _ _ _ => rfl
  have F7 := fun_mk (st := s_least) l7 c7 k7
  have b7 := F7.binds2 (ps := ["tree", "k"]) rfl fun _ _ _ _ _ _ _ _ => rfl
  have F8 := fun_mk (st := s_row_by_shelf) l8 c8 k8
  have b8 := F8.binds3 (ps := ["tree", "k", "shelf"]) rfl fun _ _ _ _ _ _ _ _ _ => rfl
  have F9 := fun_mk (st := s_row_by_boxes) l9 c9 k9
  have b9 := F9.binds4 (ps := ["tree", "k", "box", "shelf"]) rfl fun _ _ _ _ _ _ _ _ _ _ => rfl
  have F10 := fun_mk (st := s_row_into) l10 c10 k10
  have b10 := F10.binds4 (ps := ["tree", "k", "box", "shelf"]) rfl fun _ _ _ _ _ _ _ _ _ _ => rfl
  have F11 := fun_mk (st := s_row_for) l11 c11 k11
  have b11 := F11.binds2 (ps := ["tree", "k"]) rfl fun _ _ _ _ _ _ _ _ => rfl
  have F12 := fun_mk (st := s__law_at) l12 c12 k12
  have b12 := F12.binds2 (ps := ["script", "k"]) rfl fun _ _ _ _ _ _ _ _ => rfl
  have F13 := fun_mk (st := s__law_names) l13 c13 k13
  have b13 := F13.binds2 (ps := ["cell", "many"]) rfl fun _ _ _ _ _ _ _ _ => rfl
  have F14 := fun_mk (st := s__law_many) l14 c14 k14
  have b14 := F14.binds1 (ps := ["script"]) rfl fun _ _ _ _ _ _ _ => rfl
  have F15 := fun_mk (st := s__law_second) l15 c15 k15
  have b15 := F15.binds1 (ps := ["script"]) rfl fun _ _ _ _ _ _ _ => rfl
  have F16 := fun_mk (st := s__law_tree) l16 c16 k16
  have b16 := F16.binds3 (ps := ["script", "at", "many"]) rfl fun _ _ _ _ _ _ _ _ _ => rfl
  have F17 := fun_mk (st := s__law_ranks) l17 c17 k17
  have b17 := F17.binds2 (ps := ["tree", "place"]) rfl fun _ _ _ _ _ _ _ _ => rfl
  have F18 := fun_mk (st := s__law_knots) l18 c18 k18
  have b18 := F18.binds2 (ps := ["tree", "place"]) rfl fun _ _ _ _ _ _ _ _ => rfl
  have F19 := fun_mk (st := s__law_marked) l19 c19 k19
  have b19 := F19.binds4 (ps := ["parts", "deed", "boxes", "shelf"]) rfl fun _ _ _ _ _ _ _ _ _ _ => rfl
  have F20 := fun_mk (st := s__law_fits) l20 c20 k20
  have b20 := F20.binds3 (ps := ["deed", "k", "puts_v"]) rfl fun _ _ _ _ _ _ _ _ _ => rfl
  have F21 := fun_mk (st := s__law_boxes) l21 c21 k21
  have b21 := F21.binds1 (ps := ["deed"]) rfl fun _ _ _ _ _ _ _ => rfl
  have F22 := fun_mk (st := s__law_led) l22 c22 k22
  have b22 := F22.binds2 (ps := ["deed", "used"]) rfl fun _ _ _ _ _ _ _ _ => rfl
  have F23 := fun_mk (st := s_law) l23 c23 k23
  have b23 := F23.binds1 (ps := ["script"]) rfl fun _ _ _ _ _ _ _ => rfl
  exact ⟨⟨f0, _, F0, PySem.W.mg_of X G a0, b0, f1, _, F1, PySem.W.mg_of X G a1, b1, f2, _, F2, PySem.W.mg_of X G a2, b2, f3, _, F3, PySem.W.mg_of X G a3, b3, f4, _, F4, PySem.W.mg_of X G a4, b4, f5, _, F5, PySem.W.mg_of X G a5, b5, f6, _, F6, PySem.W.mg_of X G a6, b6, f7, _, F7, PySem.W.mg_of X G a7, b7, f8, _, F8, PySem.W.mg_of X G a8, b8, f9, _, F9, PySem.W.mg_of X G a9, b9, f10, _, F10, PySem.W.mg_of X G a10, b10, f11, _, F11, PySem.W.mg_of X G a11, b11, f12, _, F12, PySem.W.mg_of X G a12, b12, f13, _, F13, PySem.W.mg_of X G a13, b13, f14, _, F14, PySem.W.mg_of X G a14, b14, f15, _, F15, PySem.W.mg_of X G a15, b15, f16, _, F16, PySem.W.mg_of X G a16, b16, f17, _, F17, PySem.W.mg_of X G a17, b17, f18, _, F18, PySem.W.mg_of X G a18, b18, f19, _, F19, PySem.W.mg_of X G a19, b19, f20, _, F20, PySem.W.mg_of X G a20, b20, f21, _, F21, PySem.W.mg_of X G a21, b21, f22, _, F22, PySem.W.mg_of X G a22, b22, f23, _, F23, PySem.W.mg_of X G a23, b23, PySem.W.mg_none_of X G z0, PySem.W.mg_none_of X G z1, PySem.W.mg_none_of X G z2, PySem.W.mg_none_of X G z3, PySem.W.mg_none_of X G z4, PySem.W.mg_none_of X G z5, PySem.W.mg_none_of X G z6, PySem.W.mg_none_of X G z7, PySem.W.mg_none_of X G z8, PySem.W.mg_none_of X G z9, PySem.W.mg_none_of X G z10, PySem.W.mg_none_of X G z11, PySem.W.mg_none_of X G z12, C_TooFew, PySem.W.mg_of X G ea_TooFew, ex_TooFew, sub_of_mro u_TooFew_TooFew⟩, rfl, fun s v => .of_eq rfl⟩
theorem all_mk {l : PySem.W.OpenLaw} {w : World} {K : PySem.W.Frag} {h : Heap} {mg : Str → Option Value} {fa : Addr} (X : K.In h) (G : h.Ns mainGlobals mg)
    {f0 : Addr} {od0 an0 : Option Addr} {sl0 : Array (Option Value)} {oc0 kV0 dc0 pm0 cd0 ct0 : Value}
    {f1 : Addr} {od1 an1 : Option Addr} {sl1 : Array (Option Value)} {oc1 kV1 dc1 pm1 cd1 ct1 : Value}
    {f2 : Addr} {od2 an2 : Option Addr} {sl2 : Array (Option Value)} {oc2 kV2 dc2 pm2 cd2 ct2 : Value}
    {f3 : Addr} {od3 an3 : Option Addr} {sl3 : Array (Option Value)} {oc3 kV3 dc3 pm3 cd3 ct3 : Value}
    {f4 : Addr} {od4 an4 : Option Addr} {sl4 : Array (Option Value)} {oc4 kV4 dc4 pm4 cd4 ct4 : Value}
    {f5 : Addr} {od5 an5 : Option Addr} {sl5 : Array (Option Value)} {oc5 kV5 dc5 pm5 cd5 ct5 : Value}
    {f6 : Addr} {od6 an6 : Option Addr} {sl6 : Array (Option Value)} {oc6 kV6 dc6 pm6 cd6 ct6 : Value}
    {f7 : Addr} {od7 an7 : Option Addr} {sl7 : Array (Option Value)} {oc7 kV7 dc7 pm7 cd7 ct7 : Value}
    {f8 : Addr} {od8 an8 : Option Addr} {sl8 : Array (Option Value)} {oc8 kV8 dc8 pm8 cd8 ct8 : Value}
    {f9 : Addr} {od9 an9 : Option Addr} {sl9 : Array (Option Value)} {oc9 kV9 dc9 pm9 cd9 ct9 : Value}
    {f10 : Addr} {od10 an10 : Option Addr} {sl10 : Array (Option Value)} {oc10 kV10 dc10 pm10 cd10 ct10 : Value}
    {f11 : Addr} {od11 an11 : Option Addr} {sl11 : Array (Option Value)} {oc11 kV11 dc11 pm11 cd11 ct11 : Value}
    {f12 : Addr} {od12 an12 : Option Addr} {sl12 : Array (Option Value)} {oc12 kV12 dc12 pm12 cd12 ct12 : Value}
    {f13 : Addr} {od13 an13 : Option Addr} {sl13 : Array (Option Value)} {oc13 kV13 dc13 pm13 cd13 ct13 : Value}
    {f14 : Addr} {od14 an14 : Option Addr} {sl14 : Array (Option Value)} {oc14 kV14 dc14 pm14 cd14 ct14 : Value}
    {f15 : Addr} {od15 an15 : Option Addr} {sl15 : Array (Option Value)} {oc15 kV15 dc15 pm15 cd15 ct15 : Value}
    {f16 : Addr} {od16 an16 : Option Addr} {sl16 : Array (Option Value)} {oc16 kV16 dc16 pm16 cd16 ct16 : Value}
    {f17 : Addr} {od17 an17 : Option Addr} {sl17 : Array (Option Value)} {oc17 kV17 dc17 pm17 cd17 ct17 : Value}
    {f18 : Addr} {od18 an18 : Option Addr} {sl18 : Array (Option Value)} {oc18 kV18 dc18 pm18 cd18 ct18 : Value}
    {f19 : Addr} {od19 an19 : Option Addr} {sl19 : Array (Option Value)} {oc19 kV19 dc19 pm19 cd19 ct19 : Value}
    {f20 : Addr} {od20 an20 : Option Addr} {sl20 : Array (Option Value)} {oc20 kV20 dc20 pm20 cd20 ct20 : Value}
    {f21 : Addr} {od21 an21 : Option Addr} {sl21 : Array (Option Value)} {oc21 kV21 dc21 pm21 cd21 ct21 : Value}
    {f22 : Addr} {od22 an22 : Option Addr} {sl22 : Array (Option Value)} {oc22 kV22 dc22 pm22 cd22 ct22 : Value}
    {f23 : Addr} {od23 an23 : Option Addr} {sl23 : Array (Option Value)} {oc23 kV23 dc23 pm23 cd23 ct23 : Value}
    {C_TooFew : Addr}
    (a0 : PySem.W.nsIn K mainGlobals "is_leaf" = some (some (.ref f0))) (l0 : K.lookup f0 = some ⟨oc0, od0, .func (PySem.W.fnOf "is_leaf" "is_leaf" (defArgs s_is_leaf) (defBody s_is_leaf) (defScope s_is_leaf) .none kV0 dc0 pm0 an0 cd0 ct0), sl0⟩) (c0 : PySem.W.codeIn K cd0 "is_leaf" = true) (k0 : PySem.W.keepIn K (.ref f0) = true)
    (a1 : PySem.W.nsIn K mainGlobals "places" = some (some (.ref f1))) (l1 : K.lookup f1 = some ⟨oc1, od1, .func (PySem.W.fnOf "places" "places" (defArgs s_places) (defBody s_places) (defScope s_places) .none kV1 dc1 pm1 an1 cd1 ct1), sl1⟩) (c1 : PySem.W.codeIn K cd1 "places" = true) (k1 : PySem.W.keepIn K (.ref f1) = true)
    (a2 : PySem.W.nsIn K mainGlobals "leaves" = some (some (.ref f2))) (l2 : K.lookup f2 = some ⟨oc2, od2, .func (PySem.W.fnOf "leaves" "leaves" (defArgs s_leaves) (defBody s_leaves) (defScope s_leaves) .none kV2 dc2 pm2 an2 cd2 ct2), sl2⟩) (c2 : PySem.W.codeIn K cd2 "leaves" = true) (k2 : PySem.W.keepIn K (.ref f2) = true)
    (a3 : PySem.W.nsIn K mainGlobals "part_at" = some (some (.ref f3))) (l3 : K.lookup f3 = some ⟨oc3, od3, .func (PySem.W.fnOf "part_at" "part_at" (defArgs s_part_at) (defBody s_part_at) (defScope s_part_at) .none kV3 dc3 pm3 an3 cd3 ct3), sl3⟩) (c3 : PySem.W.codeIn K cd3 "part_at" = true) (k3 : PySem.W.keepIn K (.ref f3) = true)
    (a4 : PySem.W.nsIn K mainGlobals "rank" = some (some (.ref f4))) (l4 : K.lookup f4 = some ⟨oc4, od4, .func (PySem.W.fnOf "rank" "rank" (defArgs s_rank) (defBody s_rank) (defScope s_rank) .none kV4 dc4 pm4 an4 cd4 ct4), sl4⟩) (c4 : PySem.W.codeIn K cd4 "rank" = true) (k4 : PySem.W.keepIn K (.ref f4) = true)
    (a5 : PySem.W.nsIn K mainGlobals "puts" = some (some (.ref f5))) (l5 : K.lookup f5 = some ⟨oc5, od5, .func (PySem.W.fnOf "puts" "puts" (defArgs s_puts) (defBody s_puts) (defScope s_puts) .none kV5 dc5 pm5 an5 cd5 ct5), sl5⟩) (c5 : PySem.W.codeIn K cd5 "puts" = true) (k5 : PySem.W.keepIn K (.ref f5) = true)
    (a6 : PySem.W.nsIn K mainGlobals "must_put" = some (some (.ref f6))) (l6 : K.lookup f6 = some ⟨oc6, od6, .func (PySem.W.fnOf "must_put" "must_put" (defArgs s_must_put) (defBody s_must_put) (defScope s_must_put) .none kV6 dc6 pm6 an6 cd6 ct6), sl6⟩) (c6 : PySem.W.codeIn K cd6 "must_put" = true) (k6 : PySem.W.keepIn K (.ref f6) = true)
    (a7 : PySem.W.nsIn K mainGlobals "least" = some (some (.ref f7))) (l7 : K.lookup f7 = some ⟨oc7, od7, .func (PySem.W.fnOf "least" "least" (defArgs s_least) (defBody s_least) (defScope s_least) .none kV7 dc7 pm7 an7 cd7 ct7), sl7⟩) (c7 : PySem.W.codeIn K cd7 "least" = true) (k7 : PySem.W.keepIn K (.ref f7) = true)
    (a8 : PySem.W.nsIn K mainGlobals "row_by_shelf" = some (some (.ref f8))) (l8 : K.lookup f8 = some ⟨oc8, od8, .func (PySem.W.fnOf "row_by_shelf" "row_by_shelf" (defArgs s_row_by_shelf) (defBody s_row_by_shelf) (defScope s_row_by_shelf) .none kV8 dc8 pm8 an8 cd8 ct8), sl8⟩) (c8 : PySem.W.codeIn K cd8 "row_by_shelf" = true) (k8 : PySem.W.keepIn K (.ref f8) = true)
    (a9 : PySem.W.nsIn K mainGlobals "row_by_boxes" = some (some (.ref f9))) (l9 : K.lookup f9 = some ⟨oc9, od9, .func (PySem.W.fnOf "row_by_boxes" "row_by_boxes" (defArgs s_row_by_boxes) (defBody s_row_by_boxes) (defScope s_row_by_boxes) .none kV9 dc9 pm9 an9 cd9 ct9), sl9⟩) (c9 : PySem.W.codeIn K cd9 "row_by_boxes" = true) (k9 : PySem.W.keepIn K (.ref f9) = true)
    (a10 : PySem.W.nsIn K mainGlobals "row_into" = some (some (.ref f10))) (l10 : K.lookup f10 = some ⟨oc10, od10, .func (PySem.W.fnOf "row_into" "row_into" (defArgs s_row_into) (defBody s_row_into) (defScope s_row_into) .none kV10 dc10 pm10 an10 cd10 ct10), sl10⟩) (c10 : PySem.W.codeIn K cd10 "row_into" = true) (k10 : PySem.W.keepIn K (.ref f10) = true)
    (a11 : PySem.W.nsIn K mainGlobals "row_for" = some (some (.ref f11))) (l11 : K.lookup f11 = some ⟨oc11, od11, .func (PySem.W.fnOf "row_for" "row_for" (defArgs s_row_for) (defBody s_row_for) (defScope s_row_for) .none kV11 dc11 pm11 an11 cd11 ct11), sl11⟩) (c11 : PySem.W.codeIn K cd11 "row_for" = true) (k11 : PySem.W.keepIn K (.ref f11) = true)
    (a12 : PySem.W.nsIn K mainGlobals "_law_at" = some (some (.ref f12))) (l12 : K.lookup f12 = some ⟨oc12, od12, .func (PySem.W.fnOf "_law_at" "_law_at" (defArgs s__law_at) (defBody s__law_at) (defScope s__law_at) .none kV12 dc12 pm12 an12 cd12 ct12), sl12⟩) (c12 : PySem.W.codeIn K cd12 "_law_at" = true) (k12 : PySem.W.keepIn K (.ref f12) = true)
    (a13 : PySem.W.nsIn K mainGlobals "_law_names" = some (some (.ref f13))) (l13 : K.lookup f13 = some ⟨oc13, od13, .func (PySem.W.fnOf "_law_names" "_law_names" (defArgs s__law_names) (defBody s__law_names) (defScope s__law_names) .none kV13 dc13 pm13 an13 cd13 ct13), sl13⟩) (c13 : PySem.W.codeIn K cd13 "_law_names" = true) (k13 : PySem.W.keepIn K (.ref f13) = true)
    (a14 : PySem.W.nsIn K mainGlobals "_law_many" = some (some (.ref f14))) (l14 : K.lookup f14 = some ⟨oc14, od14, .func (PySem.W.fnOf "_law_many" "_law_many" (defArgs s__law_many) (defBody s__law_many) (defScope s__law_many) .none kV14 dc14 pm14 an14 cd14 ct14), sl14⟩) (c14 : PySem.W.codeIn K cd14 "_law_many" = true) (k14 : PySem.W.keepIn K (.ref f14) = true)
    (a15 : PySem.W.nsIn K mainGlobals "_law_second" = some (some (.ref f15))) (l15 : K.lookup f15 = some ⟨oc15, od15, .func (PySem.W.fnOf "_law_second" "_law_second" (defArgs s__law_second) (defBody s__law_second) (defScope s__law_second) .none kV15 dc15 pm15 an15 cd15 ct15), sl15⟩) (c15 : PySem.W.codeIn K cd15 "_law_second" = true) (k15 : PySem.W.keepIn K (.ref f15) = true)
    (a16 : PySem.W.nsIn K mainGlobals "_law_tree" = some (some (.ref f16))) (l16 : K.lookup f16 = some ⟨oc16, od16, .func (PySem.W.fnOf "_law_tree" "_law_tree" (defArgs s__law_tree) (defBody s__law_tree) (defScope s__law_tree) .none kV16 dc16 pm16 an16 cd16 ct16), sl16⟩) (c16 : PySem.W.codeIn K cd16 "_law_tree" = true) (k16 : PySem.W.keepIn K (.ref f16) = true)
    (a17 : PySem.W.nsIn K mainGlobals "_law_ranks" = some (some (.ref f17))) (l17 : K.lookup f17 = some ⟨oc17, od17, .func (PySem.W.fnOf "_law_ranks" "_law_ranks" (defArgs s__law_ranks) (defBody s__law_ranks) (defScope s__law_ranks) .none kV17 dc17 pm17 an17 cd17 ct17), sl17⟩) (c17 : PySem.W.codeIn K cd17 "_law_ranks" = true) (k17 : PySem.W.keepIn K (.ref f17) = true)
    (a18 : PySem.W.nsIn K mainGlobals "_law_knots" = some (some (.ref f18))) (l18 : K.lookup f18 = some ⟨oc18, od18, .func (PySem.W.fnOf "_law_knots" "_law_knots" (defArgs s__law_knots) (defBody s__law_knots) (defScope s__law_knots) .none kV18 dc18 pm18 an18 cd18 ct18), sl18⟩) (c18 : PySem.W.codeIn K cd18 "_law_knots" = true) (k18 : PySem.W.keepIn K (.ref f18) = true)
    (a19 : PySem.W.nsIn K mainGlobals "_law_marked" = some (some (.ref f19))) (l19 : K.lookup f19 = some ⟨oc19, od19, .func (PySem.W.fnOf "_law_marked" "_law_marked" (defArgs s__law_marked) (defBody s__law_marked) (defScope s__law_marked) .none kV19 dc19 pm19 an19 cd19 ct19), sl19⟩) (c19 : PySem.W.codeIn K cd19 "_law_marked" = true) (k19 : PySem.W.keepIn K (.ref f19) = true)
    (a20 : PySem.W.nsIn K mainGlobals "_law_fits" = some (some (.ref f20))) (l20 : K.lookup f20 = some ⟨oc20, od20, .func (PySem.W.fnOf "_law_fits" "_law_fits" (defArgs s__law_fits) (defBody s__law_fits) (defScope s__law_fits) .none kV20 dc20 pm20 an20 cd20 ct20), sl20⟩) (c20 : PySem.W.codeIn K cd20 "_law_fits" = true) (k20 : PySem.W.keepIn K (.ref f20) = true)
    (a21 : PySem.W.nsIn K mainGlobals "_law_boxes" = some (some (.ref f21))) (l21 : K.lookup f21 = some ⟨oc21, od21, .func (PySem.W.fnOf "_law_boxes" "_law_boxes" (defArgs s__law_boxes) (defBody s__law_boxes) (defScope s__law_boxes) .none kV21 dc21 pm21 an21 cd21 ct21), sl21⟩) (c21 : PySem.W.codeIn K cd21 "_law_boxes" = true) (k21 : PySem.W.keepIn K (.ref f21) = true)
    (a22 : PySem.W.nsIn K mainGlobals "_law_led" = some (some (.ref f22))) (l22 : K.lookup f22 = some ⟨oc22, od22, .func (PySem.W.fnOf "_law_led" "_law_led" (defArgs s__law_led) (defBody s__law_led) (defScope s__law_led) .none kV22 dc22 pm22 an22 cd22 ct22), sl22⟩) (c22 : PySem.W.codeIn K cd22 "_law_led" = true) (k22 : PySem.W.keepIn K (.ref f22) = true)
    (a23 : PySem.W.nsIn K mainGlobals "law" = some (some (.ref f23))) (l23 : K.lookup f23 = some ⟨oc23, od23, .func (PySem.W.fnOf "law" "law" (defArgs s_law) (defBody s_law) (defScope s_law) .none kV23 dc23 pm23 an23 cd23 ct23), sl23⟩) (c23 : PySem.W.codeIn K cd23 "law" = true) (k23 : PySem.W.keepIn K (.ref f23) = true)
    (z0 : PySem.W.nsIn K mainGlobals "bool" = some none)
    (z1 : PySem.W.nsIn K mainGlobals "int" = some none)
    (z2 : PySem.W.nsIn K mainGlobals "isinstance" = some none)
    (z3 : PySem.W.nsIn K mainGlobals "len" = some none)
    (z4 : PySem.W.nsIn K mainGlobals "list" = some none)
    (z5 : PySem.W.nsIn K mainGlobals "max" = some none)
    (z6 : PySem.W.nsIn K mainGlobals "min" = some none)
    (z7 : PySem.W.nsIn K mainGlobals "range" = some none)
    (z8 : PySem.W.nsIn K mainGlobals "set" = some none)
    (z9 : PySem.W.nsIn K mainGlobals "sorted" = some none)
    (z10 : PySem.W.nsIn K mainGlobals "str" = some none)
    (z11 : PySem.W.nsIn K mainGlobals "tuple" = some none)
    (z12 : PySem.W.nsIn K mainGlobals "zip" = some none)
    (ea_TooFew : PySem.W.nsIn K mainGlobals "TooFew" = some (some (.ref C_TooFew)))
    (ex_TooFew : PySem.W.excIn K C_TooFew bmV "ValueError.__new__" = true)
    (u_TooFew_TooFew : PySem.W.mroIn K C_TooFew (.ref C_TooFew) = some true) (hfa : mg "law" = some (.ref fa)) :
    ∃ fd : FuncData, (∀ (s : Shared) (v : Value), BindsTo s fd ⟨[v], []⟩ [("script", v)]) ∧ ∀ base : Heap, K.In base → base.Ns mainGlobals mg → FnOk l.prog w K mg base (CXE l.prog w) 60 fa fd ["script"] (spLaw K) := by
  obtain ⟨T, e, b⟩ := txt_mk X G a0 l0 c0 k0 a1 l1 c1 k1 a2 l2 c2 k2 a3 l3 c3 k3 a4 l4 c4 k4 a5 l5 c5 k5 a6 l6 c6 k6 a7 l7 c7 k7 a8 l8 c8 k8 a9 l9 c9 k9 a10 l10 c10 k10 a11 l11 c11 k11 a12 l12 c12 k12 a13 l13 c13 k13 a14 l14 c14 k14 a15 l15 c15 k15 a16 l16 c16 k16 a17 l17 c17 k17 a18 l18 c18 k18 a19 l19 c19 k19 a20 l20 c20 k20 a21 l21 c21 k21 a22 l22 c22 k22 a23 l23 c23 k23 z0 z1 z2 z3 z4 z5 z6 z7 z8 z9 z10 z11 z12 ea_TooFew ex_TooFew u_TooFew_TooFew
  have e2 := hfa.symm.trans T.m_law
  cases e2
  exact ⟨T.d_law, b, fun base _ _ => ok_law T⟩
theorem walk {l : PySem.W.OpenLaw} {q : Program} {loose : List Str} {XP : (Str → Option Value) → Heap → Prop} {YP : World → Heap → Prop} {d : DefRec} {K : Params → PySem.W.Frag} (hn : l.most = some 63) (hdf : d.params.defaults = [])
    (hY : ∀ (w : World) (h : Heap), YP w h → (K w.params).In h)
    (F : ∀ (w : World) (mg : Str → Option Value) (fa : Addr) (h : Heap), (K w.params).In h → h.Ns mainGlobals mg → mg d.name = some (.ref fa) →
      ∃ fd : FuncData, (∀ (s : Shared) (u : Value), BindsTo s fd ⟨[u], []⟩ [("script", u)]) ∧ ∀ base : Heap, (K w.params).In base → base.Ns mainGlobals mg → FnOk l.prog w (K w.params) mg base (CXE l.prog w) 60 fa fd ["script"] (spLaw (K w.params))) :
    PySem.W.WalkO q loose XP YP l.row.toRowW d [] (fun f vs => PySem.call f vs) :=
  L2.walk_of (n := 63) (k := 60) (x := "script") (CX := fun w => (CXE l.prog w)) (sp := fun w => spLaw (K w.params)) hn (by decide) hdf ⟨rfl, by decide, by decide, rfl⟩ hY F (fun _ _ a ns hl _ hS => ⟨a, ns, rfl, hS, hl, fun _ => rfl⟩) fun _ _ _ _ _ z => by obtain ⟨_, _, _, _, _, _, _, _, _, _, _, z⟩ := z; exact z
end K31
open PySem PySem.W PyProof.Rows
set_option maxRecDepth 100000 in
set_option maxHeartbeats 0 in
theorem PySem.Challenge.cw_fewboxes_k31_the_told_row_holds_holds : PySem.Challenge.rw_fewboxes_k31_the_told_row_holds.Holds := by
  w_on; o_law; k_head; (case hw => w_witness2)
  k_fill
  refine K31.walk (l := PySem.Challenge.rw_fewboxes_k31_the_told_row_holds) rfl rfl (fun w h Y => PySem.W.kIn_of Y) ?F
  case F =>
    intro w mg fa h KX G hmg
    refine' K31.all_mk KX G ?a0 ?l0 ?c0 ?k0 ?a1 ?l1 ?c1 ?k1 ?a2 ?l2 ?c2 ?k2 ?a3 ?l3 ?c3 ?k3 ?a4 ?l4 ?c4 ?k4 ?a5 ?l5 ?c5 ?k5 ?a6 ?l6 ?c6 ?k6 ?a7 ?l7 ?c7 ?k7 ?a8 ?l8 ?c8 ?k8 ?a9 ?l9 ?c9 ?k9 ?a10 ?l10 ?c10 ?k10 ?a11 ?l11 ?c11 ?k11 ?a12 ?l12 ?c12 ?k12 ?a13 ?l13 ?c13 ?k13 ?a14 ?l14 ?c14 ?k14 ?a15 ?l15 ?c15 ?k15 ?a16 ?l16 ?c16 ?k16 ?a17 ?l17 ?c17 ?k17 ?a18 ?l18 ?c18 ?k18 ?a19 ?l19 ?c19 ?k19 ?a20 ?l20 ?c20 ?k20 ?a21 ?l21 ?c21 ?k21 ?a22 ?l22 ?c22 ?k22 ?a23 ?l23 ?c23 ?k23 ?z0 ?z1 ?z2 ?z3 ?z4 ?z5 ?z6 ?z7 ?z8 ?z9 ?z10 ?z11 ?z12 ?ea_TooFew ?ex_TooFew ?u_TooFew_TooFew hmg
    (case a0 => k_is)
    (case l0 => k_is)
    (case c0 => k_is)
    (case k0 => k_is)
    (case a1 => k_is)
    (case l1 => k_is)
    (case c1 => k_is)
    (case k1 => k_is)
    (case a2 => k_is)
    (case l2 => k_is)
    (case c2 => k_is)
    (case k2 => k_is)
    (case a3 => k_is)
    (case l3 => k_is)
    (case c3 => k_is)
    (case k3 => k_is)
    (case a4 => k_is)
    (case l4 => k_is)
    (case c4 => k_is)
    (case k4 => k_is)
    (case a5 => k_is)
    (case l5 => k_is)
    (case c5 => k_is)
    (case k5 => k_is)
    (case a6 => k_is)
    (case l6 => k_is)
    (case c6 => k_is)
    (case k6 => k_is)
    (case a7 => k_is)
    (case l7 => k_is)
    (case c7 => k_is)
    (case k7 => k_is)
    (case a8 => k_is)
    (case l8 => k_is)
    (case c8 => k_is)
    (case k8 => k_is)
    (case a9 => k_is)
    (case l9 => k_is)
    (case c9 => k_is)
    (case k9 => k_is)
    (case a10 => k_is)
    (case l10 => k_is)
    (case c10 => k_is)
    (case k10 => k_is)
    (case a11 => k_is)
    (case l11 => k_is)
    (case c11 => k_is)
    (case k11 => k_is)
    (case a12 => k_is)
    (case l12 => k_is)
    (case c12 => k_is)
    (case k12 => k_is)
    (case a13 => k_is)
    (case l13 => k_is)
    (case c13 => k_is)
    (case k13 => k_is)
    (case a14 => k_is)
    (case l14 => k_is)
    (case c14 => k_is)
    (case k14 => k_is)
    (case a15 => k_is)
    (case l15 => k_is)
    (case c15 => k_is)
    (case k15 => k_is)
    (case a16 => k_is)
    (case l16 => k_is)
    (case c16 => k_is)
    (case k16 => k_is)
    (case a17 => k_is)
    (case l17 => k_is)
    (case c17 => k_is)
    (case k17 => k_is)
    (case a18 => k_is)
    (case l18 => k_is)
    (case c18 => k_is)
    (case k18 => k_is)
    (case a19 => k_is)
    (case l19 => k_is)
    (case c19 => k_is)
    (case k19 => k_is)
    (case a20 => k_is)
    (case l20 => k_is)
    (case c20 => k_is)
    (case k20 => k_is)
    (case a21 => k_is)
    (case l21 => k_is)
    (case c21 => k_is)
    (case k21 => k_is)
    (case a22 => k_is)
    (case l22 => k_is)
    (case c22 => k_is)
    (case k22 => k_is)
    (case a23 => k_is)
    (case l23 => k_is)
    (case c23 => k_is)
    (case k23 => k_is)
    (case z0 => k_is)
    (case z1 => k_is)
    (case z2 => k_is)
    (case z3 => k_is)
    (case z4 => k_is)
    (case z5 => k_is)
    (case z6 => k_is)
    (case z7 => k_is)
    (case z8 => k_is)
    (case z9 => k_is)
    (case z10 => k_is)
    (case z11 => k_is)
    (case z12 => k_is)
    (case ea_TooFew => k_is)
    (case ex_TooFew => k_exc)
    (case u_TooFew_TooFew => k_is)
#print axioms PySem.Challenge.cw_fewboxes_k31_the_told_row_holds_holds
