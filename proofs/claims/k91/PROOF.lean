import PyProof.Rows.All
import Wide.All
import OpenK.AllK
import Wide.FinOn
import Lean
import PyProof.EqAt
import PyProof.EqKinds
import PyProof.NeKinds
import PyProof.TupleCall
import PyProof.WalksEnum
import PyProof.EnumStmt
import PyProof.ZipIter
import PyProof.Draws
import PyProof.EnumMake
import PyProof.WalksMore
import KE.KIntText
import PyProof.CallStr
import PyProof.StrCalls2
import PyProof.StrLawsTight
import PyProof.Rows.StrItems
import PySem.Challenge.RW_fewboxes_k91_whole_from_texts
set_option Elab.async false
set_option linter.all false
set_option maxRecDepth 100000
namespace L2
open PySem PySem.Spec PyProof.Rows
noncomputable abbrev Key := Sum Int Str
noncomputable def keyIs : Key → Value → Bool
 | .inl k,v => Value.isInt k v
 | .inr x,v => Value.isStrOf x v
noncomputable def keyH (w : World) : Key → Int
 | .inl k => hashInt k
 | .inr x => hashStr w x
theorem keyIs_shape : ∀ {k : Key} {v : Value},keyIs k v = true → (∃ i t,k = Sum.inl i ∧ v = Value.int i t) ∨ (∃ x t,k = Sum.inr x ∧ v = Value.str x t)
 | .inl i,v,h => by
  obtain ⟨t,e⟩ := Value.isInt_shape (k := i) (v := v) h
  exact .inl ⟨i,t,rfl,e⟩
 | .inr x,v,h => by
  obtain ⟨t,e⟩ := Value.isStrOf_shape (x := x) (v := v) h
  exact .inr ⟨x,t,rfl,e⟩
theorem keyIs_int (i : Int) (t : Tok) : keyIs (.inl i) (.int i t) = true := by simp [keyIs,Value.isInt]
theorem keyIs_str (x : Str) (t : Tok) : keyIs (.inr x) (.str x t) = true := by simp [keyIs,Value.isStrOf]
theorem key_ll (a b : Int) : decide ((Sum.inl a : Key) = Sum.inl b) = (a == b) := by
 by_cases e : a = b
 · subst e; simp
 · have h : ¬ (Sum.inl a : Key) = Sum.inl b := fun q => e (Sum.inl.inj q)
   rw [decide_eq_false h]
   exact (beq_eq_false_iff_ne.mpr e).symm
theorem key_rr (a b : Str) : decide ((Sum.inr a : Key) = Sum.inr b) = decide (a = b) := by
 by_cases e : a = b
 · subst e; simp
 · have h : ¬ (Sum.inr a : Key) = Sum.inr b := fun q => e (Sum.inr.inj q)
   rw [decide_eq_false h,decide_eq_false e]
theorem key_lr (a : Int) (b : Str) : decide ((Sum.inl a : Key) = Sum.inr b) = false := decide_eq_false (fun q => nomatch q)
theorem key_rl (a : Str) (b : Int) : decide ((Sum.inr a : Key) = Sum.inl b) = false := decide_eq_false (fun q => nomatch q)
noncomputable def mixKind (prog : Program) (w : World) : PySem.KeyKind prog w Key where
 is := keyIs
 hash := keyH w
 inj := fun v a b ha hb => by
  rcases keyIs_shape ha with ⟨i,t,rfl,rfl⟩ | ⟨x,t,rfl,rfl⟩
  · rcases keyIs_shape hb with ⟨j,u,rfl,e⟩ | ⟨y,u,rfl,e⟩
    · injection e with e1 _; rw [e1]
    · exact nomatch e
  · rcases keyIs_shape hb with ⟨j,u,rfl,e⟩ | ⟨y,u,rfl,e⟩
    · exact nomatch e
    · injection e with e1 _; rw [e1]
 byValue := fun k v h => by
  rcases keyIs_shape h with ⟨i,t,rfl,rfl⟩ | ⟨x,t,rfl,rfl⟩ <;> rfl
 pyHash := fun hv h => by
  rcases keyIs_shape hv with ⟨i,t,rfl,rfl⟩ | ⟨x,t,rfl,rfl⟩
  · exact wpAny_pyHash_int h
  · exact wpAny_pyHash_str h
 eqBool := fun hu hv h => by
  rcases keyIs_shape hu with ⟨i,t,rfl,rfl⟩ | ⟨x,t,rfl,rfl⟩
  · rcases keyIs_shape hv with ⟨j,u,rfl,rfl⟩ | ⟨y,u,rfl,rfl⟩
    · rw [key_ll] at h; exact wpAny_eqBool_int h
    · rw [key_lr] at h; exact SeqAt.EqAt.int_str i t y u _ _ _ _ h
  · rcases keyIs_shape hv with ⟨j,u,rfl,rfl⟩ | ⟨y,u,rfl,rfl⟩
    · rw [key_rl] at h; exact SeqAt.EqAt.str_int x t j u _ _ _ _ h
    · rw [key_rr] at h; exact wpAny_eqBool_str h
 «strs» := fun k x t v h => by
  rcases keyIs_shape h with ⟨i,u,rfl,e⟩ | ⟨y,u,rfl,e⟩
  · exact nomatch e
  · injection e with e1 _
    subst e1
    cases v <;> rfl
theorem mixKind_int (prog : Program) (w : World) (i : Int) (t : Tok) : (mixKind prog w).is (.inl i) (.int i t) = true := keyIs_int i t
theorem mixKind_str (prog : Program) (w : World) (x : Str) (t : Tok) : (mixKind prog w).is (.inr x) (.str x t) = true := keyIs_str x t
end L2
namespace L2
open PySem PySem.Spec PyProof.Rows
inductive V where
 | non | bl (b : Bool) | int (i : Int) | str (x : Str) | byt (b : Array UInt8) | flt (b : UInt64) | ref (a : Addr) | ty (n : String)
 deriving DecidableEq
noncomputable def RelV : V → Value → Prop
 | .non,u => u = Value.none
 | .bl b,u => u = Value.bool b
 | .int i,u => ∃ t,u = Value.int i t
 | .str x,u => ∃ t,u = Value.str x t
 | .byt b,u => ∃ t,u = Value.bytes b t
 | .flt b,u => ∃ t,u = Value.float b t
 | .ref a,u => u = Value.ref a
 | .ty n,u => u = Value.type n
noncomputable abbrev Vals : List V → List Value → Prop := Paired RelV
theorem Vals.length {xs : List V} {us : List Value} (r : Vals xs us) : xs.length = us.length := Paired.length r
theorem Vals.get : ∀ {xs : List V} {us : List Value} {i : Nat} {x : V},Vals xs us → xs[i]? = some x → ∃ u,us[i]? = some u ∧ RelV x u
 | _,_,_,_,.nil,e => by simp at e
 | _,_,0,_,.cons r _,e => by simp at e; subst e; exact ⟨_,rfl,r⟩
 | _,_,i + 1,x,.cons _ t,e => by
  obtain ⟨u,h1,h2⟩ := Vals.get (i := i) (x := x) t (by simpa using e)
  exact ⟨u,by simpa using h1,h2⟩
theorem Vals.set {x : V} {u : Value} (r : RelV x u) : ∀ {xs : List V} {us : List Value} (i : Nat),Vals xs us → Vals (xs.set i x) (us.set i u)
 | _,_,_,.nil => .nil
 | _,_,0,.cons _ t => .cons r t
 | _,_,i + 1,.cons q t => .cons q (Vals.set r i t)
theorem Vals.append : ∀ {xs ys : List V} {us ws : List Value},Vals xs us → Vals ys ws → Vals (xs ++ ys) (us ++ ws)
 | _,_,_,_,.nil,s => s
 | _,_,_,_,.cons r t,s => .cons r (Vals.append t s)
theorem Vals.take : ∀ {xs : List V} {us : List Value} (n : Nat),Vals xs us → Vals (xs.take n) (us.take n)
 | _,_,0,_ => .nil
 | _,_,_ + 1,.nil => .nil
 | _,_,n + 1,.cons r t => .cons r (Vals.take n t)
theorem Vals.drop : ∀ {xs : List V} {us : List Value} (n : Nat),Vals xs us → Vals (xs.drop n) (us.drop n)
 | _,_,0,r => r
 | _,_,_ + 1,.nil => .nil
 | _,_,n + 1,.cons _ t => Vals.drop n t
noncomputable def RelO : Option V → Option Value → Prop
 | some v,some u => RelV v u
 | none,none => True
 | _,_ => False
noncomputable def KV {κ : Type} : List (κ × V) → List (κ × Value) → Prop := Paired fun (p : κ × V) (q : κ × Value) => p.1 = q.1 ∧ RelV p.2 q.2
noncomputable def kV : Key → V
 | .inl i => .int i
 | .inr x => .str x
inductive HO where
 | lst (xs : List V)
 | tup (xs : List V)
 | dK (kvs : List (Key × V)) | dT (kvs : List (List Key × V))
 | set (S : Int → Bool) (n : Nat)
 | ins (C dx : Addr) (fs : List (Str × V))
 | own (x : Addr)
 | xd (fs : List (Str × V))
 | met (f x : Addr)
 | rng (lo hi : Int)
 | frz (o : Obj) (u : HO)
 | tbl (ps : Array Value)
 | ext (φ : Heap → Prop)
noncomputable abbrev Hp := Addr → Option HO
noncomputable def upd (H : Hp) (a : Addr) (o : HO) : Hp := fun b => if b = a then some o else H b
theorem upd_same {H : Hp} {a : Addr} {o : HO} : upd H a o a = some o := by unfold upd; rw [if_pos rfl]
theorem upd_ne {H : Hp} {a b : Addr} {o : HO} (h : b ≠ a) : upd H a o b = H b := by unfold upd; rw [if_neg h]
theorem ne_of {H : Hp} {a b : Addr} {o u : HO} (h : H a = some o) (h' : H b = some u) (d : o ≠ u) : a ≠ b := by
 intro e; subst e; rw [h] at h'; exact d (Option.some.inj h')
theorem ne_of_none {H : Hp} {a b : Addr} {o : HO} (h : H a = some o) (h' : H b = none) : a ≠ b := by
 intro e; subst e; rw [h] at h'; cases h'
section
variable (P : Program) (w : World)
noncomputable def ObjOk (H : Hp) (h : Heap) (a : Addr) : HO → Prop
 | .lst xs => xs.length ≤ sizeLine ∧ ∃ (its : List Value) (n : Nat),Vals xs its ∧ h.get? a = some { cls := .type "list",data := .seq its.toArray n }
 | .tup xs => xs.length ≤ sizeLine ∧ ∃ its : List Value,Vals xs its ∧ IsTup h a its.toArray
 | .dK kvs => kvs.length ≤ sizeLine ∧ (a == sysModules) = false ∧ ∃ vs,KV kvs vs ∧ h.DictOf (mixKind P w) a vs
 | .dT kvs => kvs.length ≤ sizeLine ∧ (a == sysModules) = false ∧ ∃ xs : List (List Key × Addr × Value),
  Paired (fun (p : List Key × V) (q : List Key × Addr × Value) => p.1 = q.1 ∧ H q.2.1 = some (.tup (p.1.map kV)) ∧ RelV p.2 q.2.2) kvs xs ∧
  ∃ o es ep,h.get? a = some o ∧ o.ExactDict ∧ o.data = .dict es ep ∧ es.toList = xs.map (entryOfKey (tupleKind (mixKind P w))) ∧ (xs.map (·.1)).Nodup
 | .set S n => h.SetOf (intKind P w) a S n
 | .ins C dx fs => H dx = some (.own a) ∧ fs.length ≤ 1000 ∧ dx ≠ a ∧ h.get? a = some (PySem.W.instObj C dx) ∧
  ∃ mA,h.Ns1 dx mA ∧ (∀ f,RelO (fs.lookup f) (mA f)) ∧ PySem.Within mA (fs.map (·.1))
 | .own _ => ∃ o,h.get? a = some o
 | .xd fs => ∃ mA,h.Ns1 a mA ∧ ∀ f,RelO (fs.lookup f) (mA f)
 | .rng lo hi => ∃ t u v,h.get? a = some { cls := .type "range",data := .fields #[.int lo t,.int hi u,.int 1 v] }
 | .frz o u => h.get? a = some o ∧ ObjOk H h a u
 | .tbl ps => h.get? a = some { cls := .none,data := .fields ps }
 | .met f x => h.get? a = some (PySem.W.methodObj (.ref f) (.ref x))
 | .ext φ => φ h ∧ (∃ o,h.get? a = some o) ∧ ∀ h1 h2 : Heap,φ h1 → (∀ o,h1.get? a = some o → h2.get? a = some o) → φ h2
noncomputable def HOk (H : Hp) (h : Heap) : Prop := ∀ a o,H a = some o → ObjOk P w H h a o
end
section
variable {P : Program} {w : World} {H H' : Hp} {h h' : Heap} {a : Addr} {o : HO}
theorem ObjOk.lt (x : ObjOk P w H h a o) : a < h.objs.size := by
 cases o with
 | lst xs => obtain ⟨_,_,_,_,e⟩ := x; exact Heap.lt_size e
 | tup xs => obtain ⟨_,_,_,p⟩ := x; exact p.lt
 | dK kvs => obtain ⟨_,_,_,_,o,_,_,e,_⟩ := x; exact Heap.lt_size e
 | dT kvs => obtain ⟨_,_,_,_,o,_,_,e,_⟩ := x; exact Heap.lt_size e
 | set S n => obtain ⟨o,_,_,_,e,_⟩ := x; exact Heap.lt_size e
 | ins C dx fs => obtain ⟨_,_,_,e,_⟩ := x; exact Heap.lt_size e
 | own y => obtain ⟨_,e⟩ := x; exact Heap.lt_size e
 | xd fs => obtain ⟨_,⟨_,_,_,e,_⟩,_⟩ := x; exact Heap.lt_size e
 | rng lo hi => obtain ⟨_,_,_,e⟩ := x; exact Heap.lt_size e
 | frz ob u => obtain ⟨e,_⟩ := x; exact Heap.lt_size e
 | tbl ps => exact Heap.lt_size (show h.get? a = some _ from x)
 | met f y => exact Heap.lt_size (show h.get? a = some _ from x)
 | ext φ => obtain ⟨_,⟨_,e⟩,_⟩ := x; exact Heap.lt_size e
theorem Paired.mapP {α β : Type} {F G : α → β → Prop} : ∀ {l₁ : List α} {l₂ : List β},Paired F l₁ l₂ → (∀ a b,F a b → G a b) → Paired G l₁ l₂
 | _,_,.nil,_ => .nil
 | _,_,.cons r t,f => .cons (f _ _ r) (Paired.mapP t f)
theorem ObjOk.stay (x : ObjOk P w H h a o) (k : ∀ b u,(b = a ∨ H b = some (.own a)) → h.get? b = some u → h'.get? b = some u)
 (ho : ∀ b,H b = some (.own a) → H' b = some (.own a)) (ht : ∀ b xs,H b = some (.tup xs) → H' b = some (.tup xs)) : ObjOk P w H' h' a o := by
 induction o with
 | lst xs => obtain ⟨z,its,n,r,e⟩ := x; exact ⟨z,its,n,r,k _ _ (.inl rfl) e⟩
 | tup xs => obtain ⟨z,its,r,ob,e,c⟩ := x; exact ⟨z,its,r,ob,k _ _ (.inl rfl) e,c⟩
 | dK kvs => obtain ⟨z,y,vs,r,ob,es,ep,e,c⟩ := x; exact ⟨z,y,vs,r,ob,es,ep,k _ _ (.inl rfl) e,c⟩
 | dT kvs =>
  obtain ⟨z,y,xs,r,ob,es,ep,e,c⟩ := x
  exact ⟨z,y,xs,Paired.mapP r fun p q z => ⟨z.1,ht _ _ z.2.1,z.2.2⟩,ob,es,ep,k _ _ (.inl rfl) e,c⟩
 | set S n => obtain ⟨ob,es,ep,t,e,c⟩ := x; exact ⟨ob,es,ep,t,k _ _ (.inl rfl) e,c⟩
 | ins C dx fs =>
  obtain ⟨d,z,ne,e,mA,⟨od,es,ep,e2,c⟩,r⟩ := x
  exact ⟨ho _ d,z,ne,k _ _ (.inl rfl) e,mA,⟨od,es,ep,k _ _ (.inr d) e2,c⟩,r⟩
 | own y => obtain ⟨ob,e⟩ := x; exact ⟨ob,k _ _ (.inl rfl) e⟩
 | xd fs => obtain ⟨mA,⟨od,es,ep,e,c⟩,r⟩ := x; exact ⟨mA,⟨od,es,ep,k _ _ (.inl rfl) e,c⟩,r⟩
 | rng lo hi => obtain ⟨t,u,v,e⟩ := x; exact ⟨t,u,v,k _ _ (.inl rfl) e⟩
 | frz ob u ih => obtain ⟨e,q⟩ := x; exact ⟨k _ _ (.inl rfl) e,ih q⟩
 | tbl ps =>
  have e : h.get? a = some { cls := .none,data := .fields ps } := x
  show h'.get? a = some { cls := .none,data := .fields ps }
  exact k a _ (.inl rfl) e
 | met f y =>
  have e : h.get? a = some (PySem.W.methodObj (.ref f) (.ref y)) := x
  show h'.get? a = some (PySem.W.methodObj (.ref f) (.ref y))
  exact k a _ (.inl rfl) e
 | ext φ => obtain ⟨p,⟨o,e⟩,st⟩ := x; exact ⟨st _ _ p fun o q => k _ _ (.inl rfl) q,⟨o,k _ _ (.inl rfl) e⟩,st⟩
theorem HOk.lt (x : HOk P w H h) (e : H a = some o) : a < h.objs.size := (x a o e).lt
theorem HOk.fresh (x : HOk P w H h) (e : h.objs.size ≤ a) : H a = none := by
 cases q : H a with
 | none => rfl
 | some u => exact absurd (Nat.lt_of_lt_of_le (x.lt q) e) (Nat.lt_irrefl _)
theorem HOk.kept (x : HOk P w H h) (k : ∀ b u,h.get? b = some u → h'.get? b = some u) : HOk P w H h' := fun a o e =>
 (x a o e).stay (fun b u _ q => k b u q) (fun _ q => q) fun _ _ q => q
theorem HOk.laid (x : HOk P w H h) (k : ∀ b u,h.get? b = some u → h'.get? b = some u) (hp : h.objs.size ≤ a) (new : ObjOk P w (upd H a o) h' a o) : HOk P w (upd H a o) h' := fun b u e => by
 have hn := x.fresh hp
 by_cases hb : b = a
 · subst hb; rw [upd_same] at e; cases e; exact new
 · rw [upd_ne hb] at e
   exact (x b u e).stay (fun c v _ q => k c v q) (fun c q => by rw [upd_ne (ne_of_none q hn)]; exact q) fun c xs q => by rw [upd_ne (ne_of_none q hn)]; exact q
end
noncomputable def Rd (H : Hp) (a : Addr) (u : HO) : Prop := H a = some u ∨ ∃ o,H a = some (.frz o u)
theorem Rd.of {H : Hp} {a : Addr} {u : HO} (h : H a = some u) : Rd H a u := .inl h
theorem Rd.ok {P : Program} {w : World} {H : Hp} {h : Heap} {a : Addr} {u : HO} (r : Rd H a u) (x : HOk P w H h) : ObjOk P w H h a u := by
 rcases r with r | ⟨o,r⟩
 · exact x a u r
 · obtain ⟨_,q⟩ := x a _ r
   exact q
noncomputable def Mut : Option HO → Prop
 | some (.lst _) => True
 | some (.dK _) => True
 | some (.dT _) => True
 | some (.set _ _) => True
 | some (.ins _ _ _) => True
 | some (.ext _) => True
 | _ => False
section
variable {P : Program} {w : World} {H : Hp} {h h' : Heap} {x e : Addr} {o' : HO}
theorem HOk.write (ok : HOk P w H h) (mu : Mut (H x)) (he : e = x ∨ H e = some (.own x)) (k : ∀ b u,b ≠ e → h.get? b = some u → h'.get? b = some u) (heo : ∃ u,h'.get? e = some u)
 (new : ObjOk P w (upd H x o') h' x o') : HOk P w (upd H x o') h' := fun b u q => by
 have nown : ∀ c y,H c = some (.own y) → c ≠ x := fun c y r z => by subst z; rw [r] at mu; exact mu
 have ntup : ∀ c xs,H c = some (.tup xs) → c ≠ x := fun c xs r z => by subst z; rw [r] at mu; exact mu
 by_cases hb : b = x
 · subst hb; rw [upd_same] at q; cases q; exact new
 · rw [upd_ne hb] at q
   by_cases hbe : b = e
   · have q' : H b = some (.own x) := by
      rcases he with z | z
      · exact absurd (hbe.trans z) hb
      · rw [hbe]; exact z
     rw [q] at q'; cases q'
     obtain ⟨v,hv⟩ := heo
     exact ⟨v,by rw [hbe]; exact hv⟩
   · refine (ok b u q).stay (fun c v hc r => k c v ?_ r) (fun c r => by rw [upd_ne (nown c b r)]; exact r) fun c xs r => by rw [upd_ne (ntup c xs r)]; exact r
     rcases hc with rfl | hc
     · exact hbe
     · rintro rfl
       rcases he with z | z
       · exact nown c b hc z
       · rw [hc] at z; cases z; exact hb rfl
end
structure Un (fs ex : List Addr) (H H' : Hp) (h h' : Heap) : Prop where
 keep : ∀ b o,h.get? b = some o → H b = none → b ∉ fs → b ∉ ex → h'.get? b = some o
 slot : ∀ b o,h.get? b = some o → H b = none → b ∈ fs → b ∉ ex → ∃ sl,h'.get? b = some { o with slots := sl }
 free : ∀ b o,h.get? b = some o → H b = none → b ∉ ex → H' b = none
 there : ∀ b o,h.get? b = some o → b ∉ ex → ∃ o',h'.get? b = some o'
 tups : ∀ b xs,H b = some (.tup xs) → H' b = some (.tup xs)
 frzs : ∀ b o u,H b = some (.frz o u) → H' b = some (.frz o u)
 tbls : ∀ b ps,H b = some (.tbl ps) → ∃ more,H' b = some (.tbl (ps ++ more))
section
variable {fs fs' ex ex' : List Addr} {H H1 H2 : Hp} {h h1 h2 h' : Heap} {a x e : Addr} {o : HO}
theorem Un.any (u : Un fs ex H H1 h h1) {b : Addr} {ob : Obj} (q : h.get? b = some ob) (n : H b = none) (hx : b ∉ ex) : ∃ sl,h1.get? b = some { ob with slots := sl } := by
 by_cases hb : b ∈ fs
 · exact u.slot b ob q n hb hx
 · exact ⟨ob.slots,u.keep b ob q n hb hx⟩
theorem Un.trans (a : Un fs ex H H1 h h1) (b : Un fs ex H1 H2 h1 h2) : Un fs ex H H2 h h2 where
 keep := fun c ob q n hc hx => b.keep c ob (a.keep c ob q n hc hx) (a.free c ob q n hx) hc hx
 slot := fun c ob q n hc hx => by
  obtain ⟨sl,e1⟩ := a.slot c ob q n hc hx
  obtain ⟨sl',e2⟩ := b.slot c _ e1 (a.free c ob q n hx) hc hx
  exact ⟨sl',e2⟩
 free := fun c ob q n hx => by
  obtain ⟨o',e1⟩ := a.there c ob q hx
  exact b.free c o' e1 (a.free c ob q n hx) hx
 there := fun c ob q hx => by
  obtain ⟨o',e1⟩ := a.there c ob q hx
  exact b.there c o' e1 hx
 tups := fun c xs q => b.tups c xs (a.tups c xs q)
 frzs := fun c ob xs q => b.frzs c ob xs (a.frzs c ob xs q)
 tbls := fun c ps q => by
  obtain ⟨m1,e1⟩ := a.tbls c ps q
  obtain ⟨m2,e2⟩ := b.tbls c _ e1
  exact ⟨m1 ++ m2,by rw [e2,Array.append_assoc]⟩
theorem Un.kept (k : ∀ b u,h.get? b = some u → h'.get? b = some u) : Un fs ex H H h h' :=
 ⟨fun b ob q _ _ _ => k b ob q,fun b ob q _ _ _ => ⟨ob.slots,k b ob q⟩,fun _ _ _ n _ => n,fun b ob q _ => ⟨ob,k b ob q⟩,fun _ _ q => q,fun _ _ _ q => q,fun _ ps q => ⟨#[],by rw [q]; simp⟩⟩
theorem Un.refl : Un fs ex H H h h := Un.kept fun _ _ q => q
theorem Un.laid (k : ∀ b u,h.get? b = some u → h'.get? b = some u) (hp : h.objs.size ≤ a) (hn : H a = none) : Un fs ex H (upd H a o) h h' where
 keep := fun b u q _ _ _ => k b u q
 slot := fun b u q _ _ _ => ⟨u.slots,k b u q⟩
 free := fun b u q n _ => by rw [upd_ne (Nat.ne_of_lt (Nat.lt_of_lt_of_le (Heap.lt_size q) hp))]; exact n
 there := fun b u q _ => ⟨u,k b u q⟩
 tups := fun b xs q => by rw [upd_ne (ne_of_none q hn)]; exact q
 frzs := fun b u xs q => by rw [upd_ne (ne_of_none q hn)]; exact q
 tbls := fun b ps q => ⟨#[],by rw [upd_ne (ne_of_none q hn),q]; simp⟩
theorem Un.write (mu : Mut (H x)) (he : e = x ∨ H e = some (.own x)) (k : ∀ b u,b ≠ e → h.get? b = some u → h'.get? b = some u) (heo : ∃ u,h'.get? e = some u) : Un fs ex H (upd H x o) h h' := by
 have hx : ∀ b,H b = none → b ≠ x := fun b n z => by subst z; rw [n] at mu; exact mu
 have hb : ∀ b,H b = none → b ≠ e := fun b n z => by
  subst z
  rcases he with r | r
  · exact hx b n r
  · rw [n] at r; cases r
 have hm : ∀ b u,H b = some u → ¬ Mut (some u) → b ≠ x := fun b u q nm z => by subst z; rw [q] at mu; exact nm mu
 refine ⟨fun b u q n _ _ => k b u (hb b n) q,fun b u q n _ _ => ⟨u.slots,k b u (hb b n) q⟩,fun b u q n _ => by rw [upd_ne (hx b n)]; exact n,fun b u q _ => ?_,
  fun b xs q => by rw [upd_ne (hm b _ q fun z => z)]; exact q,fun b u xs q => by rw [upd_ne (hm b _ q fun z => z)]; exact q,fun b ps q => ⟨#[],by rw [upd_ne (hm b _ q fun z => z),q]; simp⟩⟩
 by_cases hbe : b = e
 · subst hbe; exact heo
 · exact ⟨u,k b u hbe q⟩
theorem Un.mono (u : Un fs ex H H1 h h1) (hs : ∀ b ∈ fs,b ∈ fs') (hx : ∀ b ∈ ex,b ∈ ex') : Un fs' ex' H H1 h h1 :=
 ⟨fun b ob q n hb he => u.keep b ob q n (fun z => hb (hs b z)) fun z => he (hx b z),fun _ _ q n _ he => u.any q n fun z => he (hx _ z),fun b ob q n he => u.free b ob q n fun z => he (hx b z),fun b ob q he => u.there b ob q fun z => he (hx b z),u.tups,u.frzs,u.tbls⟩
end
noncomputable def trk (h : Heap) (H : Hp) : List Addr := (List.range h.objs.size).filter fun a => (H a).isSome
noncomputable def hidT (h : Heap) (H : Hp) : Heap := PySem.W.hideAll h (trk h H)
theorem hidT_size (h : Heap) (H : Hp) : (hidT h H).objs.size = h.objs.size := PySem.W.hideAll_size _ _
theorem hidT_get {h : Heap} {H : Hp} {b : Addr} {o : Obj} (e : h.get? b = some o) (n : H b = none) : (hidT h H).get? b = some o :=
 PySem.W.hideAll_get _ e fun hm => by
  have q : (H b).isSome = true := (List.mem_filter.mp hm).2
  rw [n] at q; simp at q
theorem of_hidT {h : Heap} {H : Hp} {b : Addr} {o : Obj} (e : (hidT h H).get? b = some o) : h.get? b = some o ∧ H b = none := by
 have e' : h.get? b = some o := PySem.W.of_hideAll (trk h H) e
 refine ⟨e',?_⟩
 cases q : H b with
 | none => rfl
 | some x =>
  have hm : b ∈ trk h H := List.mem_filter.mpr ⟨List.mem_range.mpr (Heap.lt_size e'),by simp [q]⟩
  have z : (hidT h H).get? b = none := PySem.W.hideAll_none (trk h H) hm
  rw [z] at e; cases e
noncomputable def allNews (g h : Heap) (L : Addr) : List (Addr × Obj) := (List.range h.objs.size).filterMap fun a => if a = L ∨ (g.get? a).isSome = true then none else (h.get? a).map fun o => (a,o)
noncomputable def rest (g h : Heap) (L d : Addr) : List (Addr × Obj) := (allNews g h L).filter fun p => decide (p.1 ≠ d)
end L2
namespace L2
open PySem PySem.Spec PyProof.Rows
structure Mod (K : PySem.W.Frag) (mg : Str → Option Value) (base : Heap) : Prop where
 kin : K.In base
 glob : base.Ns mainGlobals mg
 blt : ∃ mb,base.Ns builtinsNs mb ∧ ∀ x : Str,x ≠ "__name__" → mb x = bootBuiltins x
 nolimit : base.NoLimit
/-- the context: a def's body (or a comprehension's block) running. base: fixed through the whole law; s₀,H₀: the entry; outer: the frames whose slots others may change (a def's callers); stack: all frames that run;
 ex: iterators that were made ahead of the entry and are walked here (a comprehension's); fn: the names whose cells were made at the entry (a def: all; a comprehension's block: its own); calm: not within an except suite; pn: pins that every state bears; xe: what is wanted of an exception that leaves the code -/
structure Cx where
 prog : Program
 w : World
 K : PySem.W.Frag
 mg : Str → Option Value
 base : Heap
 A : Around
 N : List Str
 s₀ : Shared
 H₀ : Hp
 env : Env
 outer : List Env
 stack : List Env
 ex : List Addr
 fn : Str → Bool
 calm : Bool
 pn : List (Addr × Obj)
 xe : Value → Shared → Prop
noncomputable def frs (l : List Env) : List Addr := l.filterMap (·.frame)
noncomputable abbrev Cx.fs (X : Cx) : List Addr := frs X.outer
noncomputable def Vis (sc : Scope) (x : Str) : Prop := sc.names.lookup x = some .local ∨ sc.names.lookup x = some .cell ∨ sc.names.lookup x = some .free
noncomputable def Loc (sc : Scope) (x : Str) : Prop := sc.names.lookup x = some .local ∨ sc.names.lookup x = some .cell
noncomputable def Look (env : Env) (h : Heap) (m : Str → Option Value) (x : Str) (u : Value) : Prop :=
 (env.kindOf x = some .local ∧ m x = some u) ∨ ((env.kindOf x = some .cell ∨ env.kindOf x = some .free) ∧ ∃ c,env.cells.lookup x = some c ∧ h.IsCell c (some u))
structure Cx.Ok (X : Cx) : Prop where
 mod : Mod X.K X.mg X.base
 kind : X.env.scope.kind = .function
 glob : X.env.globals = mainGlobals
 blt : X.env.builtins = builtinsNs
 above : X.s₀.heap.objs.size ≤ X.env.locals
 inj : ∀ x y c,X.env.cells.lookup x = some c → X.env.cells.lookup y = some c → x = y
 has : ∀ x,(X.env.kindOf x = some .cell ∨ X.env.kindOf x = some .free) → ∃ c,X.env.cells.lookup x = some c
 cab : ∀ x c,X.fn x = true → X.env.cells.lookup x = some c → X.s₀.heap.objs.size ≤ c
 hd : X.calm = true → X.A.handled = none
 frames : X.A.frames = some X.stack
 stk : X.stack = X.outer ∨ (X.stack = X.env :: X.outer ∧ X.env.frame = some X.env.locals)
 exf : ∀ b ∈ X.ex,b ≠ X.env.locals ∧ ∀ x c,X.env.cells.lookup x = some c → c ≠ b
 bs : ∀ b o,X.base.get? b = some o → X.s₀.heap.get? b = some o ∧ X.H₀ b = none
 bsz : X.base.objs.size ≤ X.s₀.heap.objs.size
 noex : ∀ b o,X.base.get? b = some o → b ∉ X.ex
 exfs : ∀ b ∈ X.ex,b ∉ X.fs
 funs : X.s₀.heap.FunFrames X.base X.outer
 frf : ∀ b ∈ X.fs,X.H₀ b = none
structure Inv (X : Cx) (pins : List (Addr × Obj)) (σ : List (Option V)) (H : Hp) (s : Shared) : Prop where
 ok : X.Ok
 os : s.os = X.s₀.os
 bare : AllBare s.gens
 base : Un X.fs X.ex X.H₀ H X.s₀.heap s.heap
 loc : ∃ m,s.heap.Ns X.env.locals m ∧ ∀ (i : Nat) (x : Str) (v : V),X.N[i]? = some x → σ[i]? = some (some v) → Vis X.env.scope x → ∃ u,RelV v u ∧ Look X.env s.heap m x u
 cell : ∀ x c,X.env.cells.lookup x = some c → ∃ v,s.heap.IsCell c v
 free : H X.env.locals = none
 freeC : ∀ x c,X.env.cells.lookup x = some c → H c = none
 pin : ∀ p ∈ X.pn ++ pins,s.heap.get? p.1 = some p.2 ∧ H p.1 = none ∧ p.1 ≠ X.env.locals ∧ p.1 ∉ X.fs ∧ ∀ v,p.2.data ≠ .cell v
 hok : HOk X.prog X.w H s.heap
 len : σ.length = X.N.length
section
variable {X : Cx} {pins : List (Addr × Obj)} {σ : List (Option V)} {H H' : Hp} {s : Shared} {h' : Heap}
theorem Cx.Ok.nofr (ok : X.Ok) {b : Addr} {o : Obj} (e : X.base.get? b = some o) : b ∉ X.fs := fun hb => by
 have := (ok.funs.mem hb).1
 rw [e] at this; cases this
theorem Inv.bs (I : Inv X pins σ H s) : ∀ b o,X.base.get? b = some o → s.heap.get? b = some o ∧ H b = none := fun b o e =>
 ⟨I.base.keep b o (I.ok.bs b o e).1 (I.ok.bs b o e).2 (I.ok.nofr e) (I.ok.noex b o e),I.base.free b o (I.ok.bs b o e).1 (I.ok.bs b o e).2 (I.ok.noex b o e)⟩
theorem Inv.bk (I : Inv X pins σ H s) : ∀ b o,X.base.get? b = some o → s.heap.get? b = some o := fun b o e => (I.bs b o e).1
theorem Inv.mod (I : Inv X pins σ H s) : Mod X.K X.mg X.base := I.ok.mod
theorem Inv.kIn (I : Inv X pins σ H s) : X.K.In s.heap := I.ok.mod.kin.keeps I.bk
theorem Inv.nolimit (I : Inv X pins σ H s) : s.heap.NoLimit := I.ok.mod.nolimit.keeps I.bk
theorem Inv.fr (I : Inv X pins σ H s) : ∃ m,Fr X.base X.env.locals s.heap m :=
 let ⟨m,hn,_⟩ := I.loc
 ⟨m,hn,I.bk,Nat.le_trans I.ok.bsz I.ok.above⟩
theorem Inv.lt (I : Inv X pins σ H s) : X.env.locals < s.heap.objs.size := let ⟨_,hn,_⟩ := I.loc; hn.lt
theorem Inv.sz (I : Inv X pins σ H s) : X.s₀.heap.objs.size ≤ s.heap.objs.size := Nat.le_trans I.ok.above (Nat.le_of_lt I.lt)
theorem Inv.nofs (I : Inv X pins σ H s) {a : Addr} (h : s.heap.objs.size ≤ a) : a ∉ X.fs := fun hb => by
 obtain ⟨_,o,ho,_⟩ := I.ok.funs.mem hb
 exact absurd (Nat.lt_of_lt_of_le (Heap.lt_size ho) (Nat.le_trans I.sz h)) (Nat.lt_irrefl _)
theorem Inv.cne (I : Inv X pins σ H s) : ∀ x c,X.env.cells.lookup x = some c → c ≠ X.env.locals := fun x c e z => by
 obtain ⟨v,o,ho,hd⟩ := I.cell x c e
 obtain ⟨m,⟨o',es,ep,ho',hd',_⟩,_⟩ := I.loc
 rw [z,ho'] at ho; cases ho; rw [hd'] at hd; cases hd
theorem Inv.funs (I : Inv X pins σ H s) : s.heap.FunFrames X.base X.outer := by
 have all : ∀ (l : List Env),(∀ b ∈ frs l,b ∈ X.fs) → X.s₀.heap.FunFrames X.base l → s.heap.FunFrames X.base l := by
  intro l
  induction l with
  | nil => intro _ _; trivial
  | cons env r ih =>
   intro hs hl
   obtain ⟨hk,⟨L,o,hf,hn,ho,hd⟩,hr⟩ := hl
   have hL : L ∈ X.fs := hs L (by unfold frs; rw [List.filterMap_cons,hf]; exact List.mem_cons_self)
   obtain ⟨sl,e⟩ := I.base.slot L o ho (I.ok.frf L hL) hL fun z => I.ok.exfs L z hL
   exact ⟨hk,⟨L,_,hf,hn,e,hd⟩,ih (fun b hb => hs b (by unfold frs; rw [List.filterMap_cons,hf]; exact List.mem_cons_of_mem _ hb)) hr⟩
 exact all X.outer (fun _ hb => hb) I.ok.funs
theorem Inv.stack (I : Inv X pins σ H s) : s.heap.FunFrames X.base X.stack := by
 rcases I.ok.stk with e | ⟨e,hf⟩
 · rw [e]; exact I.funs
 · rw [e]
   obtain ⟨m,hn,_⟩ := I.loc
   refine .cons (by rw [I.ok.kind]; decide) hf hn ?_ I.funs
   exact Heap.get?_none_of_le (Nat.le_trans I.ok.bsz I.ok.above)
theorem Inv.stkSub (I : Inv X pins σ H s) : ∀ b ∈ frs X.stack,b ∈ X.env.locals :: X.fs := fun b hb => by
 rcases I.ok.stk with e | ⟨e,hf⟩
 · rw [e] at hb; exact List.mem_cons_of_mem _ hb
 · rw [e] at hb
   unfold frs at hb
   rw [List.filterMap_cons,hf] at hb
   exact hb
theorem Inv.stkFree (I : Inv X pins σ H s) : ∀ b ∈ frs X.stack,H b = none := fun b hb => by
 rcases List.mem_cons.mp (I.stkSub b hb) with e | hb
 · rw [e]; exact I.free
 · obtain ⟨_,o,ho,_⟩ := I.ok.funs.mem hb
   exact I.base.free b o ho (I.ok.frf b hb) fun z => I.ok.exfs b z hb
theorem Inv.step {g' : Array GenState} {t' : Nat} {d' : Drawn} {ch : List Addr} (I : Inv X pins σ H s)
 (hch : ∀ b ∈ ch,(b ∈ X.ex ∨ X.s₀.heap.objs.size ≤ b) ∧ b ≠ X.env.locals ∧ (∀ x c,X.env.cells.lookup x = some c → c ≠ b) ∧ ∀ p ∈ X.pn ++ pins,p.1 ≠ b)
 (keep : ∀ b o,b ≠ X.env.locals → b ∉ X.fs → b ∉ ch → s.heap.get? b = some o → H b = none → h'.get? b = some o)
 (slot : ∀ b o,b ≠ X.env.locals → b ∈ X.fs → b ∉ ch → s.heap.get? b = some o → H b = none → ∃ sl,h'.get? b = some { o with slots := sl }) (free : ∀ b o,b ∉ ch → s.heap.get? b = some o → H b = none → H' b = none)
 (there : ∀ b o,b ∉ ch → s.heap.get? b = some o → ∃ o',h'.get? b = some o')
 (tups : ∀ b xs,H b = some (.tup xs) → H' b = some (.tup xs)) (frzs : ∀ b o u,H b = some (.frz o u) → H' b = some (.frz o u)) (tbls : ∀ b ps,H b = some (.tbl ps) → ∃ more,H' b = some (.tbl (ps ++ more)))
 (ns : ∀ m,s.heap.Ns X.env.locals m → h'.Ns X.env.locals m) (hok : HOk X.prog X.w H' h') (hg : AllBare g') :
 Inv X pins σ H' { s with heap := h',gens := g',drawn := d',toks := t' } := by
 have neL : ∀ b o,X.s₀.heap.get? b = some o → b ≠ X.env.locals := fun b o e => Nat.ne_of_lt (Nat.lt_of_lt_of_le (Heap.lt_size e) I.ok.above)
 have neC : ∀ b o,X.s₀.heap.get? b = some o → b ∉ X.ex → b ∉ ch := fun b o e hx hb => by
  rcases (hch b hb).1 with z | z
  · exact hx z
  · exact absurd (Nat.lt_of_lt_of_le (Heap.lt_size e) z) (Nat.lt_irrefl _)
 have cellK : ∀ x c,X.env.cells.lookup x = some c → ∀ v,s.heap.IsCell c v → h'.IsCell c v := fun x c e v ⟨o,ho,hd⟩ => by
  have nch : c ∉ ch := fun z => (hch c z).2.2.1 x c e rfl
  by_cases hc : c ∈ X.fs
  · obtain ⟨sl,q⟩ := slot c o (I.cne x c e) hc nch ho (I.freeC x c e)
    exact ⟨_,q,hd⟩
  · exact ⟨o,keep c o (I.cne x c e) hc nch ho (I.freeC x c e),hd⟩
 refine ⟨I.ok,I.os,hg,⟨fun b o e n hb hx => ?_,fun b o e n hb hx => ?_,fun b o e n hx => ?_,fun b o e hx => ?_,fun b xs e => tups b xs (I.base.tups b xs e),fun b o xs e => frzs b o xs (I.base.frzs b o xs e),fun b ps e => ?_⟩,?_,fun x c e => ?_,?_,fun x c e => ?_,fun p hp => ?_,hok,I.len⟩
 · exact keep b o (neL b o e) hb (neC b o e hx) (I.base.keep b o e n hb hx) (I.base.free b o e n hx)
 · obtain ⟨sl,e1⟩ := I.base.slot b o e n hb hx
   obtain ⟨sl',e2⟩ := slot b _ (neL b o e) hb (neC b o e hx) e1 (I.base.free b o e n hx)
   exact ⟨sl',e2⟩
 · obtain ⟨o',e1⟩ := I.base.there b o e hx
   exact free b o' (neC b o e hx) e1 (I.base.free b o e n hx)
 · obtain ⟨o',e1⟩ := I.base.there b o e hx
   exact there b o' (neC b o e hx) e1
 · obtain ⟨m1,e1⟩ := I.base.tbls b ps e
   obtain ⟨m2,e2⟩ := tbls b _ e1
   exact ⟨m1 ++ m2,by rw [e2,Array.append_assoc]⟩
 · obtain ⟨m,hn,hl⟩ := I.loc
   refine ⟨m,ns m hn,fun i x v e1 e2 e3 => ?_⟩
   obtain ⟨u,r,l⟩ := hl i x v e1 e2 e3
   refine ⟨u,r,?_⟩
   rcases l with l | ⟨k,c,e,z⟩
   · exact .inl l
   · exact .inr ⟨k,c,e,cellK x c e _ z⟩
 · obtain ⟨v,z⟩ := I.cell x c e
   exact ⟨v,cellK x c e v z⟩
 · obtain ⟨m,⟨o,_,_,ho,_⟩,_⟩ := I.loc
   exact free _ o (fun z => (hch _ z).2.1 rfl) ho I.free
 · obtain ⟨v,o,ho,hd⟩ := I.cell x c e
   exact free c o (fun z => (hch c z).2.2.1 x c e rfl) ho (I.freeC x c e)
 · obtain ⟨e,n,ne,nf,d⟩ := I.pin p hp
   have nch : p.1 ∉ ch := fun z => (hch p.1 z).2.2.2 p hp rfl
   exact ⟨keep p.1 p.2 ne nf nch e n,free p.1 p.2 nch e n,ne,nf,d⟩
theorem Inv.un {t' : Nat} (I : Inv X pins σ H s) (u : Un X.fs [] H H' s.heap h') (hok : HOk X.prog X.w H' h') : Inv X pins σ H' { s with heap := h',toks := t' } := by
 obtain ⟨m,⟨o,es,ep,ho,r⟩,_⟩ := id I.loc
 obtain ⟨sl,hL⟩ := u.any ho I.free (by simp)
 exact I.step (g' := s.gens) (d' := s.drawn) (ch := []) (fun _ z => nomatch z) (fun b o _ hb _ e n => u.keep b o e n hb (by simp)) (fun b o _ hb _ e n => u.slot b o e n hb (by simp)) (fun b o _ e n => u.free b o e n (by simp)) (fun b o _ e => u.there b o e (by simp)) u.tups u.frzs u.tbls (fun m' hm => by
  obtain ⟨o',es',ep',ho',r'⟩ := hm
  rw [ho] at ho'; cases ho'
  exact ⟨_,es',ep',hL,r'⟩) hok I.bare
theorem Inv.call {g' : Array GenState} {t' : Nat} {d' : Drawn} {ch : List Addr} (I : Inv X pins σ H s) (u : Un (frs X.stack) ch H H' s.heap h') (hok : HOk X.prog X.w H' h') (hg : AllBare g')
 (hch : ∀ b ∈ ch,(b ∈ X.ex ∨ X.s₀.heap.objs.size ≤ b) ∧ b ≠ X.env.locals ∧ (∀ x c,X.env.cells.lookup x = some c → c ≠ b) ∧ ∀ p ∈ X.pn ++ pins,p.1 ≠ b) :
 Inv X pins σ H' { s with heap := h',gens := g',drawn := d',toks := t' } := by
 obtain ⟨m,⟨o,es,ep,ho,r⟩,_⟩ := id I.loc
 obtain ⟨sl,hL⟩ := u.any ho I.free fun z => (hch _ z).2.1 rfl
 exact I.step (ch := ch) hch (fun b o hL hb hc e n => u.keep b o e n (fun z => (List.mem_cons.mp (I.stkSub b z)).elim hL hb) hc) (fun b o _ _ hc e n => u.any e n hc) (fun b o hc e n => u.free b o e n hc) (fun b o hc e => u.there b o e hc) u.tups u.frzs u.tbls (fun m' hm => by
  obtain ⟨o',es',ep',ho',r'⟩ := hm
  rw [ho] at ho'; cases ho'
  exact ⟨_,es',ep',hL,r'⟩) hok hg
theorem Inv.turned {t' : Nat} {it : Addr} (I : Inv X pins σ H s) (k : ∀ b o,b ≠ it → s.heap.get? b = some o → h'.get? b = some o) (hn : H it = none) (hL : it ≠ X.env.locals)
 (h1 : it ∈ X.ex ∨ X.s₀.heap.objs.size ≤ it) (h2 : ∀ x c,X.env.cells.lookup x = some c → c ≠ it) (h3 : ∀ p ∈ X.pn ++ pins,p.1 ≠ it) : Inv X pins σ H { s with heap := h',toks := t' } := by
 have nit : ∀ b u,H b = some u → b ≠ it := fun b u e z => by rw [z,hn] at e; cases e
 refine I.step (g' := s.gens) (d' := s.drawn) (ch := [it]) (fun b hb => ?_) (fun b o _ _ hc e _ => k b o (fun z => hc (by simp [z])) e) (fun b o _ _ hc e _ => ⟨o.slots,k b o (fun z => hc (by simp [z])) e⟩) (fun _ _ _ _ n => n)
  (fun b o hc e => ⟨o,k b o (fun z => hc (by simp [z])) e⟩) (fun _ _ e => e) (fun _ _ _ e => e) (fun b ps e => ⟨#[],by rw [e]; simp⟩) (fun m hm => ?_) (fun b u e => ?_) I.bare
 · have e : b = it := by simpa using hb
   subst e
   exact ⟨h1,hL,h2,h3⟩
 · obtain ⟨o,es,ep,ho,r⟩ := hm
   exact ⟨o,es,ep,k _ o (Ne.symm hL) ho,r⟩
 · refine (I.hok b u e).stay (fun c v hc q => k c v ?_ q) (fun _ q => q) fun _ _ q => q
   rcases hc with z | z
   · rw [z]; exact nit b u e
   · exact nit c _ z
theorem Inv.tok (I : Inv X pins σ H s) (t : Nat) : Inv X pins σ H { s with toks := t } := I.un (h' := s.heap) (t' := t) Un.refl I.hok
theorem Inv.kept {t' : Nat} (I : Inv X pins σ H s) (k : ∀ b u,s.heap.get? b = some u → h'.get? b = some u) : Inv X pins σ H { s with heap := h',toks := t' } := I.un (Un.kept k) (I.hok.kept k)
theorem Inv.laid {a : Addr} {o : HO} {t' : Nat} (I : Inv X pins σ H s) (k : ∀ b u,s.heap.get? b = some u → h'.get? b = some u) (hp : s.heap.objs.size ≤ a) (new : ObjOk X.prog X.w (upd H a o) h' a o) :
 Inv X pins σ (upd H a o) { s with heap := h',toks := t' } := I.un (Un.laid k hp (I.hok.fresh hp)) (I.hok.laid k hp new)
theorem Inv.write {x e : Addr} {o : HO} {t' : Nat} (I : Inv X pins σ H s) (mu : Mut (H x)) (he : e = x ∨ H e = some (.own x)) (k : ∀ b u,b ≠ e → s.heap.get? b = some u → h'.get? b = some u) (heo : ∃ u,h'.get? e = some u)
 (new : ObjOk X.prog X.w (upd H x o) h' x o) : Inv X pins σ (upd H x o) { s with heap := h',toks := t' } := I.un (Un.write mu he k heo) (I.hok.write mu he k heo new)
theorem Inv.weak {σ' : List (Option V)} (I : Inv X pins σ H s) (hl : σ'.length = σ.length) (w : ∀ (i : Nat) v,σ'[i]? = some (some v) → σ[i]? = some (some v)) : Inv X pins σ' H s :=
 ⟨I.ok,I.os,I.bare,I.base,let ⟨m,hn,hl'⟩ := I.loc; ⟨m,hn,fun i x v e1 e2 e3 => hl' i x v e1 (w i v e2) e3⟩,I.cell,I.free,I.freeC,I.pin,I.hok,hl.trans I.len⟩
theorem Inv.pins_of {pins' : List (Addr × Obj)} (I : Inv X pins σ H s) (h : ∀ p ∈ pins',s.heap.get? p.1 = some p.2 ∧ H p.1 = none ∧ p.1 ≠ X.env.locals ∧ p.1 ∉ X.fs ∧ ∀ v,p.2.data ≠ .cell v) : Inv X pins' σ H s :=
 ⟨I.ok,I.os,I.bare,I.base,I.loc,I.cell,I.free,I.freeC,fun p hp => (List.mem_append.mp hp).elim (fun z => I.pin p (List.mem_append_left _ z)) (h p),I.hok,I.len⟩
theorem nodup_ix {N : List Str} (hN : N.Nodup) {i j : Nat} {x : Str} (a : N[i]? = some x) (b : N[j]? = some x) : i = j := by
 obtain ⟨h1,e1⟩ := List.getElem?_eq_some_iff.mp a
 obtain ⟨h2,e2⟩ := List.getElem?_eq_some_iff.mp b
 exact (List.getElem_inj hN).mp (e1.trans e2.symm)
theorem store_ok2 {M : Model} {A : Around} {E : Value → Shared → Prop} {i : Nat} {x : Str} {v : V} {u : Value} {Q : Unit → Shared → Prop} (I : Inv X pins σ H s) (hN : X.N.Nodup) (hi : X.N[i]? = some x) (hx : Loc X.env.scope x) (r : RelV v u)
 (h : ∀ s',Inv X pins (σ.set i (some v)) H s' → (∃ a,Heap.SameBut a s.heap s'.heap ∧ (a = X.env.locals ∨ X.env.cells.lookup x = some a)) → Q () s') (hf : X.fn x = true ∨ X.env.scope.names.lookup x = some .local := by first | exact .inl rfl | exact .inr rfl | assumption) : wpAny M A (storeName X.env x u) Q E s := by
 obtain ⟨m,hn,hl⟩ := id I.loc
 have hcls : (X.env.scope.kind == .class || (X.env.scope.kind == .module && X.env.locals != X.env.globals)) = false := by rw [I.ok.kind]; rfl
 have hiσ : i < σ.length := by rw [I.len]; exact (List.getElem?_eq_some_iff.mp hi).1
 have cne := I.cne
 have tracked : ∀ {a : Addr} {h' : Heap},(∃ o,s.heap.get? a = some o ∧ H a = none) → Heap.SameBut a s.heap h' → HOk X.prog X.w H h' := fun {a h'} ha hs b ob e => by
  obtain ⟨_,_,hfree⟩ := ha
  refine (I.hok b ob e).stay (fun c w' hc q => (hs.2 c ?_).trans q) (fun _ q => q) fun _ _ q => q
  rintro rfl
  rcases hc with rfl | hc
  · rw [hfree] at e; cases e
  · rw [hfree] at hc; cases hc
 rcases hx with hk | hk
 · refine wpAny_storeName_local hk hn (fun h' hn' hs => ?_) hcls
   obtain ⟨oL,_,_,hoL,_⟩ := id hn
   refine h _ ⟨I.ok,I.os,I.bare,⟨fun b o e n hb hx => ?_,fun b o e n hb hx => ?_,I.base.free,fun b o e hx => ?_,I.base.tups,I.base.frzs,I.base.tbls⟩,⟨_,hn',fun j y v' e1 e2 e3 => ?_⟩,fun y c e => ?_,I.free,I.freeC,fun p hp => ?_,tracked ⟨oL,hoL,I.free⟩ hs,by simpa using I.len⟩ ⟨_,hs,.inl rfl⟩
   · exact (hs.2 b (Nat.ne_of_lt (Nat.lt_of_lt_of_le (Heap.lt_size e) I.ok.above))).trans (I.base.keep b o e n hb hx)
   · obtain ⟨sl,e1⟩ := I.base.slot b o e n hb hx
     exact ⟨sl,(hs.2 b (Nat.ne_of_lt (Nat.lt_of_lt_of_le (Heap.lt_size e) I.ok.above))).trans e1⟩
   · obtain ⟨o',e1⟩ := I.base.there b o e hx
     exact ⟨o',(hs.2 b (Nat.ne_of_lt (Nat.lt_of_lt_of_le (Heap.lt_size e) I.ok.above))).trans e1⟩
   · by_cases hj : j = i
     · subst hj
       rw [hi] at e1; cases e1
       rw [List.getElem?_set_self hiσ] at e2
       cases e2
       exact ⟨u,r,.inl ⟨hk,by simp⟩⟩
     · rw [List.getElem?_set_ne (Ne.symm hj)] at e2
       obtain ⟨u',r',q⟩ := hl j y v' e1 e2 e3
       refine ⟨u',r',?_⟩
       rcases q with ⟨k,e⟩ | ⟨k,c,e,z⟩
       · refine .inl ⟨k,?_⟩
         have : y ≠ x := fun e => hj (nodup_ix hN e1 (e ▸ hi))
         simp [this,e]
       · exact .inr ⟨k,c,e,z.sameBut hs (cne y c e)⟩
   · obtain ⟨w',z⟩ := I.cell y c e
     exact ⟨w',z.sameBut hs (cne y c e)⟩
   · obtain ⟨e,n,ne,nf,d⟩ := I.pin p hp
     exact ⟨(hs.2 p.1 ne).trans e,n,ne,nf,d⟩
 · have hfn : X.fn x = true := by
    rcases hf with z | z
    · exact z
    · rw [z] at hk; cases hk
   obtain ⟨c,hc⟩ := I.ok.has x (.inl hk)
   obtain ⟨w',z⟩ := I.cell x c hc
   refine wpAny_storeName_cell I.ok.kind hk hc z (fun h' hc' hs => ?_)
   obtain ⟨oc,hoc,hocd⟩ := id z
   refine h { s with heap := h' } ⟨I.ok,I.os,I.bare,⟨fun b o e n hb hx => ?_,fun b o e n hb hx => ?_,I.base.free,fun b o e hx => ?_,I.base.tups,I.base.frzs,I.base.tbls⟩,⟨m,hn.sameBut hs (Ne.symm (cne x c hc)),fun j y v' e1 e2 e3 => ?_⟩,fun y c' e => ?_,I.free,I.freeC,fun p hp => ?_,tracked ⟨oc,hoc,I.freeC x c hc⟩ hs,by simpa using I.len⟩ ⟨c,hs,.inr hc⟩
   · exact (hs.2 b (Nat.ne_of_lt (Nat.lt_of_lt_of_le (Heap.lt_size e) (I.ok.cab x c hfn hc)))).trans (I.base.keep b o e n hb hx)
   · obtain ⟨sl,e1⟩ := I.base.slot b o e n hb hx
     exact ⟨sl,(hs.2 b (Nat.ne_of_lt (Nat.lt_of_lt_of_le (Heap.lt_size e) (I.ok.cab x c hfn hc)))).trans e1⟩
   · obtain ⟨o',e1⟩ := I.base.there b o e hx
     exact ⟨o',(hs.2 b (Nat.ne_of_lt (Nat.lt_of_lt_of_le (Heap.lt_size e) (I.ok.cab x c hfn hc)))).trans e1⟩
   · by_cases hj : j = i
     · subst hj
       rw [hi] at e1; cases e1
       rw [List.getElem?_set_self hiσ] at e2
       cases e2
       exact ⟨u,r,.inr ⟨.inl hk,c,hc,hc'⟩⟩
     · rw [List.getElem?_set_ne (Ne.symm hj)] at e2
       obtain ⟨u',r',q⟩ := hl j y v' e1 e2 e3
       refine ⟨u',r',?_⟩
       rcases q with q | ⟨k,c',e,z'⟩
       · exact .inl q
       · refine .inr ⟨k,c',e,z'.sameBut hs ?_⟩
         rintro rfl
         exact hj (nodup_ix hN e1 (I.ok.inj _ _ _ e hc ▸ hi))
   · by_cases hcc : c' = c
     · subst hcc; exact ⟨_,hc'⟩
     · obtain ⟨w2,z2⟩ := I.cell y c' e
       exact ⟨w2,z2.sameBut hs hcc⟩
   · obtain ⟨e,n,ne,nf,d⟩ := I.pin p hp
     refine ⟨(hs.2 p.1 ?_).trans e,n,ne,nf,d⟩
     intro q
     rw [q,hoc] at e
     have q' : oc = p.2 := Option.some.inj e
     exact d w' (by rw [← q']; exact hocd)
theorem store_ok {M : Model} {A : Around} {E : Value → Shared → Prop} {i : Nat} {x : Str} {v : V} {u : Value} {Q : Unit → Shared → Prop} (I : Inv X pins σ H s) (hN : X.N.Nodup) (hi : X.N[i]? = some x) (hx : Loc X.env.scope x) (r : RelV v u)
 (h : ∀ s',Inv X pins (σ.set i (some v)) H s' → Q () s') (hf : X.fn x = true ∨ X.env.scope.names.lookup x = some .local := by first | exact .inl rfl | exact .inr rfl | assumption) : wpAny M A (storeName X.env x u) Q E s :=
 store_ok2 I hN hi hx r (fun s' I' _ => h s' I') hf
theorem Inv.call' {s' : Shared} {ch : List Addr} (I : Inv X pins σ H s) (ho : s'.os = s.os) (u : Un (frs X.stack) ch H H' s.heap s'.heap) (hok : HOk X.prog X.w H' s'.heap) (hg : AllBare s'.gens)
 (hch : ∀ b ∈ ch,(b ∈ X.ex ∨ X.s₀.heap.objs.size ≤ b) ∧ b ≠ X.env.locals ∧ (∀ x c,X.env.cells.lookup x = some c → c ≠ b) ∧ ∀ p ∈ X.pn ++ pins,p.1 ≠ b) : Inv X pins σ H' s' := by
 obtain ⟨h',g',d',t',o'⟩ := s'
 have e : o' = s.os := ho
 subst e
 exact I.call (g' := g') (t' := t') (d' := d') u hok hg hch
end
noncomputable abbrev XK := Value → Option Addr → Hp → Prop
noncomputable abbrev St := List (Option V)
noncomputable abbrev VK := V → Hp → Prop
noncomputable abbrev TE := St → Hp → VK → Prop
noncomputable abbrev TT := St → Hp → (Bool → Hp → Prop) → Prop
noncomputable abbrev TA := St → Hp → (List V → Hp → Prop) → Prop
structure Ends where
 nx : St → Hp → Prop
 rt : VK
 bk : St → Hp → Prop := fun _ _ => False
 ct : St → Hp → Prop := fun _ _ => False
noncomputable abbrev TS := Ends → St → Hp → Prop
noncomputable def EP (X : Cx) (pins : List (Addr × Obj)) (σ : St) (Q : VK) (u : Value) (s' : Shared) : Prop := ∃ v H',Inv X pins σ H' s' ∧ RelV v u ∧ Q v H'
noncomputable def TP (X : Cx) (pins : List (Addr × Obj)) (σ : St) (Q : Bool → Hp → Prop) (b : Bool) (s' : Shared) : Prop := ∃ H',Inv X pins σ H' s' ∧ Q b H'
noncomputable def AP (X : Cx) (pins : List (Addr × Obj)) (σ : St) (Q : List V → Hp → Prop) (us : List Value) (s' : Shared) : Prop := ∃ vs H',Inv X pins σ H' s' ∧ Vals vs us ∧ Q vs H'
noncomputable def SP (X : Cx) (pins : List (Addr × Obj)) (D : Ends) (f : Flow) (s' : Shared) : Prop :=
 match f with
 | .next => ∃ σ' H',Inv X pins σ' H' s' ∧ D.nx σ' H'
 | .brk => ∃ σ' H',Inv X pins σ' H' s' ∧ D.bk σ' H'
 | .cont => ∃ σ' H',Inv X pins σ' H' s' ∧ D.ct σ' H'
 | .ret u => ∃ v σ' H',Inv X pins σ' H' s' ∧ RelV v u ∧ D.rt v H'
noncomputable def PE (X : Cx) (e : Expr) (t : TE) : Prop :=
 ∀ (pins : List (Addr × Obj)) (s : Shared) (σ : St) (H : Hp) (Q : VK),Inv X pins σ H s → t σ H Q → wpAny (model X.prog X.w) X.A (eval e X.env) (EP X pins σ Q) X.xe s
noncomputable def PT (X : Cx) (e : Expr) (t : TT) : Prop :=
 ∀ (pins : List (Addr × Obj)) (s : Shared) (σ : St) (H : Hp) (Q : Bool → Hp → Prop),Inv X pins σ H s → t σ H Q → wpAny (model X.prog X.w) X.A (isTrue e X.env (eval e X.env)) (TP X pins σ Q) X.xe s
noncomputable def PW (X : Cx) (e : Expr) (t : TT) : Prop :=
 ∀ (whole : Sem Value) (pins : List (Addr × Obj)) (s : Shared) (σ : St) (H : Hp) (Q : Bool → Hp → Prop),Inv X pins σ H s → t σ H Q → wpAny (model X.prog X.w) X.A (isTrue e X.env whole) (TP X pins σ Q) X.xe s
theorem PW.pt {X : Cx} {e : Expr} {t : TT} (h : PW X e t) : PT X e t := h _
noncomputable def PA (X : Cx) (es : List Expr) (t : TA) : Prop :=
 ∀ (pos : Pos) (pins : List (Addr × Obj)) (s : Shared) (σ : St) (H : Hp) (Q : List V → Hp → Prop),Inv X pins σ H s → t σ H Q → wpAny (model X.prog X.w) X.A (spliced (backTo pos (starEach es X.env))) (AP X pins σ Q) X.xe s
noncomputable def PS (X : Cx) (st : Stmt) (t : TS) : Prop :=
 ∀ (pins : List (Addr × Obj)) (s : Shared) (σ : St) (H : Hp) (D : Ends),Inv X pins σ H s → t D σ H → wpAny (model X.prog X.w) X.A (exec st X.env) (SP X pins D) X.xe s
noncomputable def PSs (X : Cx) (st : List Stmt) (t : TS) : Prop :=
 ∀ (pins : List (Addr × Obj)) (s : Shared) (σ : St) (H : Hp) (D : Ends),Inv X pins σ H s → t D σ H → wpAny (model X.prog X.w) X.A (execs st X.env) (SP X pins D) X.xe s
theorem thn {α : Type} {t : Sem α} {Q Q' : α → Shared → Prop} {M : Model} {A : Around} {E : Value → Shared → Prop} {s : Shared} (h : wpAny M A t Q E s) (hQ : ∀ a s,Q a s → Q' a s) : wpAny M A t Q' E s := wpAny_mono h hQ fun _ _ x => x
end L2
namespace L2
open PySem PySem.Spec PyProof.Rows
section
variable {X : Cx}
noncomputable def tVar (i : Nat) : TE := fun σ H Q => ∃ v,σ[i]? = some (some v) ∧ Q v H
noncomputable def tC (v : V) : TE := fun _ H Q => Q v H
theorem pe_var {i : Nat} {x : Str} {pos : Pos} (hN : X.N[i]? = some x) (hv : Vis X.env.scope x) (hd : (x == ("__debug__" : Str)) = false := by decide) (hcd : (x == ("__classdict__" : Str)) = false := by decide) : PE X (.Name x pos) (tVar i) := by
 intro pins s σ H Q I h
 obtain ⟨v,e,h⟩ := h
 obtain ⟨m,hn,hl⟩ := I.loc
 obtain ⟨u,r,l⟩ := hl i x v hN e hv
 have fin : EP X pins σ Q u s := ⟨v,H,I,r,h⟩
 rcases l with ⟨hk,hm⟩ | ⟨hk,c,hc,hcell⟩
 · exact wpAny_Name (wpAny_loadName_local I.ok.kind hk hn hm fin) hd
 · rcases hk with hk | hk
   · exact wpAny_Name (wpAny_loadName_cell I.ok.kind hk hc hcell fin) hd
   · exact wpAny_Name (wpAny_loadName_free I.ok.kind hk hc hcell fin hcd) hd
theorem pe_int {i j pos} : PE X (.Constant (.int i) j pos) (tC (.int i)) := fun _ _ _ H _ I h => wpAny_Constant_int ⟨.int i,H,I.tok _,⟨_,rfl⟩,h⟩
theorem pe_bl {b j pos} : PE X (.Constant (.bool b) j pos) (tC (.bl b)) := fun _ _ _ H _ I h => Constant_bool ⟨.bl b,H,I,rfl,h⟩
theorem pe_non {j pos} : PE X (.Constant .none j pos) (tC .non) := fun _ _ _ H _ I h => Constant_none ⟨.non,H,I,rfl,h⟩
theorem pe_str {x j pos} : PE X (.Constant (.str x) j pos) (tC (.str x)) := fun _ _ _ H _ I h => Calls.Constant_str ⟨.str x,H,I.tok _,⟨_,rfl⟩,h⟩
noncomputable def Gl (X : Cx) (x : Str) : Prop := X.env.kindOf x = some .globalImplicit
theorem ld_glob {E : Value → Shared → Prop} {pins : List (Addr × Obj)} {s : Shared} {σ : St} {H : Hp} {x : Str} {u : Value} {pos : Pos} {Q : Value → Shared → Prop} (I : Inv X pins σ H s) (hg : Gl X x) (hm : X.mg x = some u) (h : Q u s)
 (hd : (x == ("__debug__" : Str)) = false := by decide) : wpAny (model X.prog X.w) X.A (eval (.Name x pos) X.env) Q E s :=
 Calls.Name_function_global I.ok.kind hg (Calls.loadGlobal_global (by rw [I.ok.glob]; exact I.mod.glob.keeps I.bk) hm h) hd
theorem ld_blt {E : Value → Shared → Prop} {pins : List (Addr × Obj)} {s : Shared} {σ : St} {H : Hp} {x : Str} {u : Value} {pos : Pos} {Q : Value → Shared → Prop} (I : Inv X pins σ H s) (hg : Gl X x) (hm : X.mg x = none) (hv : bootBuiltins x = some u) (h : Q u s)
 (hn : x ≠ "__name__" := by decide) (hd : (x == ("__debug__" : Str)) = false := by decide) : wpAny (model X.prog X.w) X.A (eval (.Name x pos) X.env) Q E s := by
 obtain ⟨mb,h1,h2⟩ := I.mod.blt
 exact Calls.Name_function_global I.ok.kind hg (Calls.loadGlobal_builtin (by rw [I.ok.glob]; exact I.mod.glob.keeps I.bk) hm (by rw [I.ok.blt]; exact h1.keeps I.bk) ((h2 x hn).trans hv) h) hd
theorem pe_glob {x : Str} {v : V} {u : Value} {pos : Pos} (hg : Gl X x) (hm : X.mg x = some u) (r : RelV v u) (hd : (x == ("__debug__" : Str)) = false := by decide) : PE X (.Name x pos) (tC v) :=
 fun _ _ _ H _ I h => ld_glob I hg hm ⟨v,H,I,r,h⟩ hd
variable {a b : Expr} {ta tb : TE} {pos : Pos}
noncomputable def PC (X : Cx) (op : CmpOp) (a b : Expr) (t : TE) : Prop :=
 ∀ (pins : List (Addr × Obj)) (s : Shared) (σ : St) (H : Hp) (Q : VK),Inv X pins σ H s → t σ H Q →
  wpAny (model X.prog X.w) X.A (eval a X.env) (fun v s₁ => wpAny (model X.prog X.w) X.A (eval b X.env) (fun u s₂ => wpAny (model X.prog X.w) X.A (compareOp op v u) (EP X pins σ Q) X.xe s₂) X.xe s₁) X.xe s
theorem nobehind (b : Expr) {op : CmpOp} (h : op ≠ .In) (h2 : op ≠ .NotIn) : behindInMarks op b = false := by
 have e1 : (op == CmpOp.In) = false := by cases op <;> first | rfl | exact absurd rfl h
 have e2 : (op == CmpOp.NotIn) = false := by cases op <;> first | rfl | exact absurd rfl h2
 cases b <;> simp [behindInMarks,e1,e2]
noncomputable def tIsN (ta : TE) : TE := fun σ H Q => ta σ H fun x H1 => Q (.bl (decide (x = .non))) H1
theorem RelV.none_iff {x : V} {v : Value} (r : RelV x v) : (v == Value.none) = decide (x = .non) := by
 cases x with
 | non => cases r; rfl
 | bl _ => cases r; rfl
 | int _ => obtain ⟨t,rfl⟩ := r; rfl
 | str _ => obtain ⟨t,rfl⟩ := r; rfl
 | byt _ => obtain ⟨t,rfl⟩ := r; rfl
 | flt _ => obtain ⟨t,rfl⟩ := r; rfl
 | ref _ => cases r; rfl
 | ty _ => cases r; rfl
theorem pc_isN {j pos'} (ha : PE X a ta) : PC X .Is a (.Constant .none j pos') (tIsN ta) := by
 intro pins s σ H Q I h
 refine thn (ha pins s σ H _ I h) fun v s1 ⟨x,H1,I1,r1,q1⟩ => ?_
 exact Constant_none (is_none_gen ⟨.bl _,H1,I1,by rw [r1.none_iff]; rfl,q1⟩)
noncomputable def tB (t : TE) : TT := fun σ H Q => t σ H fun x H1 => ∃ c,x = .bl c ∧ Q c H1
theorem pt_cmp {op : CmpOp} {t : TE} (h : PC X op a b t) (h1 : behindInMarks op b = false := by first | exact nobehind _ (by decide) (by decide) | rfl) : PT X (.Compare a [op] [b] pos) (tB t) := by
 intro pins s σ H Q I hw
 refine wpAny_isTrue_Compare1 (thn (h pins s σ H _ I hw) fun v s1 h1 => thn h1 fun u s2 h2 => thn h2 fun c s3 ⟨x,H1,I1,r1,q1⟩ => ?_) h1
 obtain ⟨d,rfl,q⟩ := q1
 cases r1
 exact wpAny_truthy_bool ⟨H1,I1,q⟩
theorem pt_val {e : Expr} {t : TE} (h : PE X e t) (he : ∀ whole,isTrue e X.env whole = (do let v ← whole; standAt e.pos; holding [v] (truthy v)) := by intro _; rfl) : PT X e (tB t) := by
 intro pins s σ H Q I hw
 refine isTrue_plain (thn (h pins s σ H _ I hw) fun v s1 ⟨x,H1,I1,r1,q1⟩ => ?_) (he _)
 obtain ⟨d,rfl,q⟩ := q1
 cases r1
 exact wpAny_truthy_bool ⟨H1,I1,q⟩
variable {tA tB' : TT} {rest : List Expr}
noncomputable def tAnd (t u : TT) : TT := fun σ H Q => t σ H fun c H1 => if c = true then u σ H1 Q else Q false H1
noncomputable def tOr (t u : TT) : TT := fun σ H Q => t σ H fun c H1 => if c = true then Q true H1 else u σ H1 Q
noncomputable def tNot (t : TT) : TT := fun σ H Q => t σ H fun c H1 => Q (!c) H1
theorem pw_and1 (ha : PT X a tA) : PW X (.BoolOp .And [a] pos) tA := by
 intro wh pins s σ H Q I h
 refine isTrue_and (thn (ha pins s σ H Q I h) fun c s1 e => ?_)
 cases c with
 | true => exact isTrue_and_nil e
 | false => exact e
theorem pw_or1 (ha : PT X a tA) : PW X (.BoolOp .Or [a] pos) tA := by
 intro wh pins s σ H Q I h
 refine isTrue_or (thn (ha pins s σ H Q I h) fun c s1 e => ?_)
 cases c with
 | false => exact isTrue_or_nil e
 | true => exact e
theorem pw_and (ha : PT X a tA) (hb : PW X (.BoolOp .And (b :: rest) pos) tB') : PW X (.BoolOp .And (a :: b :: rest) pos) (tAnd tA tB') := by
 intro wh pins s σ H Q I h
 refine isTrue_and (thn (ha pins s σ H _ I h) fun c s1 ⟨H1,I1,q1⟩ => ?_)
 cases c with
 | true => exact hb wh pins s1 σ H1 Q I1 q1
 | false => exact ⟨H1,I1,q1⟩
theorem pw_or (ha : PT X a tA) (hb : PW X (.BoolOp .Or (b :: rest) pos) tB') : PW X (.BoolOp .Or (a :: b :: rest) pos) (tOr tA tB') := by
 intro wh pins s σ H Q I h
 refine isTrue_or (thn (ha pins s σ H _ I h) fun c s1 ⟨H1,I1,q1⟩ => ?_)
 cases c with
 | true => exact ⟨H1,I1,q1⟩
 | false => exact hb wh pins s1 σ H1 Q I1 q1
theorem pt_not (ha : PT X a tA) : PT X (.UnaryOp .Not a pos) (tNot tA) := by
 intro pins s σ H Q I h
 exact isTrue_not (ha pins s σ H (fun c H1 => Q (!c) H1) I h)
noncomputable def tAndV (ta tb : TE) : TE := fun σ H Q => ta σ H fun x H1 => ∃ c,x = .bl c ∧ if c = true then tb σ H1 Q else Q (.bl false) H1
noncomputable def tOrV (ta tb : TE) : TE := fun σ H Q => ta σ H fun x H1 => ∃ c,x = .bl c ∧ if c = true then Q (.bl true) H1 else tb σ H1 Q
noncomputable def tNotV (ta : TE) : TE := fun σ H Q => ta σ H fun x H1 => ∃ c,x = .bl c ∧ Q (.bl (!c)) H1
theorem pe_one {op} {t : TE} (h : PE X a t) : PE X (.BoolOp op [a] pos) t := fun pins s σ H Q I hw => BoolOp_one (h pins s σ H Q I hw)
theorem pe_and (ha : PE X a ta) (hb : PE X (.BoolOp .And (b :: rest) pos) tb) : PE X (.BoolOp .And (a :: b :: rest) pos) (tAndV ta tb) := by
 intro pins s σ H Q I h
 refine BoolOp_and (thn (ha pins s σ H _ I h) fun v s1 ⟨x,H1,I1,r1,q1⟩ => ?_)
 obtain ⟨c,rfl,q1⟩ := q1
 cases r1
 refine wpAny_truthy_bool ?_
 cases c with
 | true => exact hb pins s1 σ H1 Q I1 q1
 | false => exact ⟨.bl false,H1,I1,rfl,q1⟩
theorem pe_or (ha : PE X a ta) (hb : PE X (.BoolOp .Or (b :: rest) pos) tb) : PE X (.BoolOp .Or (a :: b :: rest) pos) (tOrV ta tb) := by
 intro pins s σ H Q I h
 refine BoolOp_or (thn (ha pins s σ H _ I h) fun v s1 ⟨x,H1,I1,r1,q1⟩ => ?_)
 obtain ⟨c,rfl,q1⟩ := q1
 cases r1
 refine wpAny_truthy_bool ?_
 cases c with
 | false => exact hb pins s1 σ H1 Q I1 q1
 | true => exact ⟨.bl true,H1,I1,rfl,q1⟩
theorem pe_not (ha : PE X a ta) : PE X (.UnaryOp .Not a pos) (tNotV ta) := by
 intro pins s σ H Q I h
 refine UnaryOp_ (thn (ha pins s σ H _ I h) fun v s1 ⟨x,H1,I1,r1,q1⟩ => ?_)
 obtain ⟨c,rfl,q1⟩ := q1
 cases r1
 exact not_of (wpAny_truthy_bool ⟨.bl (!c),H1,I1,rfl,q1⟩)
noncomputable def tIf (t : TT) (ta tb : TE) : TE := fun σ H Q => t σ H fun c H1 => if c = true then ta σ H1 Q else tb σ H1 Q
theorem pe_ifExp {c : Expr} (hc : PT X c tA) (ha : PE X a ta) (hb : PE X b tb) : PE X (.IfExp c a b pos) (tIf tA ta tb) := by
 intro pins s σ H Q I h
 refine wpAny_IfExp (thn (hc pins s σ H _ I h) fun d s1 ⟨H1,I1,q1⟩ => ?_)
 cases d with
 | true => exact ha pins s1 σ H1 Q I1 q1
 | false => exact hb pins s1 σ H1 Q I1 q1
end
end L2
namespace L2
open PySem PySem.Spec PyProof.Rows
noncomputable def SqL (K : PySem.W.Frag) (H : Hp) (a : Addr) (xs : List V) : Prop :=
 Rd H a (.lst xs) ∨
  ∃ (o : Obj) (its : Array Value) (n : Nat),K.lookup a = some o ∧ o.cls = .type "list" ∧ o.dict = none ∧ o.data = .seq its n ∧ its.size ≤ sizeLine ∧ Vals xs its.toList
noncomputable def SqT (K : PySem.W.Frag) (H : Hp) (a : Addr) (xs : List V) : Prop :=
 Rd H a (.tup xs) ∨
  ∃ (o : Obj) (its : Array Value) (n : Nat),K.lookup a = some o ∧ o.cls = .type "tuple" ∧ o.data = .seq its n ∧ its.size ≤ sizeLine ∧ Vals xs its.toList
noncomputable def absV : Value → Option V
 | .none => some .non
 | .bool b => some (.bl b)
 | .int i _ => some (.int i)
 | .str x _ => some (.str x)
 | .bytes b _ => some (.byt b)
 | .float b _ => some (.flt b)
 | .ref a => some (.ref a)
 | .type n => some (.ty n)
 | _ => none
theorem RelV.abs {x : V} {u : Value} (r : RelV x u) : absV u = some x := by
 cases x with
 | non => cases r; rfl
 | bl _ => cases r; rfl
 | int _ => obtain ⟨t,rfl⟩ := r; rfl
 | str _ => obtain ⟨t,rfl⟩ := r; rfl
 | byt _ => obtain ⟨t,rfl⟩ := r; rfl
 | flt _ => obtain ⟨t,rfl⟩ := r; rfl
 | ref _ => cases r; rfl
 | ty _ => cases r; rfl
theorem RelV.inj {x y : V} {u : Value} (r : RelV x u) (q : RelV y u) : x = y := Option.some.inj (r.abs.symm.trans q.abs)
theorem Vals.inj : ∀ {xs ys : List V} {us : List Value},Vals xs us → Vals ys us → xs = ys
 | _,_,_,.nil,.nil => rfl
 | _,_,_,.cons r t,.cons r' t' => by rw [r.inj r',Vals.inj t t']
section
variable {X : Cx} {pins : List (Addr × Obj)} {σ : St} {H : Hp} {s : Shared} {a : Addr} {xs ys : List V}
theorem SqL.of {K : PySem.W.Frag} (h : H a = some (.lst xs)) : SqL K H a xs := .inl (.inl h)
theorem SqT.of {K : PySem.W.Frag} (h : H a = some (.tup xs)) : SqT K H a xs := .inl (.inl h)
theorem Inv.list (I : Inv X pins σ H s) (h : SqL X.K H a xs) : ∃ its : List Value,Vals xs its ∧ PlainL s.heap a its.toArray ∧ xs.length ≤ sizeLine := by
 rcases h with h | ⟨o,its,n,hk,hc,hd,hs,hz,r⟩
 · obtain ⟨z,its,n,r,e⟩ := h.ok I.hok
   exact ⟨its,r,⟨_,n,e,rfl,rfl,rfl⟩,z⟩
 · refine ⟨its.toList,r,⟨o,n,I.kIn a o hk,hc,hd,by simpa using hs⟩,?_⟩
   have e := r.length
   simp only [Array.length_toList] at e
   omega
theorem Inv.tuple (I : Inv X pins σ H s) (h : SqT X.K H a xs) : ∃ its : List Value,Vals xs its ∧ IsTup s.heap a its.toArray ∧ xs.length ≤ sizeLine := by
 rcases h with h | ⟨o,its,n,hk,hc,hs,hz,r⟩
 · obtain ⟨z,its,r,p⟩ := h.ok I.hok
   exact ⟨its,r,p,z⟩
 · refine ⟨its.toList,r,⟨o,I.kIn a o hk,hc,n,by simpa using hs⟩,?_⟩
   have e := r.length
   simp only [Array.length_toList] at e
   omega
theorem Inv.list_inj (I : Inv X pins σ H s) (h : SqL X.K H a xs) (h' : SqL X.K H a ys) : xs = ys := by
 obtain ⟨its,r,⟨o,n,e,_,_,d⟩,_⟩ := I.list h
 obtain ⟨its',r',⟨o',n',e',_,_,d'⟩,_⟩ := I.list h'
 rw [e] at e'; cases e'
 rw [d] at d'
 injection d' with d1 _
 have : its = its' := by simpa using congrArg Array.toList d1
 subst this
 exact r.inj r'
theorem Inv.tuple_inj (I : Inv X pins σ H s) (h : SqT X.K H a xs) (h' : SqT X.K H a ys) : xs = ys := by
 obtain ⟨its,r,⟨o,e,_,n,d⟩,_⟩ := I.tuple h
 obtain ⟨its',r',⟨o',e',_,n',d'⟩,_⟩ := I.tuple h'
 rw [e] at e'; cases e'
 rw [d] at d'
 injection d' with d1 _
 have : its = its' := by simpa using congrArg Array.toList d1
 subst this
 exact r.inj r'
end
noncomputable abbrev Cx.wish (X : Cx) (E : Value → Shared → Prop) : Cx := { X with xe := E }
noncomputable abbrev Cx.nox (X : Cx) : Cx := X.wish fun _ _ => False
theorem Cx.Ok.wish {X : Cx} (ok : X.Ok) (E : Value → Shared → Prop) : (X.wish E).Ok :=
 ⟨ok.mod,ok.kind,ok.glob,ok.blt,ok.above,ok.inj,ok.has,ok.cab,ok.hd,ok.frames,ok.stk,ok.exf,ok.bs,ok.bsz,ok.noex,ok.exfs,ok.funs,ok.frf⟩
theorem Cx.Ok.unwish {X : Cx} {E : Value → Shared → Prop} (ok : (X.wish E).Ok) : X.Ok :=
 ⟨ok.mod,ok.kind,ok.glob,ok.blt,ok.above,ok.inj,ok.has,ok.cab,ok.hd,ok.frames,ok.stk,ok.exf,ok.bs,ok.bsz,ok.noex,ok.exfs,ok.funs,ok.frf⟩
section
variable {X : Cx} {pins : List (Addr × Obj)} {σ : St} {H : Hp} {s : Shared} {E : Value → Shared → Prop}
theorem Inv.wish (I : Inv X pins σ H s) (E : Value → Shared → Prop) : Inv (X.wish E) pins σ H s := ⟨I.ok.wish E,I.os,I.bare,I.base,I.loc,I.cell,I.free,I.freeC,I.pin,I.hok,I.len⟩
theorem Inv.unwish (I : Inv (X.wish E) pins σ H s) : Inv X pins σ H s := ⟨I.ok.unwish,I.os,I.bare,I.base,I.loc,I.cell,I.free,I.freeC,I.pin,I.hok,I.len⟩
theorem SP.unwish {D : Ends} {f : Flow} {s' : Shared} (h : SP (X.wish E) pins D f s') : SP X pins D f s' := by
 cases f with
 | next => obtain ⟨σ',H',I,q⟩ := h; exact ⟨σ',H',I.unwish,q⟩
 | brk => obtain ⟨σ',H',I,q⟩ := h; exact ⟨σ',H',I.unwish,q⟩
 | cont => obtain ⟨σ',H',I,q⟩ := h; exact ⟨σ',H',I.unwish,q⟩
 | ret u => obtain ⟨v,σ',H',I,r,q⟩ := h; exact ⟨v,σ',H',I.unwish,r,q⟩
theorem PE.nox {e : Expr} {t : TE} (h : PE X.nox e t) : PE X e t := fun pins s σ H Q I hw =>
 wpAny_mono (h pins s σ H Q (I.wish _) hw) (fun _ _ ⟨v,H',I',r,q⟩ => ⟨v,H',I'.unwish,r,q⟩) fun _ _ z => False.elim z
theorem PT.nox {e : Expr} {t : TT} (h : PT X.nox e t) : PT X e t := fun pins s σ H Q I hw =>
 wpAny_mono (h pins s σ H Q (I.wish _) hw) (fun _ _ ⟨H',I',q⟩ => ⟨H',I'.unwish,q⟩) fun _ _ z => False.elim z
theorem PSs.nox {st : List Stmt} {t : TS} (h : PSs X.nox st t) : PSs X st t := fun pins s σ H D I hw =>
 wpAny_mono (h pins s σ H D (I.wish _) hw) (fun _ _ q => q.unwish) fun _ _ z => False.elim z
end
section
variable {X : Cx} {st : Stmt} {rest : List Stmt} {t u : TS} {e : Expr} {te : TE} {pos : Pos}
noncomputable def tNext : TS := fun D σ H => D.nx σ H
noncomputable def tSeq (t u : TS) : TS := fun D σ H => t { D with nx := u D } σ H
theorem pss_nil : PSs X [] tNext := fun _ _ σ H _ I h => wpAny_execs_nil ⟨σ,H,I,h⟩
theorem pss_cons (h1 : PS X st t) (h2 : PSs X rest u) : PSs X (st :: rest) (tSeq t u) := by
 intro pins s σ H D I h
 refine wpAny_execs_cons (thn (h1 pins s σ H { D with nx := u D } I h) fun f s1 q => ?_)
 cases f with
 | next =>
  obtain ⟨σ',H',I',q⟩ := q
  exact h2 pins s1 σ' H' D I' q
 | ret v => exact q
 | brk => exact q
 | cont => exact q
theorem pss_one (h1 : PS X st t) : PSs X [st] t := by
 intro pins s σ H D I h
 refine wpAny_execs_cons (thn (h1 pins s σ H D I h) fun f s1 q => ?_)
 cases f with
 | next => exact wpAny_execs_nil q
 | ret v => exact q
 | brk => exact q
 | cont => exact q
theorem Inv.quiet {pins : List (Addr × Obj)} {σ : St} {H : Hp} {s : Shared} (I : Inv X pins σ H s) : interactive X.env = false := by simp [interactive,I.ok.kind]
noncomputable def tDrop (te : TE) : TS := fun D σ H => te σ H fun _ H1 => D.nx σ H1
theorem ps_expr (he : PE X e te) (hs : swapsWith e none pos.line X.env = pure false := by rfl) : PS X (.Expr e pos) (tDrop te) := by
 intro pins s σ H D I h
 exact wpAny_Expr_any (thn (he pins s σ H _ I h) fun v s1 ⟨x,H1,I1,r1,q1⟩ => ⟨σ,H1,I1,q1⟩) I.quiet hs
noncomputable def tRet (te : TE) : TS := fun D σ H => te σ H D.rt
theorem ps_ret (he : PE X e te) : PS X (.Return (some e) pos) (tRet te) := by
 intro pins s σ H D I h
 exact wpAny_Return_some (thn (he pins s σ H _ I h) fun v s1 ⟨x,H1,I1,r1,q1⟩ => ⟨x,σ,H1,I1,r1,q1⟩)
noncomputable def tIfS (c : TT) (t u : TS) : TS := fun D σ H => c σ H fun b H1 => if b = true then t D σ H1 else u D σ H1
theorem ps_if {c : Expr} {a b : List Stmt} {tc : TT} (hc : PT X c tc) (ha : PSs X a t) (hb : PSs X b u) : PS X (.If c a b pos) (tIfS tc t u) := by
 intro pins s σ H D I h
 refine wpAny_If (thn (hc pins s σ H _ I h) fun d s1 ⟨H1,I1,q1⟩ => ?_)
 cases d with
 | true => exact ha pins s1 σ H1 D I1 q1
 | false => exact hb pins s1 σ H1 D I1 q1
noncomputable def tNever : TS := fun _ _ _ => False
theorem ps_never : PS X st tNever := fun _ _ _ _ _ _ h => h.elim
end
noncomputable abbrev TG := V → St → Hp → (St → Hp → Prop) → Prop
noncomputable abbrev TGs := List V → St → Hp → (St → Hp → Prop) → Prop
noncomputable def PG (X : Cx) (target : Expr) (t : TG) : Prop :=
 ∀ (pins : List (Addr × Obj)) (s : Shared) (σ : St) (H : Hp) (v : V) (u : Value) (Q : St → Hp → Prop),Inv X pins σ H s → RelV v u → t v σ H Q →
  wpAny (model X.prog X.w) X.A (assign target X.env u) (fun _ s' => ∃ σ' H',Inv X pins σ' H' s' ∧ Q σ' H') X.xe s
noncomputable def PGs (X : Cx) (ts : List Expr) (t : TGs) : Prop :=
 ∀ (pins : List (Addr × Obj)) (s : Shared) (σ : St) (H : Hp) (vs : List V) (us : List Value) (Q : St → Hp → Prop),Inv X pins σ H s → Vals vs us → t vs σ H Q →
  wpAny (model X.prog X.w) X.A (assignInOrder ((assignEach ts X.env).map (·.2)) us) (fun _ s' => ∃ σ' H',Inv X pins σ' H' s' ∧ Q σ' H') X.xe s
noncomputable abbrev TSet := V → V → V → Hp → (Hp → Prop) → Prop
noncomputable def PSet (X : Cx) (t : TSet) : Prop :=
 ∀ (pins : List (Addr × Obj)) (s : Shared) (σ : St) (H : Hp) (o i v : V) (ov iv u : Value) (Q : Hp → Prop),Inv X pins σ H s → RelV o ov → RelV i iv → RelV v u → t o i v H Q →
  wpAny (model X.prog X.w) X.A (setItem ov iv u) (fun _ s' => ∃ H',Inv X pins σ H' s' ∧ Q H') X.xe s
noncomputable abbrev TIp := V → V → Hp → VK → Prop
noncomputable def PIp (X : Cx) (op : Operator) (t : TIp) : Prop :=
 ∀ (pins : List (Addr × Obj)) (s : Shared) (σ : St) (H : Hp) (x y : V) (v u : Value) (Q : VK),Inv X pins σ H s → RelV x v → RelV y u → t x y H Q →
  wpAny (model X.prog X.w) X.A (inplaceOp op v u) (EP X pins σ Q) X.xe s
section
variable {X : Cx} {pos : Pos}
noncomputable def gName (i : Nat) : TG := fun v σ H Q => Q (σ.set i (some v)) H
theorem pg_name {i : Nat} {x : Str} (hN : X.N.Nodup) (hi : X.N[i]? = some x) (hx : Loc X.env.scope x) (hf : X.fn x = true ∨ X.env.scope.names.lookup x = some .local := by first | exact .inl rfl | exact .inr rfl | assumption) : PG X (.Name x pos) (gName i) := by
 intro pins s σ H v u Q I r h
 exact wpAny_assign_Name (store_ok I hN hi hx r (fun s' I' => ⟨_,H,I',h⟩) hf)
noncomputable def gNil : TGs := fun vs σ H Q => vs = [] ∧ Q σ H
noncomputable def gCons (t : TG) (u : TGs) : TGs := fun vs σ H Q => ∃ v r,vs = v :: r ∧ t v σ H fun σ' H' => u r σ' H' Q
theorem pgs_nil : PGs X [] gNil := by
 intro pins s σ H vs us Q I r h
 obtain ⟨e,h⟩ := h
 subst e
 cases r
 exact assignInOrder_nil ⟨σ,H,I,h⟩
theorem pgs_cons {e : Expr} {es : List Expr} {t : TG} {u : TGs} (h1 : PG X e t) (h2 : PGs X es u)
 (hs : (assignEach (e :: es) X.env).map (·.2) = assign e X.env :: (assignEach es X.env).map (·.2) := by rfl) : PGs X (e :: es) (gCons t u) := by
 intro pins s σ H vs us Q I r h
 obtain ⟨v,vr,e1,h⟩ := h
 subst e1
 cases r with
 | cons r rr =>
  rw [hs]
  refine assignInOrder_cons (thn (h1 pins s σ H _ _ _ I r h) fun _ s1 ⟨σ1,H1,I1,q1⟩ => ?_)
  exact h2 pins s1 σ1 H1 _ _ Q I1 rr q1
noncomputable def gTup (K : PySem.W.Frag) (n : Nat) (t : TGs) : TG := fun v σ H Q => ∃ a xs,v = .ref a ∧ SqT K H a xs ∧ xs.length = n ∧ t xs σ H Q
theorem pg_tup {es : List Expr} {k : Nat} {t : TGs} {n : Nat} (hc : X.calm = true) (h : PGs X es t)
 (hn : (assignEach es X.env).length = n := by rfl) (hst : (assignEach es X.env).findIdx? (·.1) = none := by rfl) : PG X (.Tuple es k pos) (gTup X.K n t) := by
 intro pins s σ H v u Q I r hw
 obtain ⟨a,xs,e1,hq,hl,hw⟩ := hw
 subst e1
 cases r
 obtain ⟨its,rv,ht,hz⟩ := I.tuple hq
 refine assign_Tuple_tuple (I.ok.hd hc) ht (by simp [hn,← hl,rv.length]) hst fun h' hx => ?_
 have I1 : Inv X pins σ H { s with heap := h' } := I.kept (t' := s.toks) fun b o e => hx b o (Nat.ne_of_lt (Heap.lt_size e)) e
 exact h pins _ σ H xs _ Q I1 (by simpa using rv) hw
noncomputable def gSub (to ti : TE) (t : TSet) : TG := fun v σ H Q => to σ H fun o H1 => ti σ H1 fun i H2 => t o i v H2 fun H3 => Q σ H3
theorem pg_sub {o i : Expr} {to ti : TE} {t : TSet} (ho : PE X o to) (hi : PE X i ti) (hs : PSet X t)
 (ha : ∀ v,assign (.Subscript o i pos) X.env v = (do
   let ov ← holding [v] (eval o X.env)
   let iv ← holding [v,ov] (eval i X.env)
   standAt pos
   holding [v,ov,iv] (setItem ov iv v)
   release [v,ov,iv] []) := by intro _; rfl) : PG X (.Subscript o i pos) (gSub to ti t) := by
 intro pins s σ H v u Q I r h
 rw [ha]
 refine wpAny_bind (wpAny_holding (thn (ho pins s σ H _ I h) fun ov s1 ⟨x,H1,I1,r1,q1⟩ => ?_))
 refine wpAny_bind (wpAny_holding (thn (hi pins s1 σ H1 _ I1 q1) fun iv s2 ⟨y,H2,I2,r2,q2⟩ => ?_))
 refine wpAny_bind (wpAny_standAt (wpAny_bind (wpAny_holding (thn (hs pins s2 σ H2 x y v ov iv u _ I2 r1 r2 r q2) fun _ s3 ⟨H3,I3,q3⟩ => ?_))))
 exact wpAny_release ⟨σ,H3,I3,q3⟩
noncomputable def tAsg (te : TE) (g : TG) : TS := fun D σ H => te σ H fun x H1 => g x σ H1 D.nx
theorem ps_asg {tg e : Expr} {te : TE} {g : TG} (he : PE X e te) (hg : PG X tg g) (hs : swapsWithSole [tg] e pos.line X.env = pure false := by rfl) (hw : swappedStores [tg] e X.env = pure none := by rfl)
 (h1 : (assignEach [tg] X.env).map (·.2) = [assign tg X.env] := by rfl) : PS X (.Assign [tg] e pos) (tAsg te g) := by
 intro pins s σ H D I h
 refine wpAny_Assign_stores (thn (he pins s σ H _ I h) fun v s1 ⟨x,H1,I1,r1,q1⟩ => ?_) hs hw
 rw [h1]
 exact thn (hg pins s1 σ H1 x v _ I1 r1 q1) fun _ s2 q => q
theorem ps_set {i : Nat} {x : Str} {e : Expr} {te : TE} {pos' : Pos} (hN : X.N.Nodup) (hi : X.N[i]? = some x) (hx : Loc X.env.scope x) (he : PE X e te) (hs : swapsWith e (some (.Name x pos')) pos.line X.env = pure false := by rfl) (hf : X.fn x = true ∨ X.env.scope.names.lookup x = some .local := by first | exact .inl rfl | exact .inr rfl | assumption) :
 PS X (.Assign [.Name x pos'] e pos) (tAsg te (gName i)) := by
 intro pins s σ H D I h
 refine wpAny_Assign_Name (thn (he pins s σ H _ I h) fun v s1 ⟨y,H1,I1,r1,q1⟩ => ?_) hs
 exact store_ok I1 hN hi hx r1 (fun s2 I2 => ⟨_,H1,I2,q1⟩) hf
noncomputable def tAug (i : Nat) (te : TE) (ti : TIp) : TS := fun D σ H => ∃ x,σ[i]? = some (some x) ∧ te σ H fun y H1 => ti x y H1 fun z H2 => D.nx (σ.set i (some z)) H2
theorem ps_aug {i : Nat} {x : Str} {e : Expr} {te : TE} {op : Operator} {ti : TIp} {pos' : Pos} (hN : X.N.Nodup) (hi : X.N[i]? = some x) (hx : Loc X.env.scope x) (he : PE X e te) (ho : PIp X op ti) (hf : X.fn x = true ∨ X.env.scope.names.lookup x = some .local := by first | exact .inl rfl | exact .inr rfl | assumption) :
 PS X (.AugAssign (.Name x pos') op e pos) (tAug i te ti) := by
 intro pins s σ H D I h
 obtain ⟨v,e1,h⟩ := h
 obtain ⟨m,hn,hl⟩ := I.loc
 have vis : Vis X.env.scope x := by rcases hx with k | k; exact .inl k; exact .inr (.inl k)
 obtain ⟨u,r,l⟩ := hl i x v hi e1 vis
 refine wpAny_AugAssign_Name ?_
 have go : wpAny (model X.prog X.w) X.A (eval e X.env) (fun w s₂ => wpAny (model X.prog X.w) X.A (inplaceOp op u w) (fun r s₃ => wpAny (model X.prog X.w) X.A (storeName X.env x r) (fun _ => SP X pins D .next) X.xe s₃) X.xe s₂) X.xe s := by
  refine thn (he pins s σ H _ I h) fun w s1 ⟨y,H1,I1,r1,q1⟩ => ?_
  refine thn (ho pins s1 σ H1 v y u w _ I1 r r1 q1) fun z s2 ⟨zv,H2,I2,r2,q2⟩ => ?_
  exact store_ok I2 hN hi hx r2 (fun s3 I3 => ⟨_,H2,I3,q2⟩) hf
 rcases l with ⟨hk,hm⟩ | ⟨hk,c,hc,hcell⟩
 · exact wpAny_loadName_local I.ok.kind hk hn hm go
 · rcases hk with hk | hk
   · exact wpAny_loadName_cell I.ok.kind hk hc hcell go
   · rcases hx with k | k
     · have : X.env.scope.names.lookup x = some .free := hk
       rw [k] at this; cases this
     · have : X.env.scope.names.lookup x = some .free := hk
       rw [k] at this; cases this
noncomputable def ipI (f : Int → Int → Int) : TIp := fun x y H Q => ∃ i j,x = .int i ∧ y = .int j ∧ Q (.int (f i j)) H
theorem ip_add : PIp X .Add (ipI fun i j => i + j) := by
 intro pins s σ H x y v u Q I r1 r2 h
 obtain ⟨i,j,e1,e2,q⟩ := h
 subst e1; subst e2
 obtain ⟨t,rfl⟩ := r1
 obtain ⟨t',rfl⟩ := r2
 exact iadd_int ⟨.int _,H,I.tok _,⟨_,rfl⟩,q⟩
end
section
variable {X : Cx} {pos : Pos}
noncomputable def tWhile (c : TT) (tb : TS) : TS := fun D σ H => ∃ W : Nat → St → Hp → Prop,(∃ m,W m σ H) ∧ ∀ m σ H,W m σ H →
 c σ H fun b H1 => if b = true then ∃ N : St → Hp → Prop,(∀ σ' H',N σ' H' → ∃ m',m' < m ∧ W m' σ' H') ∧ tb { D with nx := N,ct := N,bk := D.nx } σ H1 else D.nx σ H1
theorem ps_while {c : Expr} {body : List Stmt} {tc : TT} {tb : TS} (hp : PassesOwn (model X.prog X.w) X.A X.env X.xe) (hc : PT X c tc) (hb : PSs X body tb) : PS X (.While c body [] pos) (tWhile tc tb) := by
 intro pins s σ H D I h
 obtain ⟨W,⟨m0,w0⟩,turn⟩ := h
 refine wpAny_While (codeAny_whileLoop (fun n s' => ∃ σ' H',Inv X pins σ' H' s' ∧ W n σ' H') ?_ m0 ⟨σ,H,I,w0⟩)
 rintro n s1 ⟨σ1,H1,I1,w1⟩
 refine wpAny_passesOwn hp (thn (hc pins s1 σ1 H1 _ I1 (turn n σ1 H1 w1)) fun b s2 ⟨H2,I2,q2⟩ => ?_)
 cases b with
 | true =>
  obtain ⟨N,hN,q2⟩ := q2
  rw [if_pos rfl]
  refine wpAny_passesOwn hp (thn (hb pins s2 σ1 H2 _ I2 q2) fun f s3 q3 => ?_)
  cases f with
  | next =>
   obtain ⟨σ3,H3,I3,n3⟩ := q3
   obtain ⟨m',hm,w3⟩ := hN σ3 H3 n3
   exact ⟨m',hm,σ3,H3,I3,w3⟩
  | cont =>
   obtain ⟨σ3,H3,I3,n3⟩ := q3
   obtain ⟨m',hm,w3⟩ := hN σ3 H3 n3
   exact ⟨m',hm,σ3,H3,I3,w3⟩
  | brk => exact q3
  | ret v => exact q3
 | false =>
  rw [if_neg Bool.false_ne_true]
  exact wpAny_execs_nil ⟨σ1,H2,I2,q2⟩
end
structure It where
 go : Nat → Hp → Prop
 yld : Nat → Hp → V → Hp → Prop
 stop : Nat → Hp → Prop
noncomputable def FpOk (X : Cx) (pins : List (Addr × Obj)) (H : Hp) (b : Addr) : Prop :=
 H b = none ∧ b ≠ X.env.locals ∧ b ∉ X.fs ∧ (b ∈ X.ex ∨ X.s₀.heap.objs.size ≤ b) ∧ (∀ x c,X.env.cells.lookup x = some c → c ≠ b) ∧ ∀ p ∈ X.pn ++ pins,p.1 ≠ b
theorem Inv.fpOk {X : Cx} {pins : List (Addr × Obj)} {σ : St} {H H' : Hp} {s : Shared} {b : Addr} (I : Inv X pins σ H s) (hb : s.heap.objs.size ≤ b) (hn : H' b = none) : FpOk X pins H' b := by
 refine ⟨hn,Nat.ne_of_gt (Nat.lt_of_lt_of_le I.lt hb),I.nofs hb,.inr (Nat.le_trans I.sz hb),fun x c e z => ?_,fun p hp z => ?_⟩
 · obtain ⟨v,q⟩ := I.cell x c e
   exact absurd (Nat.lt_of_lt_of_le q.lt (by rw [z]; exact hb)) (Nat.lt_irrefl _)
 · exact absurd (Nat.lt_of_lt_of_le (Heap.lt_size (I.pin p hp).1) (by rw [z]; exact hb)) (Nat.lt_irrefl _)
structure Turn (P : Program) (w : World) (K : PySem.W.Frag) (tg : Expr) (J : It) (fp : List Addr) (it : Addr) (tn : Nat → Heap → Prop) : Prop where
 mem : it ∈ fp
 obj : ∀ i h,tn i h → ∀ b ∈ fp,∃ o,h.get? b = some o ∧ ∀ v,o.data ≠ .cell v
 keep : ∀ i h h',tn i h → (∀ b ∈ fp,∀ o,h.get? b = some o → h'.get? b = some o) → tn i h'
 item : ∀ (X : Cx),X.prog = P → X.w = w → X.K = K → X.calm = true → ∀ (i : Nat) (pins : List (Addr × Obj)) (s : Shared) (σ : St) (H : Hp) (E : Value → Shared → Prop),Inv X pins σ H s → (∀ b ∈ fp,FpOk X pins H b) → tn i s.heap → J.go i H →
  wpAny (model P w) X.A (pyNext (.ref it)) (fun r s1 => ∃ u,r = some u ∧
   wpAny (model P w) X.A (letOwnedTupleGo tg (.ref it) u) (fun _ s2 => ∃ x H',Inv X pins σ H' s2 ∧ RelV x u ∧ J.yld i H x H' ∧ tn (i + 1) s2.heap ∧ ∀ b ∈ fp,H' b = none) E s1) E s
 done : ∀ (X : Cx),X.prog = P → X.w = w → X.K = K → X.calm = true → ∀ (i : Nat) (pins : List (Addr × Obj)) (s : Shared) (σ : St) (H : Hp) (E : Value → Shared → Prop),Inv X pins σ H s → (∀ b ∈ fp,FpOk X pins H b) → tn i s.heap → J.stop i H →
  wpAny (model P w) X.A (pyNext (.ref it)) (fun r s1 => r = none ∧ Inv X pins σ H s1) E s
 self : ∀ (A : Around) (i : Nat) (s : Shared) (Q : Value → Shared → Prop) (E : Value → Shared → Prop),tn i s.heap → Q (.ref it) s → wpAny (model P w) A (pyIter (.ref it)) Q E s
noncomputable abbrev TI := St → Hp → (It → Hp → Prop) → Prop
noncomputable def PIE (X : Cx) (pins : List (Addr × Obj)) (σ : St) (tg : Expr) (R : It → Hp → Prop) (itv : Value) (s2 : Shared) : Prop :=
 ∃ (it : Addr) (fp : List Addr) (tn : Nat → Heap → Prop) (J : It) (H' : Hp),itv = .ref it ∧ Inv X pins σ H' s2 ∧ Turn X.prog X.w X.K tg J fp it tn ∧ tn 0 s2.heap ∧ (∀ b ∈ fp,FpOk X pins H' b) ∧ R J H'
noncomputable def PI (X : Cx) (tg iter : Expr) (wi : TI) : Prop :=
 ∀ (pins : List (Addr × Obj)) (s : Shared) (σ : St) (H : Hp) (R : It → Hp → Prop),Inv X pins σ H s → wi σ H R →
  wpAny (model X.prog X.w) X.A (eval iter X.env) (fun v s1 => wpAny (model X.prog X.w) X.A (pyIter v) (PIE X pins σ tg R) X.xe s1) X.xe s
theorem go_of {M : Model} {A : Around} {E : Value → Shared → Prop} {s : Shared} {tg : Expr} {it : Addr} {u : Value} {o : Obj} {n : String} {vs : Array Value} {Q : Unit → Shared → Prop} (ho : s.heap.get? it = some o) (hc : o.cls = .type n) (hd : o.data = .fields vs)
 (hn : ["enumerate","zip","dict_itemiterator","dict_reverseitemiterator","odict_iterator","itertools.zip_longest","itertools.pairwise"].contains n = false) (hQ : Q () s) : wpAny M A (letOwnedTupleGo tg (.ref it) u) Q E s := by
 unfold letOwnedTupleGo
 cases tg <;> first
  | exact wpAny_pure hQ
  | (cases u <;> first
      | exact wpAny_pure hQ
      | (refine wpAny_bind (wpAny_load ho ?_)
         rw [hc,hd]
         show wpAny M A (if (["enumerate","zip","dict_itemiterator","dict_reverseitemiterator","odict_iterator","itertools.zip_longest","itertools.pairwise"].contains n && vs[0]? == some (rawInt _)) = true then _ else _) Q E s
         rw [if_neg (by intro h; rw [hn,Bool.false_and] at h; cases h)]
         exact wpAny_pure hQ))
noncomputable def Itl (K : PySem.W.Frag) (a : Addr) : It :=
 ⟨fun i H => ∃ xs x,SqL K H a xs ∧ xs[i]? = some x,fun i H x H' => H' = H ∧ ∀ xs,SqL K H a xs → xs[i]? = some x,fun i H => ∃ xs,SqL K H a xs ∧ xs.length ≤ i⟩
noncomputable def Itt (K : PySem.W.Frag) (a : Addr) : It :=
 ⟨fun i H => ∃ xs x,SqT K H a xs ∧ xs[i]? = some x,fun i H x H' => H' = H ∧ ∀ xs,SqT K H a xs → xs[i]? = some x,fun i H => ∃ xs,SqT K H a xs ∧ xs.length ≤ i⟩
noncomputable def Itr (lo : Int) (n : Nat) : It := ⟨fun i _ => i < n,fun i H x H' => H' = H ∧ x = .int (lo + i),fun i _ => n ≤ i⟩
theorem turn_list {P : Program} {w : World} {K : PySem.W.Frag} {tg : Expr} (a it : Addr) : Turn P w K tg (Itl K a) [it] it (fun i h => h.IsListIter it a i) where
 mem := by simp
 obj := fun i h st b hb => by
  have e : b = it := by simpa using hb
  subst e
  obtain ⟨o,e,c,d⟩ := st
  exact ⟨o,e,fun v z => by rw [d] at z; cases z⟩
 keep := fun i h h' st k => st.at fun o e => k it (by simp) o e
 item := by
  intro X hP hw hK hc i pins s σ H E I hf st hg
  subst hP hw hK
  obtain ⟨xs,x,hq,hx⟩ := hg
  obtain ⟨its,rv,p,hz⟩ := I.list hq
  obtain ⟨u,hu,ru⟩ := rv.get hx
  obtain ⟨f0,f1,f2,f3,f4,f5⟩ := hf it (by simp)
  refine wpAny_pyNext_list_item st p.isList (x := u) (by simpa using hu) fun h' st' sb => ?_
  have I1 : Inv X pins σ H { s with heap := h' } := I.turned (t' := s.toks) (fun b o hb e => (sb.2 b hb).trans e) f0 f1 f3 f4 f5
  obtain ⟨o,e,c,d⟩ := id st'
  exact ⟨u,rfl,go_of (s := { s with heap := h' }) e c d (by decide) ⟨x,H,I1,ru,⟨rfl,fun ys hy => by rw [I.list_inj hy hq]; exact hx⟩,st',fun b hb => (hf b hb).1⟩⟩
 done := by
  intro X hP hw hK hc i pins s σ H E I hf st hg
  subst hP hw hK
  obtain ⟨xs,hq,hx⟩ := hg
  obtain ⟨its,rv,p,hz⟩ := I.list hq
  obtain ⟨f0,f1,f2,f3,f4,f5⟩ := hf it (by simp)
  have hl := rv.length
  exact wpAny_pyNext_list_end (I.ok.hd hc) st p.isList (by simp; omega) fun h' eb => ⟨rfl,I.turned (t' := s.toks) (fun b o hb e => eb b o hb e) f0 f1 f3 f4 f5⟩
 self := fun _ _ _ _ _ st h => wpAny_pyIter_listiter st h
theorem turn_tuple {P : Program} {w : World} {K : PySem.W.Frag} {tg : Expr} (a it : Addr) : Turn P w K tg (Itt K a) [it] it (fun i h => h.IsTupleIter it a i) where
 mem := by simp
 obj := fun i h st b hb => by
  have e : b = it := by simpa using hb
  subst e
  obtain ⟨o,e,c,d⟩ := st
  exact ⟨o,e,fun v z => by rw [d] at z; cases z⟩
 keep := fun i h h' st k => st.at fun o e => k it (by simp) o e
 item := by
  intro X hP hw hK hc i pins s σ H E I hf st hg
  subst hP hw hK
  obtain ⟨xs,x,hq,hx⟩ := hg
  obtain ⟨its,rv,p,hz⟩ := I.tuple hq
  obtain ⟨u,hu,ru⟩ := rv.get hx
  obtain ⟨f0,f1,f2,f3,f4,f5⟩ := hf it (by simp)
  refine wpAny_pyNext_tuple_item st (show s.heap.IsTuple a its.toArray from p) (x := u) (by simpa using hu) fun h' st' sb => ?_
  have I1 : Inv X pins σ H { s with heap := h' } := I.turned (t' := s.toks) (fun b o hb e => (sb.2 b hb).trans e) f0 f1 f3 f4 f5
  obtain ⟨o,e,c,d⟩ := id st'
  exact ⟨u,rfl,go_of (s := { s with heap := h' }) e c d (by decide) ⟨x,H,I1,ru,⟨rfl,fun ys hy => by rw [I.tuple_inj hy hq]; exact hx⟩,st',fun b hb => (hf b hb).1⟩⟩
 done := by
  intro X hP hw hK hc i pins s σ H E I hf st hg
  subst hP hw hK
  obtain ⟨xs,hq,hx⟩ := hg
  obtain ⟨its,rv,p,hz⟩ := I.tuple hq
  obtain ⟨f0,f1,f2,f3,f4,f5⟩ := hf it (by simp)
  have hl := rv.length
  exact wpAny_pyNext_tuple_end (I.ok.hd hc) st (show s.heap.IsTuple a its.toArray from p) (by simp; omega) fun h' eb => ⟨rfl,I.turned (t' := s.toks) (fun b o hb e => eb b o hb e) f0 f1 f3 f4 f5⟩
 self := fun _ _ _ _ _ st h => wpAny_pyIter_tupleiter st h
theorem turn_range {P : Program} {w : World} {K : PySem.W.Frag} {tg : Expr} (it : Addr) (lo : Int) (n : Nat) : Turn P w K tg (Itr lo n) [it] it (fun i h => IsRangeIter h it (lo + (i : Nat) * 1) ((n : Int) - (i : Nat)) 1) where
 mem := by simp
 obj := fun i h st b hb => by
  have e : b = it := by simpa using hb
  subst e
  exact ⟨_,st,fun v z => by
   have z' : Data.fields _ = Data.cell v := z
   cases z'⟩
 keep := fun i h h' st k => k it (by simp) _ st
 item := by
  intro X hP hw hK hc i pins s σ H E I hf st hg
  subst hP hw hK
  obtain ⟨f0,f1,f2,f3,f4,f5⟩ := hf it (by simp)
  have W := Walks.range (prog := X.prog) (w := X.w) (I.ok.hd hc) it lo 1 n
  refine W.item i s _ _ hg st fun v h' tk hv st' kk => ?_
  obtain ⟨t,rfl⟩ := hv
  have I1 : Inv X pins σ H { s with heap := h',toks := tk } := I.turned (fun b o hb e => kk b o (by simpa using hb) e) f0 f1 f3 f4 f5
  refine ⟨_,rfl,go_of (s := { s with heap := h',toks := tk }) (n := "range_iterator") st' rfl rfl (by decide) ⟨.int (lo + i),H,I1,⟨t,?_⟩,⟨rfl,rfl⟩,st',fun b hb => (hf b hb).1⟩⟩
  rw [Int.mul_one]
 done := by
  intro X hP hw hK hc i pins s σ H E I hf st hg
  subst hP hw hK
  obtain ⟨f0,f1,f2,f3,f4,f5⟩ := hf it (by simp)
  exact wpAny_pyNext_range_end (I.ok.hd hc) st (by have : n ≤ i := hg; omega) fun h' eb => ⟨rfl,I.turned (t' := s.toks) (fun b o hb e => eb b o hb e) f0 f1 f3 f4 f5⟩
 self := fun _ _ _ _ _ st h => wpAny_pyIter_rangeiter st h
end L2
namespace L2
open PySem PySem.Spec PyProof.Rows
section
variable {X : Cx} {tg : Expr}
theorem range_it {pins : List (Addr × Obj)} {σ : St} {H : Hp} {s : Shared} {R : It → Hp → Prop} {E : Value → Shared → Prop} {lo hi : Int} {t u v : Tok} {tk : Nat} (I : Inv X pins σ H s) (h1 : -(2 ^ 62) ≤ lo) (h2 : lo < 2 ^ 62) (h3 : -(2 ^ 62) ≤ hi) (h4 : hi < 2 ^ 62)
 (q : R (Itr lo (hi - lo).toNat) H) : wpAny (model X.prog X.w) X.A (pyIter (.ref s.heap.objs.size)) (PIE X pins σ tg R) E { s with heap := s.heap.push { cls := .type "range",data := .fields #[.int lo t,.int hi u,.int 1 v] },toks := tk } := by
 refine wpAny_pyIter_range (IsRange.new ..) (small_one h1 h2 h3 h4) ?_
 have I1 : Inv X pins σ H { s with heap := s.heap.push { cls := .type "range",data := .fields #[.int lo t,.int hi u,.int 1 v] },toks := tk } := I.kept fun b o e => Heap.get?_push_of_some _ e
 refine ⟨(s.heap.push { cls := .type "range",data := .fields #[.int lo t,.int hi u,.int 1 v] }).objs.size,[(s.heap.push { cls := .type "range",data := .fields #[.int lo t,.int hi u,.int 1 v] }).objs.size],_,_,H,rfl,
  I1.kept (t' := tk) fun b o e => Heap.get?_push_of_some _ e,turn_range _ lo (hi - lo).toNat,?_,fun b hb => ?_,q⟩
 · have e1 : lo + ((0 : Nat) : Int) * 1 = lo := by simp
   have e2 : (((hi - lo).toNat : Nat) : Int) - ((0 : Nat) : Int) = Builtin.Range.rangeSize lo hi 1 := by rw [rangeSize_one]; split <;> omega
   show IsRangeIter _ _ (lo + ((0 : Nat) : Int) * 1) ((((hi - lo).toNat : Nat) : Int) - ((0 : Nat) : Int)) 1
   rw [e1,e2]
   exact Heap.get?_push_size _ rfl
 · have e : b = (s.heap.push { cls := .type "range",data := .fields #[.int lo t,.int hi u,.int 1 v] }).objs.size := by simpa using hb
   subst e
   exact I1.fpOk (Nat.le_refl _) (I1.hok.fresh (Nat.le_refl _))
noncomputable def iRng1 (ta : TA) : TI := fun σ H R => ta σ H fun vs H1 => ∃ j : Int,vs = [.int j] ∧ -(2 ^ 62) ≤ j ∧ j < 2 ^ 62 ∧ R (Itr 0 j.toNat) H1
theorem pi_range1 {a : Expr} {ta : TA} {p pos : Pos} (hg : Gl X "range") (hm : X.mg "range" = none) (ha : PA X [a] ta) (hs : starEach [a] X.env = [(false,eval a X.env)] := by rfl) : PI X tg (.Call (.Name "range" p) [a] [] pos) (iRng1 ta) := by
 intro pins s σ H R I h
 refine Call_ (ld_blt I hg hm boot_range (PyProof.Rows.callWith_type1 (thn (ha pos pins s σ H _ I h) fun us s1 ⟨vs,H1,I1,r1,q1⟩ => ?_) hs rfl))
 obtain ⟨j,e,q1,q2,q⟩ := q1
 subst e
 cases r1 with
 | cons r rr =>
  cases rr
  obtain ⟨t,rfl⟩ := r
  exact call_range_1 (range_it I1 (by omega) (by omega) q1 q2 (by simpa using q))
noncomputable def tFor (wi : TI) (g : TG) (tb : TS) : TS := fun D σ H => wi σ H fun J H1 => ∃ W : Nat → Nat → St → Hp → Prop,(∃ m,W 0 m σ H1) ∧ ∀ i m σ H,W i m σ H →
 (J.stop i H ∧ D.nx σ H) ∨ (J.go i H ∧ ∃ N : St → Hp → Prop,(∀ σ' H',N σ' H' → ∃ m',m' < m ∧ W (i + 1) m' σ' H') ∧ ∀ x H',J.yld i H x H' → g x σ H' fun σ2 H2 => tb { D with nx := N,ct := N,bk := D.nx } σ2 H2)
noncomputable def pinsAt (fp : List Addr) (h : Heap) : List (Addr × Obj) := fp.filterMap fun b => (h.get? b).map fun o => (b,o)
theorem mem_pinsAt {fp : List Addr} {h : Heap} {b : Addr} {o : Obj} (hb : b ∈ fp) (e : h.get? b = some o) : (b,o) ∈ pinsAt fp h := List.mem_filterMap.mpr ⟨b,hb,by rw [e]; rfl⟩
theorem of_pinsAt {fp : List Addr} {h : Heap} {p : Addr × Obj} (hp : p ∈ pinsAt fp h) : p.1 ∈ fp ∧ h.get? p.1 = some p.2 := by
 obtain ⟨b,hb,e⟩ := List.mem_filterMap.mp hp
 cases q : h.get? b with
 | none => rw [q] at e; cases e
 | some o =>
  rw [q] at e
  have e' : (b,o) = p := Option.some.inj e
  subst e'
  exact ⟨hb,q⟩
theorem Inv.pinned {pins : List (Addr × Obj)} {σ : St} {H : Hp} {s : Shared} {fp : List Addr} (I : Inv X pins σ H s) (hf : ∀ b ∈ fp,FpOk X pins H b) (ho : ∀ b ∈ fp,∃ o,s.heap.get? b = some o ∧ ∀ v,o.data ≠ .cell v) : Inv X (pins ++ pinsAt fp s.heap) σ H s :=
 I.pins_of fun p hp => (List.mem_append.mp hp).elim (fun z => I.pin p (List.mem_append_right _ z)) fun z => by
  obtain ⟨hb,e⟩ := of_pinsAt z
  obtain ⟨f0,f1,f2,_⟩ := hf p.1 hb
  obtain ⟨o,e',d⟩ := ho p.1 hb
  rw [e] at e'; cases e'
  exact ⟨e,f0,f1,f2,d⟩
theorem Inv.unpinned {pins pl : List (Addr × Obj)} {σ : St} {H : Hp} {s : Shared} (I : Inv X (pins ++ pl) σ H s) : Inv X pins σ H s := I.pins_of fun p hp => I.pin p (List.mem_append_right _ (List.mem_append_left _ hp))
theorem ps_for {iter : Expr} {body : List Stmt} {wi : TI} {g : TG} {tb : TS} {pos : Pos} (hp : PassesOwn (model X.prog X.w) X.A X.env X.xe) (hc : X.calm = true) (hi : PI X tg iter wi) (hg : PG X tg g) (hb : PSs X body tb)
 (hs : ∀ x,foldedSetIterable iter X.env x = pure x := by intro _; rfl) : PS X (.For tg iter body [] pos) (tFor wi g tb) := by
 intro pins s σ H D I h
 refine wpAny_For (thn (hi pins s σ H _ I h) fun v s1 h1 => thn h1 fun itv s2 h2 => ?_) hs
 obtain ⟨it,fp,tn,J,H2,e,I2,T,st2,f2,W,⟨m0,w0⟩,turn⟩ := h2
 subst e
 have stat : ∀ {H' : Hp},(∀ b ∈ fp,H' b = none) → ∀ b ∈ fp,FpOk X pins H' b := fun hn b hb => ⟨hn b hb,(f2 b hb).2⟩
 refine codeAny_forLoop_any (fun n s' => ∃ i σ' H',Inv X pins σ' H' s' ∧ tn i s'.heap ∧ (∀ b ∈ fp,H' b = none) ∧ W i n σ' H') ?_ m0 ⟨0,σ,H2,I2,st2,fun b hb => (f2 b hb).1,w0⟩
 rintro n s3 ⟨i,σ3,H3,I3,st3,fr3,w3⟩
 rcases turn i n σ3 H3 w3 with ⟨stop,qn⟩ | ⟨go,N,hN,step⟩
 · refine wpAny_passesOwn hp (thn (T.done X rfl rfl rfl hc i pins s3 σ3 H3 X.xe I3 (stat fr3) st3 stop) fun r s4 ⟨hr,I4⟩ => ?_)
   subst hr
   exact wpAny_execs_nil ⟨σ3,H3,I4,qn⟩
 · refine wpAny_passesOwn hp (thn (T.item X rfl rfl rfl hc i pins s3 σ3 H3 X.xe I3 (stat fr3) st3 go) fun r s4 ⟨u,hr,h4⟩ => ?_)
   subst hr
   refine wpAny_passesOwn hp (thn h4 fun _ s5 ⟨x,H5,I5,r5,y5,st5,fr5⟩ => ?_)
   have I5' := I5.pinned (stat fr5) (T.obj _ _ st5)
   refine wpAny_passesOwn hp (thn (hg _ s5 σ3 H5 x u _ I5' r5 (step x H5 y5)) fun _ s6 ⟨σ6,H6,I6,q6⟩ => ?_)
   refine wpAny_passesOwn hp (thn (hb _ s6 σ6 H6 _ I6 q6) fun f s7 q7 => ?_)
   have again : ∀ {σ7 : St} {H7 : Hp},Inv X (pins ++ pinsAt fp s5.heap) σ7 H7 s7 → N σ7 H7 → ∃ m,m < n ∧ ∃ i σ' H',Inv X pins σ' H' s7 ∧ tn i s7.heap ∧ (∀ b ∈ fp,H' b = none) ∧ W i m σ' H' := fun {σ7 H7} I7 n7 => by
    obtain ⟨m',hm,w7⟩ := hN σ7 H7 n7
    refine ⟨m',hm,i + 1,σ7,H7,I7.unpinned,T.keep _ _ _ st5 fun b hb o e => (I7.pin (b,o) (List.mem_append_right _ (List.mem_append_right _ (mem_pinsAt hb e)))).1,fun b hb => ?_,w7⟩
    obtain ⟨o,e,d⟩ := T.obj _ _ st5 b hb
    exact (I7.pin (b,o) (List.mem_append_right _ (List.mem_append_right _ (mem_pinsAt hb e)))).2.1
   cases f with
   | next => obtain ⟨σ7,H7,I7,n7⟩ := q7; exact again I7 n7
   | cont => obtain ⟨σ7,H7,I7,n7⟩ := q7; exact again I7 n7
   | brk => obtain ⟨σ7,H7,I7,q7⟩ := q7; exact ⟨σ7,H7,I7.unpinned,q7⟩
   | ret v => obtain ⟨x7,σ7,H7,I7,r7,q7⟩ := q7; exact ⟨x7,σ7,H7,I7.unpinned,r7,q7⟩
end
theorem for_list {K : PySem.W.Frag} {a : Addr} {xs : List V} {g : TG} {tb : TS} {D : Ends} {σ : St} {H : Hp} (Pv : Nat → St → Hp → Prop) (h0 : Pv 0 σ H) (hl : ∀ i σ H,i ≤ xs.length → Pv i σ H → SqL K H a xs)
 (hs : ∀ i x σ H,xs[i]? = some x → Pv i σ H → g x σ H fun σ2 H2 => tb { D with nx := Pv (i + 1),ct := Pv (i + 1),bk := D.nx } σ2 H2) (hd : ∀ σ H,Pv xs.length σ H → D.nx σ H) :
 ∃ W : Nat → Nat → St → Hp → Prop,(∃ m,W 0 m σ H) ∧ ∀ i m σ H,W i m σ H →
  ((Itl K a).stop i H ∧ D.nx σ H) ∨ ((Itl K a).go i H ∧ ∃ N : St → Hp → Prop,(∀ σ' H',N σ' H' → ∃ m',m' < m ∧ W (i + 1) m' σ' H') ∧ ∀ x H',(Itl K a).yld i H x H' → g x σ H' fun σ2 H2 => tb { D with nx := N,ct := N,bk := D.nx } σ2 H2) := by
 refine ⟨fun i m σ H => m = xs.length - i ∧ i ≤ xs.length ∧ Pv i σ H,⟨xs.length,by simp,Nat.zero_le _,h0⟩,?_⟩
 rintro i m σ H ⟨rfl,hi,p⟩
 have q := hl i σ H hi p
 by_cases hlt : i < xs.length
 · refine .inr ⟨⟨xs,xs[i],q,by simp [hlt]⟩,Pv (i + 1),fun σ' H' p' => ⟨xs.length - (i + 1),by omega,rfl,hlt,p'⟩,fun x H' y => ?_⟩
   obtain ⟨e,y⟩ := y
   subst e
   exact hs i x σ _ (y xs q) p
 · have e : i = xs.length := by omega
   subst e
   exact .inl ⟨⟨xs,q,Nat.le_refl _⟩,hd σ H p⟩
theorem for_tup {K : PySem.W.Frag} {a : Addr} {xs : List V} {g : TG} {tb : TS} {D : Ends} {σ : St} {H : Hp} (Pv : Nat → St → Hp → Prop) (h0 : Pv 0 σ H) (hl : ∀ i σ H,i ≤ xs.length → Pv i σ H → SqT K H a xs)
 (hs : ∀ i x σ H,xs[i]? = some x → Pv i σ H → g x σ H fun σ2 H2 => tb { D with nx := Pv (i + 1),ct := Pv (i + 1),bk := D.nx } σ2 H2) (hd : ∀ σ H,Pv xs.length σ H → D.nx σ H) :
 ∃ W : Nat → Nat → St → Hp → Prop,(∃ m,W 0 m σ H) ∧ ∀ i m σ H,W i m σ H →
  ((Itt K a).stop i H ∧ D.nx σ H) ∨ ((Itt K a).go i H ∧ ∃ N : St → Hp → Prop,(∀ σ' H',N σ' H' → ∃ m',m' < m ∧ W (i + 1) m' σ' H') ∧ ∀ x H',(Itt K a).yld i H x H' → g x σ H' fun σ2 H2 => tb { D with nx := N,ct := N,bk := D.nx } σ2 H2) := by
 refine ⟨fun i m σ H => m = xs.length - i ∧ i ≤ xs.length ∧ Pv i σ H,⟨xs.length,by simp,Nat.zero_le _,h0⟩,?_⟩
 rintro i m σ H ⟨rfl,hi,p⟩
 have q := hl i σ H hi p
 by_cases hlt : i < xs.length
 · refine .inr ⟨⟨xs,xs[i],q,by simp [hlt]⟩,Pv (i + 1),fun σ' H' p' => ⟨xs.length - (i + 1),by omega,rfl,hlt,p'⟩,fun x H' y => ?_⟩
   obtain ⟨e,y⟩ := y
   subst e
   exact hs i x σ _ (y xs q) p
 · have e : i = xs.length := by omega
   subst e
   exact .inl ⟨⟨xs,q,Nat.le_refl _⟩,hd σ H p⟩
theorem for_range {lo : Int} {n : Nat} {g : TG} {tb : TS} {D : Ends} {σ : St} {H : Hp} (Pv : Nat → St → Hp → Prop) (h0 : Pv 0 σ H)
 (hs : ∀ i σ H,i < n → Pv i σ H → g (.int (lo + i)) σ H fun σ2 H2 => tb { D with nx := Pv (i + 1),ct := Pv (i + 1),bk := D.nx } σ2 H2) (hd : ∀ σ H,Pv n σ H → D.nx σ H) :
 ∃ W : Nat → Nat → St → Hp → Prop,(∃ m,W 0 m σ H) ∧ ∀ i m σ H,W i m σ H →
  ((Itr lo n).stop i H ∧ D.nx σ H) ∨ ((Itr lo n).go i H ∧ ∃ N : St → Hp → Prop,(∀ σ' H',N σ' H' → ∃ m',m' < m ∧ W (i + 1) m' σ' H') ∧ ∀ x H',(Itr lo n).yld i H x H' → g x σ H' fun σ2 H2 => tb { D with nx := N,ct := N,bk := D.nx } σ2 H2) := by
 refine ⟨fun i m σ H => m = n - i ∧ i ≤ n ∧ Pv i σ H,⟨n,by simp,Nat.zero_le _,h0⟩,?_⟩
 rintro i m σ H ⟨rfl,hi,p⟩
 by_cases hlt : i < n
 · refine .inr ⟨hlt,Pv (i + 1),fun σ' H' p' => ⟨n - (i + 1),by omega,rfl,hlt,p'⟩,fun x H' y => ?_⟩
   obtain ⟨e,y⟩ := y
   subst e y
   exact hs i σ _ hlt p
 · have e : i = n := by omega
   subst e
   exact .inl ⟨Nat.le_refl _,hd σ H p⟩
end L2
namespace L2
open PySem PySem.Spec PyProof.Rows
noncomputable abbrev R2 := V → V → Hp → VK → Prop
noncomputable def OpR (X : Cx) (f : Value → Value → Sem Value) (r : R2) : Prop :=
 ∀ (pins : List (Addr × Obj)) (s : Shared) (σ : St) (H : Hp) (x y : V) (v u : Value) (Q : VK),Inv X pins σ H s → RelV x v → RelV y u → r x y H Q →
  wpAny (model X.prog X.w) X.A (f v u) (EP X pins σ Q) X.xe s
noncomputable def UnR (X : Cx) (f : Value → Sem Value) (r : V → Hp → VK → Prop) : Prop :=
 ∀ (pins : List (Addr × Obj)) (s : Shared) (σ : St) (H : Hp) (x : V) (v : Value) (Q : VK),Inv X pins σ H s → RelV x v → r x H Q →
  wpAny (model X.prog X.w) X.A (f v) (EP X pins σ Q) X.xe s
noncomputable def CallR (X : Cx) (f : Value) (r : List V → Hp → VK → Prop) : Prop :=
 ∀ (pins : List (Addr × Obj)) (s : Shared) (σ : St) (H : Hp) (xs : List V) (us : List Value) (Q : VK),Inv X pins σ H s → Vals xs us → r xs H Q →
  wpAny (model X.prog X.w) X.A (call f us) (EP X pins σ Q) X.xe s
noncomputable def tOp (r : R2) (ta tb : TE) : TE := fun σ H Q => ta σ H fun x H1 => tb σ H1 fun y H2 => r x y H2 Q
noncomputable def tUn (r : V → Hp → VK → Prop) (ta : TE) : TE := fun σ H Q => ta σ H fun x H1 => r x H1 Q
noncomputable def rI (C : Int → Int → Prop) (g : Int → Int → V) : R2 := fun x y H Q => ∃ i j,x = .int i ∧ y = .int j ∧ C i j ∧ Q (g i j) H
noncomputable def rI0 (g : Int → Int → V) : R2 := fun x y H Q => ∃ i j,x = .int i ∧ y = .int j ∧ Q (g i j) H
noncomputable def rU (g : Int → V) : V → Hp → VK → Prop := fun x H Q => ∃ i,x = .int i ∧ Q (g i) H
section
variable {X : Cx} {a b c : Expr} {ta tb tc : TE} {pos : Pos}
theorem binT (ha : PE X a ta) (hb : PE X b tb) {pins : List (Addr × Obj)} {s : Shared} {σ : St} {H : Hp} {R : V → V → Hp → Prop} (I : Inv X pins σ H s)
 (h : ta σ H fun x H1 => tb σ H1 fun y H2 => R x y H2) {Q : Value → Shared → Prop} {f : Value → Value → Sem Value}
 (hf : ∀ v u s2 x y H2,Inv X pins σ H2 s2 → RelV x v → RelV y u → R x y H2 → wpAny (model X.prog X.w) X.A (f v u) Q X.xe s2) :
 wpAny (model X.prog X.w) X.A (eval a X.env) (fun v s₁ => wpAny (model X.prog X.w) X.A (eval b X.env) (fun u s₂ => wpAny (model X.prog X.w) X.A (f v u) Q X.xe s₂) X.xe s₁) X.xe s := by
 refine thn (ha pins s σ H _ I h) fun v s1 ⟨x,H1,I1,r1,q1⟩ => ?_
 refine thn (hb pins s1 σ H1 _ I1 q1) fun u s2 ⟨y,H2,I2,r2,q2⟩ => ?_
 exact hf v u s2 x y H2 I2 r1 r2 q2
theorem pe_op {op : Operator} {r : R2} (ho : OpR X (binaryOp op) r) (ha : PE X a ta) (hb : PE X b tb) : PE X (.BinOp a op b pos) (tOp r ta tb) := by
 intro pins s σ H Q I h
 exact wpAny_BinOp (binT ha hb I h fun v u s2 x y H2 I2 rx ry q => ho pins s2 σ H2 x y v u Q I2 rx ry q)
theorem pe_un {op : UnaryOp} {r : V → Hp → VK → Prop} (ho : UnR X (unaryOp op) r) (ha : PE X a ta) : PE X (.UnaryOp op a pos) (tUn r ta) := by
 intro pins s σ H Q I h
 exact UnaryOp_ (thn (ha pins s σ H _ I h) fun v s1 ⟨x,H1,I1,r1,q1⟩ => ho pins s1 σ H1 x v Q I1 r1 q1)
theorem opI {f : Value → Value → Sem Value} {C : Int → Int → Prop} {g : Int → Int → Int}
 (rule : ∀ (i j : Int) (t u : Tok) (s : Shared) (Q : Value → Shared → Prop) (E : Value → Shared → Prop),C i j → Q (.int (g i j) s.toks) { s with toks := s.toks + 1 } → wpAny (model X.prog X.w) X.A (f (.int i t) (.int j u)) Q E s) :
 OpR X f (rI C fun i j => .int (g i j)) := by
 intro pins s σ H x y v u Q I rx ry h
 obtain ⟨i,j,rfl,rfl,hc,q⟩ := h
 obtain ⟨t,rfl⟩ := rx
 obtain ⟨t',rfl⟩ := ry
 exact rule i j t t' s _ _ hc ⟨.int (g i j),H,I.tok _,⟨_,rfl⟩,q⟩
theorem opI0 {f : Value → Value → Sem Value} {g : Int → Int → Int}
 (rule : ∀ (i j : Int) (t u : Tok) (s : Shared) (Q : Value → Shared → Prop) (E : Value → Shared → Prop),Q (.int (g i j) s.toks) { s with toks := s.toks + 1 } → wpAny (model X.prog X.w) X.A (f (.int i t) (.int j u)) Q E s) :
 OpR X f (rI0 fun i j => .int (g i j)) := by
 intro pins s σ H x y v u Q I rx ry h
 obtain ⟨i,j,rfl,rfl,q⟩ := h
 obtain ⟨t,rfl⟩ := rx
 obtain ⟨t',rfl⟩ := ry
 exact rule i j t t' s _ _ ⟨.int (g i j),H,I.tok _,⟨_,rfl⟩,q⟩
theorem opB0 {f : Value → Value → Sem Value} {g : Int → Int → Bool}
 (rule : ∀ (i j : Int) (t u : Tok) (s : Shared) (Q : Value → Shared → Prop) (E : Value → Shared → Prop),Q (.bool (g i j)) s → wpAny (model X.prog X.w) X.A (f (.int i t) (.int j u)) Q E s) :
 OpR X f (rI0 fun i j => .bl (g i j)) := by
 intro pins s σ H x y v u Q I rx ry h
 obtain ⟨i,j,rfl,rfl,q⟩ := h
 obtain ⟨t,rfl⟩ := rx
 obtain ⟨t',rfl⟩ := ry
 exact rule i j t t' s _ _ ⟨.bl (g i j),H,I,rfl,q⟩
noncomputable def CDiv (i j : Int) : Prop := 0 < j ∧ j < 1073741824
noncomputable def CMul (i j : Int) : Prop := (-(2 ^ 64) < i ∧ i < 2 ^ 64) ∨ (-(2 ^ 64) < j ∧ j < 2 ^ 64)
theorem CMul.ok {i j : Int} (h : CMul i j) : IntMulOk i j := by
 rcases h with ⟨h1,h2⟩ | ⟨h1,h2⟩
 · exact .of_left (intBits_le_64 h1 h2)
 · exact .of_right (intBits_le_64 h1 h2)
theorem op_add : OpR X (binaryOp .Add) (rI0 fun i j => .int (i + j)) := opI0 fun _ _ _ _ _ _ _ q => add_int q
theorem op_sub : OpR X (binaryOp .Sub) (rI0 fun i j => .int (i - j)) := opI0 fun _ _ _ _ _ _ _ q => sub_int q
theorem op_mul : OpR X (binaryOp .Mult) (rI CMul fun i j => .int (i * j)) := opI fun _ _ _ _ _ _ _ hc q => mul_int q hc.ok
theorem op_fdiv : OpR X (binaryOp .FloorDiv) (rI CDiv fun i j => .int (i / j)) := opI fun i j _ _ _ _ _ hc q => by
 have h1 : (0 : Int) < j := hc.1
 have h2 : j < 1073741824 := hc.2
 exact floordiv_int (by omega) (by rw [Int.fdiv_eq_ediv_of_nonneg i (by omega)]; exact q) (.inl (PyProof.noPylong_small (by omega)))
theorem op_mod : OpR X (binaryOp .Mod) (rI (fun _ j => 0 < j) fun i j => .int (i % j)) := opI fun i j _ _ _ _ _ hc q => by
 have h1 : (0 : Int) < j := hc
 exact mod_int' (by omega) (by rw [Int.fmod_eq_emod_of_nonneg i (by omega)]; exact q)
theorem unI {f : Value → Sem Value} {g : Int → Int}
 (rule : ∀ (i : Int) (t : Tok) (s : Shared) (Q : Value → Shared → Prop) (E : Value → Shared → Prop),Q (.int (g i) s.toks) { s with toks := s.toks + 1 } → wpAny (model X.prog X.w) X.A (f (.int i t)) Q E s) :
 UnR X f (rU fun i => .int (g i)) := by
 intro pins s σ H x v Q I rx h
 obtain ⟨i,rfl,q⟩ := h
 obtain ⟨t,rfl⟩ := rx
 exact rule i t s _ _ ⟨.int (g i),H,I.tok _,⟨_,rfl⟩,q⟩
theorem un_neg : UnR X (unaryOp .USub) (rU fun i => .int (-i)) := unI fun _ _ _ _ _ q => neg_int q
end
noncomputable def scal : V → V → Bool
 | .non,.non => true | .non,.int _ => true | .int _,.non => true | .non,.bl _ => true | .bl _,.non => true | .non,.str _ => true | .str _,.non => true
 | .int _,.int _ => true | .bl _,.bl _ => true | .str _,.str _ => true | .byt _,.byt _ => true
 | .int _,.str _ => true | .str _,.int _ => true | .bl _,.str _ => true | .str _,.bl _ => true
 | _,_ => false
noncomputable def rEq : R2 := fun x y H Q => scal x y = true ∧ Q (.bl (decide (x = y))) H
noncomputable def rNe : R2 := fun x y H Q => scal x y = true ∧ Q (.bl (!decide (x = y))) H
theorem dec_int {i j : Int} : decide (V.int i = V.int j) = (i == j) := by
 rw [Bool.eq_iff_iff]
 simp
theorem dec_bl {i j : Bool} : decide (V.bl i = V.bl j) = (i == j) := by
 rw [Bool.eq_iff_iff]
 simp
theorem dec_str {i j : Str} : decide (V.str i = V.str j) = (i == j) := by
 rw [Bool.eq_iff_iff]
 simp
theorem dec_byt {i j : Array UInt8} : decide (V.byt i = V.byt j) = (i.toList == j.toList) := by
 rw [Bool.eq_iff_iff]
 cases i
 cases j
 simp
section
variable {X : Cx} {a b c : Expr} {ta tb tc : TE} {pos : Pos}
theorem fin_bl {pins : List (Addr × Obj)} {σ : St} {H : Hp} {s : Shared} {Q : VK} {k k' : Bool} (I : Inv X pins σ H s) (q : Q (.bl k) H) (e : k = k') : EP X pins σ Q (.bool k') s := by
 subst e
 exact ⟨.bl k,H,I,rfl,q⟩
theorem op_eq : OpR X (compareOp .Eq) rEq := by
 intro pins s σ H x y v u Q I rx ry h
 obtain ⟨hs,q⟩ := h
 cases x with
 | non =>
  cases rx
  cases y with
  | non => cases ry; exact PySem.EqNone.eq_none_none (fin_bl I q (by simp))
  | bl j => cases ry; exact PySem.EqNone.eq_none_bool (fin_bl I q (by simp))
  | int j => obtain ⟨t',rfl⟩ := ry; exact PySem.EqNone.eq_none_int (fin_bl I q (by simp))
  | str j => obtain ⟨t',rfl⟩ := ry; exact PySem.EqNone.eq_none_str (fin_bl I q (by simp))
  | _ => exact absurd (show false = true from hs) Bool.false_ne_true
 | bl i =>
  cases rx
  cases y with
  | non => cases ry; exact PySem.EqNone.eq_bool_none (fin_bl I q (by simp))
  | bl j => cases ry; exact eq_bool (fin_bl I q dec_bl)
  | str j => obtain ⟨t',rfl⟩ := ry; exact PySem.EqMixed.eq_bool_str (fin_bl I q (by simp))
  | _ => exact absurd (show false = true from hs) Bool.false_ne_true
 | int i =>
  obtain ⟨t,rfl⟩ := rx
  cases y with
  | non => cases ry; exact PySem.EqNone.eq_int_none (fin_bl I q (by simp))
  | int j => obtain ⟨t',rfl⟩ := ry; exact eq_int (fin_bl I q dec_int)
  | str j => obtain ⟨t',rfl⟩ := ry; exact PySem.EqMixed.eq_int_str (fin_bl I q (by simp))
  | _ => exact absurd (show false = true from hs) Bool.false_ne_true
 | str i =>
  obtain ⟨t,rfl⟩ := rx
  cases y with
  | non => cases ry; exact PySem.EqNone.eq_str_none (fin_bl I q (by simp))
  | bl j => cases ry; exact PySem.EqMixed.eq_str_bool (fin_bl I q (by simp))
  | int j => obtain ⟨t',rfl⟩ := ry; exact PySem.EqMixed.eq_str_int (fin_bl I q (by simp))
  | str j => obtain ⟨t',rfl⟩ := ry; exact eq_str (fin_bl I q dec_str)
  | _ => exact absurd (show false = true from hs) Bool.false_ne_true
 | byt i =>
  obtain ⟨t,rfl⟩ := rx
  cases y with
  | byt j => obtain ⟨t',rfl⟩ := ry; exact PySem.W.eq_bytes (fin_bl I q dec_byt)
  | _ => exact absurd (show false = true from hs) Bool.false_ne_true
 | _ => cases y <;> exact absurd (show false = true from hs) Bool.false_ne_true
theorem op_ne : OpR X (compareOp .NotEq) rNe := by
 intro pins s σ H x y v u Q I rx ry h
 obtain ⟨hs,q⟩ := h
 cases x with
 | non =>
  cases rx
  cases y with
  | non => cases ry; exact PySem.EqNone.ne_none_none (fin_bl I q (by simp))
  | bl j => cases ry; exact PySem.EqNone.ne_none_bool (fin_bl I q (by simp))
  | int j => obtain ⟨t',rfl⟩ := ry; exact PySem.EqNone.ne_none_int (fin_bl I q (by simp))
  | str j => obtain ⟨t',rfl⟩ := ry; exact PySem.EqNone.ne_none_str (fin_bl I q (by simp))
  | _ => exact absurd (show false = true from hs) Bool.false_ne_true
 | bl i =>
  cases rx
  cases y with
  | non => cases ry; exact PySem.EqNone.ne_bool_none (fin_bl I q (by simp))
  | bl j => cases ry; exact ne_bool (fin_bl I q (congrArg not dec_bl))
  | str j => obtain ⟨t',rfl⟩ := ry; exact PySem.EqMixed.ne_bool_str (fin_bl I q (by simp))
  | _ => exact absurd (show false = true from hs) Bool.false_ne_true
 | int i =>
  obtain ⟨t,rfl⟩ := rx
  cases y with
  | non => cases ry; exact PySem.EqNone.ne_int_none (fin_bl I q (by simp))
  | int j => obtain ⟨t',rfl⟩ := ry; exact ne_int (fin_bl I q (congrArg not dec_int))
  | str j => obtain ⟨t',rfl⟩ := ry; exact PySem.EqMixed.ne_int_str (fin_bl I q (by simp))
  | _ => exact absurd (show false = true from hs) Bool.false_ne_true
 | str i =>
  obtain ⟨t,rfl⟩ := rx
  cases y with
  | non => cases ry; exact PySem.EqNone.ne_str_none (fin_bl I q (by simp))
  | bl j => cases ry; exact PySem.EqMixed.ne_str_bool (fin_bl I q (by simp))
  | int j => obtain ⟨t',rfl⟩ := ry; exact PySem.EqMixed.ne_str_int (fin_bl I q (by simp))
  | str j => obtain ⟨t',rfl⟩ := ry; exact ne_str (fin_bl I q (congrArg not dec_str))
  | _ => exact absurd (show false = true from hs) Bool.false_ne_true
 | byt i =>
  obtain ⟨t,rfl⟩ := rx
  cases y with
  | byt j => obtain ⟨t',rfl⟩ := ry; exact PySem.W.ne_bytes (fin_bl I q (congrArg not dec_byt))
  | _ => exact absurd (show false = true from hs) Bool.false_ne_true
 | _ => cases y <;> exact absurd (show false = true from hs) Bool.false_ne_true
theorem op_lt : OpR X (compareOp .Lt) (rI0 fun i j => .bl (decide (i < j))) := opB0 fun _ _ _ _ _ _ _ q => lt_int q
theorem op_le : OpR X (compareOp .LtE) (rI0 fun i j => .bl (decide (i ≤ j))) := opB0 fun _ _ _ _ _ _ _ q => le_int q
theorem op_gt : OpR X (compareOp .Gt) (rI0 fun i j => .bl (decide (j < i))) := opB0 fun _ _ _ _ _ _ _ q => gt_int q
theorem op_ge : OpR X (compareOp .GtE) (rI0 fun i j => .bl (decide (j ≤ i))) := opB0 fun _ _ _ _ _ _ _ q => ge_int q
theorem op_notin_str : OpR X (compareOp .NotIn) (fun x y H Q => ∃ i j,x = .str i ∧ y = .str j ∧ Q (.bl (!(!(Builtin.Str.occurrences j i 0 j.length 1).isEmpty))) H) := by
 intro pins s σ H x y v u Q I rx ry h
 obtain ⟨i,j,rfl,rfl,q⟩ := h
 obtain ⟨t,rfl⟩ := rx
 obtain ⟨t',rfl⟩ := ry
 exact notIn_str (fin_bl I q rfl)
theorem OpR.or {f : Value → Value → Sem Value} {r r' : R2} (h : OpR X f r) (h' : OpR X f r') : OpR X f (fun x y H Q => r x y H Q ∨ r' x y H Q) := by
 intro pins s σ H x y v u Q I rx ry q
 rcases q with q | q
 · exact h pins s σ H x y v u Q I rx ry q
 · exact h' pins s σ H x y v u Q I rx ry q
theorem nomark (b : Expr) {op : CmpOp} (h : op ≠ .In := by decide) (h2 : op ≠ .NotIn := by decide) : behindInMarks op b = false := by
 have e1 : (op == CmpOp.In) = false := by cases op <;> first | rfl | exact absurd rfl h
 have e2 : (op == CmpOp.NotIn) = false := by cases op <;> first | rfl | exact absurd rfl h2
 cases b <;> simp [behindInMarks,e1,e2]
theorem pe_cmpR {op : CmpOp} {r : R2} (ho : OpR X (compareOp op) r) (ha : PE X a ta) (hb : PE X b tb) (hm : behindInMarks op b = false) : PE X (.Compare a [op] [b] pos) (tOp r ta tb) := by
 intro pins s σ H Q I h
 exact wpAny_Compare1 (binT ha hb I h fun v u s2 x y H2 I2 rx ry q => ho pins s2 σ H2 x y v u Q I2 rx ry q) hm
noncomputable def tTest (t : TE) : TT := fun σ H Q => t σ H fun x H' => ∃ k,x = .bl k ∧ Q k H'
theorem pt_cmpR {op : CmpOp} {r : R2} (ho : OpR X (compareOp op) r) (ha : PE X a ta) (hb : PE X b tb) (hm : behindInMarks op b = false) : PT X (.Compare a [op] [b] pos) (tTest (tOp r ta tb)) := by
 intro pins s σ H Q I h
 refine wpAny_isTrue_Compare1 (thn (ha pins s σ H _ I h) fun v s1 ⟨x,H1,I1,r1,q1⟩ => thn (hb pins s1 σ H1 _ I1 q1) fun u s2 ⟨y,H2,I2,r2,q2⟩ =>
  thn (ho pins s2 σ H2 x y v u _ I2 r1 r2 q2) fun c s3 ⟨z,H3,I3,r3,k,e,q3⟩ => ?_) hm
 subst e
 cases r3
 exact wpAny_truthy_bool ⟨H3,I3,q3⟩
noncomputable def tChain (r r' : R2) (ta tb tc : TE) : TE := fun σ H Q => ta σ H fun x H1 => tb σ H1 fun y H2 => r x y H2 fun z H3 => ∃ k,z = .bl k ∧
 (if k = true then tc σ H3 fun w' H4 => r' y w' H4 Q else Q (.bl false) H3)
theorem pe_chain {op op' : CmpOp} {r r' : R2} (ho : OpR X (compareOp op) r) (ho' : OpR X (compareOp op') r') (ha : PE X a ta) (hb : PE X b tb) (hc : PE X c tc)
 (hm : lastMarks [op,op'] [b,c] = false := by with_unfolding_all rfl) : PE X (.Compare a [op,op'] [b,c] pos) (tChain r r' ta tb tc) := by
 intro pins s σ H Q I h
 refine Compare_chain (thn (ha pins s σ H _ I h) fun v s1 ⟨x,H1,I1,r1,q1⟩ => chain_link (thn (hb pins s1 σ H1 _ I1 q1) fun u s2 ⟨y,H2,I2,r2,q2⟩ =>
  thn (ho pins s2 σ H2 x y v u _ I2 r1 r2 q2) fun d s3 ⟨z,H3,I3,r3,k,e,q3⟩ => ?_)) hm
 subst e
 cases r3
 refine wpAny_truthy_bool ?_
 cases k with
 | false => exact ite_ff ⟨.bl false,H3,I3,rfl,q3⟩
 | true => exact ite_tt (chain_last (thn (hc pins s3 σ H3 _ I3 q3) fun w' s4 ⟨z',H4,I4,r4,q4⟩ => ho' pins s4 σ H4 y z' u w' Q I4 r2 r4 q4))
theorem pt_chain {op op' : CmpOp} {r r' : R2} (ho : OpR X (compareOp op) r) (ho' : OpR X (compareOp op') r') (ha : PE X a ta) (hb : PE X b tb) (hc : PE X c tc)
 (hm : lastMarks [op,op'] [b,c] = false := by with_unfolding_all rfl) : PT X (.Compare a [op,op'] [b,c] pos) (tTest (tChain r r' ta tb tc)) := by
 intro pins s σ H Q I h
 refine isTrue_chain (thn (ha pins s σ H _ I h) fun v s1 ⟨x,H1,I1,r1,q1⟩ => test_link (thn (hb pins s1 σ H1 _ I1 q1) fun u s2 ⟨y,H2,I2,r2,q2⟩ =>
  thn (ho pins s2 σ H2 x y v u _ I2 r1 r2 q2) fun d s3 ⟨z,H3,I3,r3,k,e,q3⟩ => ?_)) hm
 subst e
 cases r3
 refine wpAny_truthy_bool ?_
 cases k with
 | false =>
  obtain ⟨k',e',q'⟩ := q3
  cases e'
  exact ite_ff ⟨H3,I3,q'⟩
 | true =>
  refine ite_tt (test_last (thn (hc pins s3 σ H3 _ I3 q3) fun w' s4 ⟨z',H4,I4,r4,q4⟩ => thn (ho' pins s4 σ H4 y z' u w' _ I4 r2 r4 q4) fun d' s5 ⟨z2,H5,I5,r5,k2,e2,q5⟩ => ?_))
  subst e2
  cases r5
  exact wpAny_truthy_bool ⟨H5,I5,q5⟩
theorem line63 : (sizeLine : Nat) < 2 ^ 63 := by rw [sizeLine_eq]; decide
theorem vals1 {x : V} {us : List Value} (r : Vals [x] us) : ∃ u,us = [u] ∧ RelV x u := by
 cases r with
 | cons r1 r2 => cases r2; exact ⟨_,rfl,r1⟩
theorem vals2 {x y : V} {us : List Value} (r : Vals [x,y] us) : ∃ u w',us = [u,w'] ∧ RelV x u ∧ RelV y w' := by
 cases r with
 | cons r1 r2 =>
  cases r2 with
  | cons r3 r4 => cases r4; exact ⟨_,_,rfl,r1,r3⟩
theorem call_max2 (hc : X.calm = true) : CallR X (.builtin "max") (fun xs H Q => ∃ i j,xs = [.int i,.int j] ∧ Q (.int (if j > i then j else i)) H) := by
 intro pins s σ H xs us Q I r h
 obtain ⟨i,j,rfl,q⟩ := h
 obtain ⟨u,w',rfl,⟨t,rfl⟩,⟨t',rfl⟩⟩ := vals2 r
 refine max_two_ints (I.ok.hd hc) fun h' tk k => ⟨_,H,I.kept k,?_,q⟩
 by_cases hj : j > i
 · rw [if_pos hj,if_pos hj]; exact ⟨_,rfl⟩
 · rw [if_neg hj,if_neg hj]; exact ⟨_,rfl⟩
theorem call_min2 (hc : X.calm = true) : CallR X (.builtin "min") (fun xs H Q => ∃ i j,xs = [.int i,.int j] ∧ Q (.int (if j < i then j else i)) H) := by
 intro pins s σ H xs us Q I r h
 obtain ⟨i,j,rfl,q⟩ := h
 obtain ⟨u,w',rfl,⟨t,rfl⟩,⟨t',rfl⟩⟩ := vals2 r
 refine min_two_ints (I.ok.hd hc) fun h' tk k => ⟨_,H,I.kept k,?_,q⟩
 by_cases hj : j < i
 · rw [if_pos hj,if_pos hj]; exact ⟨_,rfl⟩
 · rw [if_neg hj,if_neg hj]; exact ⟨_,rfl⟩
theorem call_int1 : CallR X (.type "int") (fun xs H Q => (∃ i,xs = [.int i] ∧ Q (.int i) H) ∨ ∃ k,xs = [.bl k] ∧ Q (.int (if k then 1 else 0)) H) := by
 intro pins s σ H xs us Q I r h
 rcases h with ⟨i,rfl,q⟩ | ⟨k,rfl,q⟩
 · obtain ⟨u,rfl,t,rfl⟩ := vals1 r
   exact call_int_int ⟨.int i,H,I,⟨_,rfl⟩,q⟩
 · obtain ⟨u,rfl,r1⟩ := vals1 r
   cases r1
   exact call_int_bool ⟨.int (if k then 1 else 0),H,I.tok _,⟨_,rfl⟩,q⟩
end
end L2
namespace L2
open PySem PySem.Spec PyProof.Rows
structure ObjM (h : Heap) (x dx C : Addr) (mA : Str → Option Value) : Prop where
 obj : h.get? x = some (PySem.W.instObj C dx)
 ns : h.Ns1 dx mA
 ne : dx ≠ x
theorem lookIn_ns {h : Heap} {dx : Addr} {mA : Str → Option Value} (n : h.Ns1 dx mA) : ∃ od,h.get? dx = some od ∧ ∀ name,PySem.W.lookIn name od = some (mA name) := by
 obtain ⟨o,es,ep,ho,hd,hk,_,hm⟩ := n
 refine ⟨o,ho,fun name => ?_⟩
 have e := hm name
 unfold nsFind findBy at e
 rw [← Array.find?_toList] at e
 unfold PySem.W.lookIn
 rw [hd]
 dsimp only
 split
 · rename_i y q
   rw [q] at e
   exact congrArg some e
 · rename_i q
   rw [q] at e
   have a : es.toList.any (·.refKey) = false := by
    rw [List.any_eq_false]
    intro y hy
    obtain ⟨z,t,hkey⟩ := hk y (Array.mem_toList_iff.mp hy)
    simp [DictEntry.refKey,hkey]
   have a' : ¬ es.toList.any (·.refKey) = true := by rw [a]; exact Bool.false_ne_true
   rw [if_neg a']
   exact congrArg some e
theorem ObjM.look {h : Heap} {x dx C : Addr} {mA : Str → Option Value} (I : ObjM h x dx C mA) : ∃ od,PySem.W.InstAt h x (PySem.W.instObj C dx) C (some od) ∧ ∀ name,PySem.W.lookIn name od = some (mA name) :=
 let ⟨od,ho,hl⟩ := lookIn_ns I.ns
 ⟨od,⟨I.obj,rfl,rfl,ho⟩,hl⟩
section
variable {prog : Program} {w : World} {A : Around} {E : Value → Shared → Prop} {s : Shared} {K : PySem.W.Frag} {x dx C f : Addr} {mA : Str → Option Value} {name : Str} {v : Value}
theorem set_map {ns : List Str} {Q : Unit → Shared → Prop} (X : K.In s.heap) (I : ObjM s.heap x dx C mA)
 (hs : PySem.W.findIn K (.ref C) "__setattr__" = some (some (.builtin "object.__setattr__"))) (hp : PySem.W.plainOver K C = true) (ht : PySem.W.takerIn K C name = some none) (hh : PySem.W.hasDictIn K C = true)
 (hw : PySem.Within mA ns) (hsz : ns.length ≤ sizeLine)
 (h : ∀ h',ObjM h' x dx C (fun y => if y = name then some v else mA y) → Heap.SameBut dx s.heap h' → Q () { s with heap := h',toks := s.toks + 2 }) :
 wpAny (model prog w) A (setAttr (.ref x) name v) Q E s := by
 obtain ⟨od,J,hl⟩ := I.look
 refine PySem.W.set_plain X J hs (PySem.W.osa_open (s := { s with toks := s.toks + 1 }) (r := none) X J hp ht fun b => ?_)
 obtain ⟨cd,hc,hd'⟩ := PySem.W.any_some hh
 have hx : s.heap.get? x = some ⟨.ref C,some dx,.plain,#[]⟩ := I.obj
 refine wpAny_bind (wpAny_pure (wpAny_bind (wpAny_bind (wpAny_loadPart hx (wpAny_bind (PySem.W.Looks.here (s := { s with toks := s.toks + 1 }) (PySem.W.looks_clsIn X hc) ?_))))))
 rw [hd']
 refine wpAny_pure (a := some dx) (wpAny_bind (wpAny_pure (wpAny_bind ?_)))
 refine wpAny_nsSet1 (s := { s with toks := s.toks + 1 }) I.ns fun h' hn2 hs2 => ?_
 obtain ⟨oD,esD,epD,hoD,hdD,hcD⟩ := hn2.count (PySem.Within.cons name v hw)
 refine wpAny_bind (wpAny_lookBehind hoD (by rw [hdD]; exact pastItsLine_dict (Nat.le_trans hcD (by rw [List.length_cons]; omega))) ?_)
 exact wpAny_pure (h _ ⟨(hs2.2 _ (Ne.symm I.ne)).trans I.obj,hn2,I.ne⟩ hs2)
end
theorem RelO.some_of {v : V} {o : Option Value} (r : RelO (some v) o) : ∃ u,o = some u ∧ RelV v u := by
 cases o with
 | none => exact (show False from r).elim
 | some u => exact ⟨u,rfl,r⟩
section
variable {P : Program} {w : World} {H H' : Hp} {h h' : Heap} {a C dx : Addr} {fs fs' : List (Str × V)}
end
structure Cls (K : PySem.W.Frag) (C : Addr) : Prop where
 pg : PySem.W.plainGet K C Str.empty = true
 hd : PySem.W.hasDictIn K C = true
 po : PySem.W.plainOver K C = true
 sa : PySem.W.findIn K (.ref C) "__setattr__" = some (some (.builtin "object.__setattr__"))
theorem Cls.get {K : PySem.W.Frag} {C : Addr} (c : Cls K C) (f : Str) : PySem.W.plainGet K C f = true := c.pg
structure Con (K : PySem.W.Frag) (C : Addr) (f : Str) (v : V) (u : Value) : Prop where
 at_ : PySem.W.findIn K (.ref C) f = some (some u)
 rel : RelV v u
 get : PySem.W.specialIn K u "__get__" = some none
 cp : PySem.W.copiedNames.contains f = false
structure Meth (K : PySem.W.Frag) (C : Addr) (m : Str) (f : Addr) : Prop where
 at_ : PySem.W.findIn K (.ref C) m = some (some (.ref f))
 fn : PySem.W.isFn K (.ref f) = true
 kp : PySem.W.keepIn K (.ref f) = true
section
variable {X : Cx} {pins : List (Addr × Obj)} {σ : St} {H : Hp} {s : Shared} {a C dx : Addr} {fs : List (Str × V)} {f : Str} {v : V} {A : Around} {E : Value → Shared → Prop}
theorem Inv.made (I : Inv X pins σ H s) : Inv X pins σ (upd (upd H s.heap.objs.size (.own (s.heap.objs.size + 1))) (s.heap.objs.size + 1) (.ins C s.heap.objs.size []))
 { s with heap := (s.heap.push PySem.W.emptyDict).push (PySem.W.instObj C s.heap.objs.size) } := by
 have e1 : (s.heap.push PySem.W.emptyDict).get? s.heap.objs.size = some PySem.W.emptyDict := Heap.get?_push_size s.heap rfl
 have e2 : ((s.heap.push PySem.W.emptyDict).push (PySem.W.instObj C s.heap.objs.size)).get? (s.heap.objs.size + 1) = some (PySem.W.instObj C s.heap.objs.size) := by
  have := Heap.get?_push_size (s.heap.push PySem.W.emptyDict) (o := PySem.W.instObj C s.heap.objs.size) rfl
  rwa [Heap.size_push] at this
 have e3 : (s.heap.push PySem.W.emptyDict).Ns s.heap.objs.size (fun _ => none) := ⟨PySem.W.emptyDict,#[],_,e1,rfl,(fun e he => absurd he (by simp)),fun _ => rfl⟩
 have I1 := I.laid (a := s.heap.objs.size) (o := .own (s.heap.objs.size + 1)) (h' := s.heap.push PySem.W.emptyDict) (t' := s.toks) (fun b u q => Heap.get?_push_of_some _ q) (Nat.le_refl _) ⟨_,e1⟩
 refine I1.laid (a := s.heap.objs.size + 1) (o := .ins C s.heap.objs.size []) (t' := s.toks) (fun b u q => Heap.get?_push_of_some _ q) (Nat.le_of_eq (Heap.size_push _ _)) ?_
 have ne : s.heap.objs.size ≠ s.heap.objs.size + 1 := Nat.ne_of_lt (Nat.lt_succ_self _)
 refine ⟨by rw [upd_ne ne,upd_same],Nat.zero_le _,ne,e2,fun _ => none,(Heap.Ns1.of_empty e3).at fun o q => Heap.get?_push_of_some _ q,fun _ => True.intro,fun y hy => absurd rfl hy⟩
end
section
variable {X : Cx} {o e value : Expr} {f : Str} {pos pos' tpos : Pos} {ta tv : TE}
end
section
variable {X : Cx} {pins : List (Addr × Obj)} {σ : St} {H : Hp} {s : Shared} {A : Around} {E : Value → Shared → Prop} {Q : Value → Shared → Prop} {c : Value} {b : Bool}
inductive TyOf (K : PySem.W.Frag) (H : Hp) : V → Value → Prop where
 | non : TyOf K H .non (.type "NoneType")
 | bl (x : Bool) : TyOf K H (.bl x) (.type "bool")
 | int (i : Int) : TyOf K H (.int i) (.type "int")
 | str (x : Str) : TyOf K H (.str x) (.type "str")
 | flt (x : UInt64) : TyOf K H (.flt x) (.type "float")
 | lst {a : Addr} {xs : List V} (e : H a = some (.lst xs)) : TyOf K H (.ref a) (.type "list")
 | frz {a : Addr} {o : Obj} {xs : List V} (e : H a = some (.frz o (.lst xs))) : TyOf K H (.ref a) (.type "list")
 | tup {a : Addr} {xs : List V} (e : H a = some (.tup xs)) : TyOf K H (.ref a) (.type "tuple")
 | dK {a : Addr} {kvs : List (Key × V)} (e : H a = some (.dK kvs)) : TyOf K H (.ref a) (.type "dict")
 | dT {a : Addr} {kvs : List (List Key × V)} (e : H a = some (.dT kvs)) : TyOf K H (.ref a) (.type "dict")
 | ins {a C dx : Addr} {fs : List (Str × V)} (e : H a = some (.ins C dx fs)) (cl : Cls K C) (ha : PySem.W.findIn K (.ref C) "__class__" = some (some (.builtin "object.__class__")))
  (hn : PySem.W.specialIn K (.builtin "object.__class__") "__get__" = some (some (.builtin "getset_descriptor.__get__"))) (htk : PySem.W.takesIn K (.builtin "object.__class__") = some true)
  (hm : PySem.W.mroIn K C (.type "object") = some true) : TyOf K H (.ref a) (.ref C)
end
end L2
namespace L2
open PySem PySem.Spec PyProof.Rows
structure Room (k : Nat) (A : Around) : Prop where
 hd : A.handled = none
 dp : A.depth + 3 * k + 5 < recursionLimit
 un : A.units + 16 * k + 200 < cLine
 gd : A.guards = some []
theorem Room.mono {j k : Nat} {A : Around} (r : Room k A) (h : j ≤ k) : Room j A := ⟨r.hd,by have := r.dp; omega,by have := r.un; omega,r.gd⟩
theorem Room.deeper {k : Nat} {A : Around} (r : Room (k + 1) A) (env : Env) : Room k (A.deeper env) :=
 ⟨r.hd,by have := r.dp; show A.depth + 1 + 3 * k + 5 < _; omega,by have := r.un; show A.units + 3 + 16 * k + 200 < _; omega,r.gd⟩
theorem Room.in1 {k : Nat} {A : Around} (r : Room (k + 1) A) : Room k A.in1 :=
 ⟨r.hd,by have := r.dp; show A.depth + 3 * k + 5 < _; omega,by have := r.un; show A.units + 1 + 16 * k + 200 < _; omega,r.gd⟩
theorem Room.depth {k : Nat} {A : Around} (r : Room k A) : A.depth < recursionLimit := by have := r.dp; omega
theorem Room.units {k : Nat} {A : Around} (r : Room k A) : A.units + 64 < cLine := by have := r.un; omega
noncomputable def tNil : TA := fun _ H Q => Q [] H
noncomputable def tCons (ta : TE) (tr : TA) : TA := fun σ H Q => ta σ H fun x H1 => tr σ H1 fun xs H2 => Q (x :: xs) H2
section
variable {X : Cx} {e : Expr} {es : List Expr} {te : TE} {t : TA} {pos : Pos}
theorem pa_nil : PA X [] tNil := fun _ _ _ _ H Q I h => Calls.spliced_nil ⟨[],H,I,.nil,h⟩
theorem pa_cons (ha : PE X e te) (hr : PA X es t) (hs : starEach (e :: es) X.env = (false,eval e X.env) :: starEach es X.env := by rfl) : PA X (e :: es) (tCons te t) := by
 intro pos pins s σ H Q I h
 rw [hs]
 show wpAny _ _ (spliced ((false,eval e X.env) :: backTo pos (starEach es X.env))) _ _ s
 refine Calls.spliced_cons (thn (ha pins s σ H _ I h) fun u s1 ⟨x,H1,I1,r1,q1⟩ => ?_)
 exact thn (hr pos pins s1 σ H1 _ I1 q1) fun us s2 ⟨xs,H2,I2,r2,q2⟩ => ⟨x :: xs,H2,I2,.cons r1 r2,q2⟩
noncomputable def tTup (t : TA) : TE := fun σ H Q => t σ H fun xs H1 => xs.length ≤ sizeLine ∧ ∀ p,H1 p = none → Q (.ref p) (upd H1 p (.tup xs))
noncomputable def tLst (t : TA) : TE := fun σ H Q => t σ H fun xs H1 => xs.length ≤ sizeLine ∧ ∀ p,H1 p = none → Q (.ref p) (upd H1 p (.lst xs))
theorem pe_tup {x1} (h : PA X es t) : PE X (.Tuple es x1 pos) (tTup t) := by
 intro pins s σ H Q I hq
 refine wpAny_Tuple_spliced (thn (h pos pins s σ H _ I hq) fun us s1 ⟨xs,H1,I1,r,z,q⟩ => ⟨by rw [← r.length]; exact z,?_⟩)
 have hf : H1 s1.heap.objs.size = none := I1.hok.fresh (Nat.le_refl _)
 refine ⟨.ref s1.heap.objs.size,upd H1 s1.heap.objs.size (.tup xs),I1.laid (t' := s1.toks) (fun b u e => Heap.get?_push_of_some _ e) (Nat.le_refl _) ?_,rfl,q _ hf⟩
 exact ⟨z,us,r,⟨_,Heap.get?_push_size _ rfl,rfl,_,rfl⟩⟩
theorem pe_lst (h : PA X es t) : PE X (.List es pos) (tLst t) := by
 intro pins s σ H Q I hq
 refine wpAny_List_spliced (thn (h pos pins s σ H _ I hq) fun us s1 ⟨xs,H1,I1,r,z,q⟩ => ⟨by rw [← r.length]; exact z,?_⟩)
 have hf : H1 s1.heap.objs.size = none := I1.hok.fresh (Nat.le_refl _)
 refine ⟨.ref s1.heap.objs.size,upd H1 s1.heap.objs.size (.lst xs),I1.laid (t' := s1.toks) (fun b u e => Heap.get?_push_of_some _ e) (Nat.le_refl _) ?_,rfl,q _ hf⟩
 exact ⟨z,us,0,r,Heap.get?_push_size _ rfl⟩
end
noncomputable abbrev Sp := List V → Hp → VK → XK → Prop
noncomputable abbrev CXT := List Env → Hp → Shared → XK → Value → Shared → Prop
structure Env0 (P : Program) (w : World) (K : PySem.W.Frag) (mg : Str → Option Value) (base : Heap) (A : Around) (outer : List Env) (s : Shared) (H : Hp) : Prop where
 frames : A.frames = some outer
 mod : Mod K mg base
 bs : ∀ b o,base.get? b = some o → s.heap.get? b = some o ∧ H b = none
 bsz : base.objs.size ≤ s.heap.objs.size
 funs : s.heap.FunFrames base outer
 frf : ∀ b ∈ frs outer,H b = none
 hok : HOk P w H s.heap
 bare : AllBare s.gens
noncomputable def CE (outer : List Env) (P : Program) (w : World) (H : Hp) (s : Shared) (Q : VK) (u : Value) (s' : Shared) : Prop :=
 ∃ v H',s'.os = s.os ∧ AllBare s'.gens ∧ Un (frs outer) [] H H' s.heap s'.heap ∧ HOk P w H' s'.heap ∧ RelV v u ∧ Q v H'
noncomputable def CR (CX : CXT) (outer : List Env) (P : Program) (w : World) (H : Hp) (s : Shared) (Q : VK) (E : XK) (r : Result) (s' : Shared) : Prop :=
 match r with
 | .ok (.ret u) => CE outer P w H s Q u s'
 | .ok _ => False
 | .error e => CX outer H s E e s'
structure FnOk (P : Program) (w : World) (K : PySem.W.Frag) (mg : Str → Option Value) (base : Heap) (CX : CXT) (k : Nat) (f : Addr) (fd : FuncData) (ps : List Str) (sp : Sp) : Prop where
 len : ∀ vs H Q E,sp vs H Q E → vs.length = ps.length
 run : ∀ (A : Around) (outer : List Env) (s : Shared) (H : Hp) (args : Args) (us : List Value) (vs : List V) (Q : VK) (E : XK),Room k A → Env0 P w K mg base A outer s H → BindsTo s fd args (ps.zip us) → Vals vs us → sp vs H Q E →
  codeAny (model P w) A (.call (.ref f) args) (CR CX outer P w H s Q E) s
theorem FnOk.mono {P : Program} {w : World} {K : PySem.W.Frag} {mg : Str → Option Value} {base : Heap} {CX : CXT} {j k : Nat} {f : Addr} {fd : FuncData} {ps : List Str} {sp : Sp} (F : FnOk P w K mg base CX j f fd ps sp) (h : j ≤ k) :
 FnOk P w K mg base CX k f fd ps sp := ⟨F.len,fun A outer s H args us vs Q E hr => F.run A outer s H args us vs Q E (hr.mono h)⟩
theorem Env0.in1 {P : Program} {w : World} {K : PySem.W.Frag} {mg : Str → Option Value} {base : Heap} {A : Around} {outer : List Env} {s : Shared} {H : Hp} (e : Env0 P w K mg base A outer s H) :
 Env0 P w K mg base A.in1 outer s H := ⟨e.frames,e.mod,e.bs,e.bsz,e.funs,e.frf,e.hok,e.bare⟩
section
variable {X : Cx} {pins : List (Addr × Obj)} {σ : St} {H : Hp} {s s' : Shared}
theorem Inv.env0 (I : Inv X pins σ H s) : Env0 X.prog X.w X.K X.mg X.base X.A X.stack s H :=
 ⟨I.ok.frames,I.ok.mod,I.bs,Nat.le_trans I.ok.bsz I.sz,I.stack,I.stkFree,I.hok,I.bare⟩
theorem Inv.after {Q : VK} {u : Value} (I : Inv X pins σ H s) (h : CE X.stack X.prog X.w H s Q u s') : EP X pins σ Q u s' := by
 obtain ⟨v,H',os,bare,un,hok,r,q⟩ := h
 obtain ⟨hh,g,d,t,os'⟩ := s'
 obtain rfl : os' = s.os := os
 exact ⟨v,H',I.call (h' := hh) (g' := g) (d' := d) (t' := t) (ch := []) un hok bare (fun b z => absurd z (by simp)),r,q⟩
end
noncomputable def tCall (sp : Sp) (dvs : List V) (E : XK) (t : TA) : TE := fun σ H Q => t σ H fun vs H1 => sp (vs ++ dvs) H1 Q E
noncomputable def Binds (K : PySem.W.Frag) (fd : FuncData) (ps : List Str) (ds : List Value) : Prop :=
 ∀ (s : Shared) (us : List Value),K.In s.heap → (us ++ ds).length = ps.length → BindsTo s fd ⟨us,[]⟩ (ps.zip (us ++ ds))
theorem Binds.all {K : PySem.W.Frag} {fd : FuncData} {ps : List Str} (h : ∀ us : List Value,us.length = ps.length → bindArgs fd ⟨us,[]⟩ = pure (ps.zip us)) : Binds K fd ps [] := fun s us _ hl => by
 rw [List.append_nil] at hl ⊢
 exact .of_eq (h us hl)
noncomputable def Passes (CX : CXT) (X : Cx) (E : XK) : Prop := ∀ (pins : List (Addr × Obj)) (σ : St) (H : Hp) (s : Shared) (e : Value) (s' : Shared),Inv X pins σ H s → CX X.stack H s E e s' → X.xe e s'
section
variable {X : Cx} {CX : CXT} {k : Nat} {f C : Addr} {fd : FuncData} {ps : List Str} {sp : Sp} {dvs : List V} {ds : List Value} {E : XK} {x m : Str} {p pos apos : Pos} {e o : Expr} {es : List Expr} {ta : TE} {t : TA}
theorem run_fn {pins : List (Addr × Obj)} {σ : St} {H : Hp} {s : Shared} {Q : VK} {us : List Value} {vs : List V} (F : FnOk X.prog X.w X.K X.mg X.base CX k f fd ps sp) (hr : Room k X.A) (hb : Binds X.K fd ps ds) (hd : Vals dvs ds) (hx : Passes CX X E)
 (I : Inv X pins σ H s) (r : Vals vs us) (h : sp (vs ++ dvs) H Q E) : wpAny (model X.prog X.w) X.A (call (.ref f) us) (EP X pins σ Q) X.xe s := by
 have r2 : Vals (vs ++ dvs) (us ++ ds) := r.append hd
 have hl : (us ++ ds).length = ps.length := by rw [← r2.length]; exact F.len _ _ _ _ h
 refine wpAny_call (codeAny_mono (F.run X.A X.stack s H ⟨us,[]⟩ (us ++ ds) (vs ++ dvs) Q E hr I.env0 (hb s us I.kIn hl) r2 h) fun r s' hq => ?_)
 cases r with
 | error e => exact hx pins σ H s e s' I hq
 | ok fl =>
  cases fl with
  | ret u => exact I.after hq
  | next => exact False.elim hq
  | brk => exact False.elim hq
  | cont => exact False.elim hq
theorem pe_call (F : FnOk X.prog X.w X.K X.mg X.base CX k f fd ps sp) (hr : Room k X.A) (hg : Gl X x) (hm : X.mg x = some (.ref f)) (hk : PySem.W.keepIn X.K (.ref f) = true) (hb : Binds X.K fd ps ds) (hd : Vals dvs ds) (hx : Passes CX X E)
 (ha : PA X (e :: es) t) (hdb : (x == ("__debug__" : Str)) = false := by decide) (he : starEach (e :: es) X.env = (false,eval e X.env) :: starEach es X.env := by rfl) (hpl : (backTo pos (starEach es X.env)).any (·.1) = false := by rfl) :
 PE X (.Call (.Name x p) (e :: es) [] pos) (tCall sp dvs E t) := by
 intro pins s σ H Q I h
 refine wpAny_Call_Name_kw (ld_glob I hg hm ?_ hdb)
 refine PySem.W.callWith_K (h₀ := X.base) I.ok.mod.kin hk (thn (ha pos pins s σ H _ I h) fun us s1 ⟨vs,H1,I1,r,q⟩ => ⟨I1.kIn,?_⟩) he hpl
 exact run_fn F hr hb hd hx I1 r q
structure Mk (K : PySem.W.Frag) (C f : Addr) : Prop where
 makes : PySem.W.makesIn K C = true
 init : PySem.W.findIn K (.ref C) "__init__" = some (some (.ref f))
 fn : PySem.W.isFn K (.ref f) = true
 kp : PySem.W.keepIn K (.ref C) = true
end
section
variable {X : Cx} {CX : CXT} {k : Nat} {f C : Addr} {fd : FuncData} {ps ks : List Str} {sp : Sp} {E : XK} {x m : Str} {p pos apos kpos : Pos} {e o : Expr} {es : List Expr} {kws : List Keyword} {te ta : TE} {t tk : TA} {nm : Option Str}
structure KBinds (K : PySem.W.Frag) (fd : FuncData) (ps ks : List Str) (g : List Value → List Value → List Value) (gV : List V → List V → List V) : Prop where
 to : ∀ (s : Shared) (us ws : List Value),K.In s.heap → (g us ws).length = ps.length → BindsTo s fd ⟨us,ks.zip ws⟩ (ps.zip (g us ws))
 rel : ∀ {vs : List V} {us : List Value} {zs : List V} {ws : List Value},Vals vs us → Vals zs ws → Vals (gV vs zs) (g us ws)
variable {g : List Value → List Value → List Value} {gV : List V → List V → List V}
end
structure FnScope (N P : List Str) (sc : Scope) : Prop where
 kind : sc.kind = .function
 co : sc.isCoroutine = false
 gen : sc.isGenerator = false
 nd : N.Nodup
 pre : N.take P.length = P
 par : ∀ x ∈ P,sc.names.lookup x = some .local ∨ sc.names.lookup x = some .cell
 nofree : ∀ y ∈ sc.names,y.2 ≠ .free
theorem bindL_out {kindOf : Str → Option NameKind} {x : Str} : ∀ {binds : List (Str × Value)} {m : Str → Option Value},(∀ v,(x,v) ∉ binds) → bindL kindOf binds m x = m x
 | [],_,_ => rfl
 | (n,v) :: r,m,h => by
  unfold bindL
  rw [bindL_out fun w hw => h w (List.mem_cons_of_mem _ hw)]
  split
  · have : x ≠ n := by rintro rfl; exact h v List.mem_cons_self
    simp [this]
  · rfl
theorem bindC_out {kindOf : Str → Option NameKind} {x : Str} : ∀ {binds : List (Str × Value)} {m : Str → Option Value},(∀ v,(x,v) ∉ binds) → bindC kindOf binds m x = m x
 | [],_,_ => rfl
 | (n,v) :: r,m,h => by
  unfold bindC
  rw [bindC_out fun w hw => h w (List.mem_cons_of_mem _ hw)]
  split
  · rfl
  · have : x ≠ n := by rintro rfl; exact h v List.mem_cons_self
    simp [this]
theorem bindL_get {kindOf : Str → Option NameKind} {x : Str} {v : Value} : ∀ {P : List Str} {vs : List Value} {i : Nat} {m : Str → Option Value},P.Nodup → P[i]? = some x → vs[i]? = some v → kindOf x = some .local →
 bindL kindOf (P.zip vs) m x = some v
 | [],_,_,_,_,h,_,_ => by simp at h
 | _ :: _,[],_,_,_,_,h,_ => by simp at h
 | p :: P,w :: vs,0,m,nd,h1,h2,hk => by
  simp at h1 h2; subst h1; subst h2
  show bindL kindOf ((p,w) :: P.zip vs) m p = _
  unfold bindL
  rw [bindL_out fun v hv => (List.nodup_cons.mp nd).1 (List.of_mem_zip hv).1,if_pos hk]
  simp
 | p :: P,w :: vs,i + 1,m,nd,h1,h2,hk => by
  show bindL kindOf ((p,w) :: P.zip vs) m x = _
  unfold bindL
  exact bindL_get (i := i) (List.nodup_cons.mp nd).2 (by simpa using h1) (by simpa using h2) hk
theorem bindC_get {kindOf : Str → Option NameKind} {x : Str} {v : Value} : ∀ {P : List Str} {vs : List Value} {i : Nat} {m : Str → Option Value},P.Nodup → P[i]? = some x → vs[i]? = some v → kindOf x ≠ some .local →
 bindC kindOf (P.zip vs) m x = some v
 | [],_,_,_,_,h,_,_ => by simp at h
 | _ :: _,[],_,_,_,_,h,_ => by simp at h
 | p :: P,w :: vs,0,m,nd,h1,h2,hk => by
  simp at h1 h2; subst h1; subst h2
  show bindC kindOf ((p,w) :: P.zip vs) m p = _
  unfold bindC
  rw [bindC_out fun v hv => (List.nodup_cons.mp nd).1 (List.of_mem_zip hv).1,if_neg hk]
  simp
 | p :: P,w :: vs,i + 1,m,nd,h1,h2,hk => by
  show bindC kindOf ((p,w) :: P.zip vs) m x = _
  unfold bindC
  exact bindC_get (i := i) (List.nodup_cons.mp nd).2 (by simpa using h1) (by simpa using h2) hk
noncomputable def start (N : List Str) (vs : List V) : St := vs.map some ++ List.replicate (N.length - vs.length) none
noncomputable def cxOf (CX : CXT) (P : Program) (w : World) (K : PySem.W.Frag) (mg : Str → Option Value) (base : Heap) (N : List Str) (qual : Str) (scope : Scope) (f : Addr) (cd : Value) (A : Around) (outer : List Env) (s : Shared) (H : Hp) (E : XK) : Cx where
 prog := P
 w := w
 K := K
 mg := mg
 base := base
 A := A.deeper (envOfC qual scope s.heap.objs.size f cd)
 N := N
 s₀ := s
 H₀ := H
 env := envOfC qual scope s.heap.objs.size f cd
 outer := outer
 stack := envOfC qual scope s.heap.objs.size f cd :: outer
 ex := []
 calm := true
 fn := fun _ => true
 pn := []
 xe := fun e s' => wpAny (model P w) (A.deeper (envOfC qual scope s.heap.objs.size f cd)) (leaving (envOfC qual scope s.heap.objs.size f cd) e) (fun _ s'' => CX outer H s E e s'') (fun e' s'' => CX outer H s E e' s'') s'
theorem cell_has {sc : Scope} {n : Nat} {x : Str} (h : sc.names.lookup x = some .cell) : ∃ c,(cellsFrom n sc.names []).lookup x = some c := by
 have q := PySem.W.cellsFrom_some sc.names n [] (.inl h)
 exact Option.isSome_iff_exists.mp q
theorem inv_start {CX : CXT} {P : Program} {w : World} {K : PySem.W.Frag} {mg : Str → Option Value} {base : Heap} {N ps : List Str} {qual : Str} {scope : Scope} {f : Addr} {cd : Value} {A : Around} {outer : List Env} {s s1 : Shared} {H : Hp} {E : XK} {us : List Value} {vs : List V}
 (S : FnScope N ps scope) (hd : A.handled = none) (e0 : Env0 P w K mg base A outer s H) (hl : vs.length = ps.length) (r : Vals vs us)
 (x : InCallC s s.heap.objs.size (bindL (envOfC qual scope s.heap.objs.size f cd).kindOf (ps.zip us) fun _ => none) (cellsFrom (s.heap.objs.size + 1) scope.names []) (bindC (envOfC qual scope s.heap.objs.size f cd).kindOf (ps.zip us) fun _ => none) s1) :
 Inv (cxOf CX P w K mg base N qual scope f cd A outer s H E) [] (start N vs) H s1 := by
 have hpl : ps.length ≤ N.length := by have := congrArg List.length S.pre; rw [List.length_take] at this; omega
 obtain ⟨h1,tk,rfl,hk⟩ := x.done
 have noA : ∀ b : Addr,b ∉ (cxOf CX P w K mg base N qual scope f cd A outer s H E).ex := fun b z => absurd (show b ∈ ([] : List Addr) from z) (by simp)
 refine ⟨⟨e0.mod,S.kind,rfl,rfl,Nat.le_refl _,fun y z c h1 h2 => ?_,fun y hy => ?_,fun y c _ h => ?_,fun _ => hd,Around.frames_deeper e0.frames,.inr ⟨rfl,rfl⟩,fun b z => absurd z (noA b),e0.bs,e0.bsz,fun b _ _ => noA b,fun b z => absurd z (noA b),e0.funs,e0.frf⟩,
  rfl,e0.bare,Un.kept hk,⟨_,x.toInCall.ns,fun i y v h1 h2 h3 => ?_⟩,fun y c h => ⟨_,x.cell y c h⟩,e0.hok.fresh (Nat.le_refl _),fun y c h => ?_,fun p hp => absurd (show p ∈ ([] : List (Addr × Obj)) from hp) (by simp),e0.hok.kept hk,?_⟩
 · exact name_of_addr x.apart (PySem.mem_of_lookup h1) (PySem.mem_of_lookup h2)
 · have hy : scope.names.lookup y = some .cell ∨ scope.names.lookup y = some .free := hy
   rcases hy with hy | hy
   · exact cell_has hy
   · exact absurd rfl (S.nofree _ (PySem.mem_of_lookup hy))
 · exact Nat.le_of_lt (x.above y c (PySem.mem_of_lookup h))
 · have hi : i < vs.length := by
    unfold start at h2
    by_cases hi : i < vs.length
    · exact hi
    · rw [List.getElem?_append_right (by simpa using hi)] at h2
      rw [List.getElem?_replicate] at h2
      split at h2 <;> cases h2
   have ha : vs[i]? = some v := by
    unfold start at h2
    rw [List.getElem?_append_left (by simpa using hi),List.getElem?_map] at h2
    cases e : vs[i]? with
    | none => rw [e] at h2; cases h2
    | some a => rw [e] at h2; cases h2; rfl
   obtain ⟨u,hu,rv⟩ := r.get ha
   have hp : ps[i]? = some y := by
    rw [← S.pre,List.getElem?_take_of_lt (by omega)]; exact h1
   have ndP : ps.Nodup := by rw [← S.pre]; exact S.nd.sublist (List.take_sublist _ _)
   refine ⟨u,rv,?_⟩
   rcases S.par y (List.mem_of_getElem? hp) with k | k
   · exact .inl ⟨k,bindL_get ndP hp hu k⟩
   · obtain ⟨c,e⟩ := cell_has (n := s.heap.objs.size + 1) k
     refine .inr ⟨.inl k,c,e,?_⟩
     have q := x.cell y c e
     rw [bindC_get ndP hp hu (by show scope.names.lookup y ≠ _; rw [k]; decide)] at q
     exact q
 · exact e0.hok.fresh (Nat.le_of_lt (x.above y c (PySem.mem_of_lookup h)))
 · unfold start
   show _ = N.length
   rw [List.length_append,List.length_map,List.length_replicate]
   omega
theorem fn_of {CX : CXT} {P : Program} {w : World} {K : PySem.W.Frag} {mg : Str → Option Value} {base : Heap} {k : Nat} {f : Addr} {name qual : Str} {params : Arguments} {body : List Stmt} {scope : Scope} {dV kV doc pm cdv ct oc : Value} {an od : Option Addr}
 {osl : Array (Option Value)} {N ps : List Str} {sp : Sp} (lk : K.lookup f = some ⟨oc,od,.func (PySem.W.fnOf name qual params body scope dV kV doc pm an cdv ct),osl⟩) (hcd : PySem.W.codeIn K cdv qual = true) (S : FnScope N ps scope)
 (len : ∀ vs H Q E,sp vs H Q E → vs.length = ps.length)
 (hbody : ∀ (A : Around) (outer : List Env) (s : Shared) (H : Hp) (vs : List V) (Q : VK) (E : XK),Room k (A.deeper (envOfC qual scope s.heap.objs.size f cdv)) → sp vs H Q E →
   ∃ t,PSs (cxOf CX P w K mg base N qual scope f cdv A outer s H E) body t ∧ t { nx := fun _ H' => Q .non H',rt := Q } (start N vs) H) :
 FnOk P w K mg base CX (k + 1) f (PySem.W.fnOf name qual params body scope dV kV doc pm an cdv ct) ps sp := by
 refine ⟨len,fun A outer s H args us vs Q E hr e0 hb r hsp => ?_⟩
 have hl := len _ _ _ _ hsp
 have KX : K.In s.heap := e0.mod.kin.keeps fun b o e => (e0.bs b o e).1
 have lim : s.heap.NoLimit := e0.mod.nolimit.keeps fun b o e => (e0.bs b o e).1
 have hkind : ∀ y ∈ ps.zip us,scope.names.lookup y.1 = some .local ∨ (scope.names.lookup y.1 = some .cell ∧ ((cellsFrom (s.heap.objs.size + 1) scope.names []).lookup y.1).isSome = true) := fun ⟨n,v⟩ hy => by
  rcases S.par n (List.of_mem_zip hy).1 with q | q
  · exact .inl q
  · exact .inr ⟨q,PySem.W.cellsFrom_some _ _ _ (.inl q)⟩
 refine codeAny_call_function hr.depth (KX _ _ lk) rfl S.co S.gen rfl (PySem.W.codeRec_of KX hcd) (hb _ _ _ _ ?_)
 refine wpAny_newFunctionEnv_cells S.kind hkind fun env he s1 x => ?_
 subst he
 refine ⟨lim.keeps x.toInCall.keep,codeAny_func ?_⟩
 obtain ⟨t,ht,hq⟩ := hbody A outer s H vs Q E (hr.deeper _) hsp
 have I : Inv (cxOf CX P w K mg base N qual scope f cdv A outer s H E) [] (start N vs) H s1 := inv_start S hr.hd e0 hl r x
 refine wpAny_mono (ht [] s1 (start N vs) H _ I hq) (fun fl s' hs => ?_) fun e s' hs => hs
 have fin : ∀ {σ' : St} {H' : Hp} {v : V} {u : Value},Inv (cxOf CX P w K mg base N qual scope f cdv A outer s H E) [] σ' H' s' → RelV v u → Q v H' → CE outer P w H s Q u s' :=
  fun {σ' H' v u} J rv q => ⟨v,H',J.os,J.bare,J.base,J.hok,rv,q⟩
 cases fl with
 | ret u =>
  obtain ⟨v,σ',H',J,rv,q⟩ := hs
  exact fin J rv q
 | next =>
  obtain ⟨σ',H',J,q⟩ := hs
  exact fin (v := V.non) (u := Value.none) J rfl q
 | brk =>
  obtain ⟨_,_,_,q⟩ := hs
  exact False.elim q
 | cont =>
  obtain ⟨_,_,_,q⟩ := hs
  exact False.elim q
end L2
namespace L2
open PySem PySem.Spec PyProof.Rows
section
variable {X : Cx} {x : Str} {p pos : Pos} {e : Expr} {es : List Expr} {t : TA} {id T : String} {r : List V → Hp → VK → Prop}
noncomputable def tCB (r : List V → Hp → VK → Prop) (t : TA) : TE := fun σ H Q => t σ H fun vs H1 => r vs H1 Q
theorem pe_callB (hc : CallR X (.builtin id) r) (hg : Gl X x) (hm : X.mg x = none) (hv : bootBuiltins x = some (.builtin id)) (ha : PA X (e :: es) t) (hn : x ≠ "__name__" := by decide) (hdb : (x == ("__debug__" : Str)) = false := by decide)
 (he : starEach (e :: es) X.env = (false,eval e X.env) :: starEach es X.env := by rfl) (hpl : (backTo pos (starEach es X.env)).any (·.1) = false := by rfl) : PE X (.Call (.Name x p) (e :: es) [] pos) (tCB r t) := by
 intro pins s σ H Q I h
 refine wpAny_Call_Name_kw (ld_blt I hg hm hv ?_ hn hdb)
 exact PyProof.Rows.callWith_builtin1 (thn (ha pos pins s σ H _ I h) fun us s1 ⟨vs,H1,I1,r1,q1⟩ => hc pins s1 σ H1 vs us Q I1 r1 q1) he hpl
theorem pe_callTy (hc : CallR X (.type T) r) (hg : Gl X x) (hm : X.mg x = none) (hv : bootBuiltins x = some (.type T)) (ha : PA X (e :: es) t) (hn : x ≠ "__name__" := by decide) (hdb : (x == ("__debug__" : Str)) = false := by decide)
 (he : starEach (e :: es) X.env = (false,eval e X.env) :: starEach es X.env := by rfl) (hpl : (backTo pos (starEach es X.env)).any (·.1) = false := by rfl) : PE X (.Call (.Name x p) (e :: es) [] pos) (tCB r t) := by
 intro pins s σ H Q I h
 refine wpAny_Call_Name_kw (ld_blt I hg hm hv ?_ hn hdb)
 exact PyProof.Rows.callWith_type1 (thn (ha pos pins s σ H _ I h) fun us s1 ⟨vs,H1,I1,r1,q1⟩ => hc pins s1 σ H1 vs us Q I1 r1 q1) he hpl
end
end L2
namespace HT
open PySem PyProof.Rows
section
open PySem.SeqAt
open PySem.AutoSeq1 (wpAny_loadPart')
open PySem.MeetsSeq PySem.MeetsSeq2 PySem.MeetsSeq3
end
section
variable {prog : Program} {w : World} {A : Around} {E : Value → Shared → Prop} {s : Shared}
theorem cat_tup {t b : Addr} {vs ws : List Value} {Q : Value → Shared → Prop} (ht : IsTup s.heap t vs.toArray) (hb : IsTup s.heap b ws.toArray) (hv : vs ≠ [])
 (h1 : ws = [] → Q (.ref t) s) (h2 : ws ≠ [] → Q (.ref s.heap.objs.size) { s with heap := s.heap.push { cls := .type "tuple",data := .seq (vs ++ ws).toArray } })
 (hsz : vs.length + ws.length ≤ sizeLine) : wpAny (model prog w) A (binaryOp .Add (.ref t) (.ref b)) Q E s := by
 obtain ⟨⟨cls,dd,data,sl⟩,ho,hc,n,hd⟩ := id ht
 obtain ⟨⟨cls2,dd2,data2,sl2⟩,ho2,hc2,n2,hd2⟩ := id hb
 simp only at hc hd hc2 hd2
 subst hc hd hc2 hd2
 have e : vs.toArray ++ ws.toArray = (vs ++ ws).toArray := by simp
 by_cases hw : ws = []
 · exact concat_meets ⟨_,ho,rfl⟩ ⟨_,ho2,rfl⟩ noFill_tuple_add seq_tuple_add PySem.F.slot_tuple_add PySem.F.entry_tuple_add (PySem.F.args_tuple_add_2 _ _)
    (tuple_addW1 t b vs.toArray ws.toArray n n2 dd dd2 sl sl2 (by simpa using hv) (by simp [hw])) ⟨ho,ho2,h1 hw⟩
 · refine concat_meets ⟨_,ho,rfl⟩ ⟨_,ho2,rfl⟩ noFill_tuple_add seq_tuple_add PySem.F.slot_tuple_add PySem.F.entry_tuple_add (PySem.F.args_tuple_add_2 _ _)
    (tuple_addW2 t b vs.toArray ws.toArray n n2 dd dd2 sl sl2 (by simpa using hv) (by simpa using hw) (by rw [List.size_toArray,List.size_toArray]; exact hsz)) ⟨ho,ho2,?_⟩
   rw [e]
   exact h2 hw
noncomputable def sIx (n d : Nat) : Option Int → Nat
 | none => d
 | some v => if v < 0 then (v + (n : Int)).toNat else min v.toNat n
theorem sIx_nat (n d k : Nat) : sIx n d (some (k : Int)) = min k n := by
 show (if (k : Int) < 0 then ((k : Int) + (n : Int)).toNat else min (k : Int).toNat n) = min k n
 rw [if_neg (by omega),Int.toNat_natCast]
theorem sIx_le (n d : Nat) (hd : d ≤ n) (o : Option Int) : sIx n d o ≤ n := by
 cases o with
 | none => exact hd
 | some v =>
  show (if v < 0 then (v + (n : Int)).toNat else min v.toNat n) ≤ n
  by_cases hv : v < 0
  · rw [if_pos hv]; omega
  · rw [if_neg hv]; exact Nat.min_le_right _ _
theorem clip_eq (v : Int) (n d : Nat) : (if v < 0 then max (v + (n : Int)) 0 else min v (n : Int)) = ((sIx n d (some v) : Nat) : Int) := by
 show (if v < 0 then max (v + (n : Int)) 0 else min v (n : Int)) = (((if v < 0 then (v + (n : Int)).toNat else min v.toNat n) : Nat) : Int)
 by_cases hv : v < 0
 · simp only [if_pos hv]; omega
 · simp only [if_neg hv]; omega
theorem adjust_gen (lo hi : Option Int) (n : Nat) : Builtin.Slice.sliceAdjust lo hi 1 (n : Int) = (((sIx n 0 lo : Nat) : Int),((sIx n n hi : Nat) : Int)) := by
 have h1 : ¬ ((1 : Int) < 0) := by omega
 unfold Builtin.Slice.sliceAdjust
 simp only [h1,if_false]
 refine Prod.ext ?_ ?_
 · cases lo with
   | none => rfl
   | some v => exact clip_eq v n 0
 · cases hi with
   | none => rfl
   | some v => exact clip_eq v n n
theorem places_gen (i j : Nat) : Builtin.Slice.slicePlaces (i : Int) (j : Int) 1 = j - i := by
 unfold Builtin.Slice.slicePlaces
 have h1 : (1 : Int) > 0 := by omega
 simp only [h1,if_true,Int.ediv_one]
 split <;> omega
theorem slicePart_ {v : Value} {o : Option Int} {Q : Option Int → Shared → Prop} (p : IsPart v o) (h : Q o s) : wpAny (model prog w) A (Builtin.Slice.slicePartIndex v) Q E s := by
 cases p with
 | none => exact slicePart_none h
 | int i t => exact slicePart_int h
theorem sliceApplied_gen {sl : Addr} {vl vu : Value} {lo hi : Option Int} {n : Nat} {Q : Int × Int × Nat → Shared → Prop} (hs : s.heap.IsSliceOf sl vl vu .none) (pl : IsPart vl lo) (pu : IsPart vu hi)
 (h : Q (((sIx n 0 lo : Nat) : Int),1,sIx n n hi - sIx n 0 lo) s) : wpAny (model prog w) A (Builtin.Slice.sliceApplied (.ref sl) (pure (n : Int))) Q E s := by
 obtain ⟨os,hos,hcs,hds⟩ := id hs
 unfold Builtin.Slice.sliceApplied Builtin.Slice.sliceFields
 refine wpAny_bind (wpAny_bind (wpAny_field hos hds (x := vl) rfl (wpAny_bind (wpAny_field hos hds (x := vu) rfl (wpAny_bind (wpAny_field hos hds (x := .none) rfl (wpAny_pure ?_)))))))
 refine wpAny_bind (slicePart_none ?_)
 show wpAny _ _ (if ((1 : Int) == 0) = true then _ else _) _ _ s
 rw [if_neg (by decide)]
 refine wpAny_bind (slicePart_ pl (wpAny_bind (slicePart_ pu (wpAny_bind (wpAny_pure ?_)))))
 show wpAny _ _ (match Builtin.Slice.sliceAdjust lo hi 1 (n : Int) with | (lo,hi) => pure (lo,(1 : Int),Builtin.Slice.slicePlaces lo hi 1)) _ _ s
 rw [adjust_gen lo hi n]
 show wpAny _ _ (pure (((sIx n 0 lo : Nat) : Int),(1 : Int),Builtin.Slice.slicePlaces ((sIx n 0 lo : Nat) : Int) ((sIx n n hi : Nat) : Int) 1)) _ _ s
 rw [places_gen]
 exact wpAny_pure h
theorem pick_gen (xs : Array Value) (i k : Nat) : ((List.range k).filterMap fun (m : Nat) => xs[((i : Int) + (m : Int) * 1).toNat]?).toArray = ((xs.toList.drop i).take k).toArray := by
 have e : (fun (m : Nat) => xs[((i : Int) + (m : Int) * 1).toNat]?) = fun m => xs[i + m]? := by
  funext m
  have : ((i : Int) + (m : Int) * 1).toNat = i + m := by omega
  rw [this]
 rw [e]
 have := pick_run xs i k
 rw [List.filterMap_map] at this
 have e2 : ((fun x => xs[x]?) ∘ fun x => i + x) = fun m => xs[i + m]? := rfl
 rw [e2] at this
 rw [this]
theorem getItem_tuple_cut {t sl : Addr} {items : Array Value} {vl vu : Value} {lo hi : Option Int} {Q : Value → Shared → Prop} (ht : IsTup s.heap t items) (hs : s.heap.IsSliceOf sl vl vu .none) (pl : IsPart vl lo) (pu : IsPart vu hi)
 (hw : ¬ (sIx items.size 0 lo = 0 ∧ sIx items.size items.size hi = items.size))
 (h : Q (.ref s.heap.objs.size) { s with heap := s.heap.push { cls := .type "tuple",data := .seq ((items.toList.drop (sIx items.size 0 lo)).take (sIx items.size items.size hi - sIx items.size 0 lo)).toArray } })
 (hsz : items.size ≤ sizeLine) : wpAny (model prog w) A (getItem (.ref t) (.ref sl)) Q E s := by
 have htake : sizeOk (.seq ((items.toList.drop (sIx items.size 0 lo)).take (sIx items.size items.size hi - sIx items.size 0 lo)).toArray) := by
  show ((items.toList.drop (sIx items.size 0 lo)).take (sIx items.size items.size hi - sIx items.size 0 lo)).toArray.size ≤ sizeLine
  rw [List.size_toArray,List.length_take,List.length_drop,Array.length_toList]
  omega
 have hj : sIx items.size items.size hi ≤ items.size := sIx_le _ _ (Nat.le_refl _) hi
 obtain ⟨os,hos,hcs,hds⟩ := id hs
 have hTs : s.TypeIs (.ref sl) "slice" := ⟨os,hos,hcs⟩
 unfold getItem
 try with_reducible refine wpAny_holding ?_
 first | refine wpAny_bind (wpAny_pure ?_) | skip
 refine wpAny_bind (wpAny_sequenceKey ht.typeIs (by decide) ?_)
 refine wpAny_bind (wpAny_callSpecial?_slot (name := Str.ofString "__getitem__") ht.typeIs PyProof.Rows.slot_tuple_getitem
  (wpAny_call_entry PyProof.Rows.slot_tuple_getitem ht.typeIs entry_tuple_getitem ?_ (args_tuple_getitem _ _)))
 show wpAny _ _ (Builtin.Tuple.tupleItemsOf (.ref t) >>= _) _ _ s
 refine wpAny_bind (tupleItemsOf_ ht ?_)
 refine wpAny_bind (wpAny_typeOf hTs ?_)
 rw [if_pos (by decide)]
 refine wpAny_bind (sliceApplied_gen hs pl pu ?_)
 have hno : ¬ ((((sIx items.size 0 lo : Nat) : Int) == 0 && (1 : Int) == 1 && (sIx items.size items.size hi - sIx items.size 0 lo) == items.size) = true) := by
  intro q
  rw [Bool.and_eq_true,Bool.and_eq_true] at q
  have q1 : ((sIx items.size 0 lo : Nat) : Int) = 0 := eq_of_beq q.1.1
  have q2 : sIx items.size items.size hi - sIx items.size 0 lo = items.size := eq_of_beq q.2
  exact hw ⟨by omega,by omega⟩
 show wpAny _ _ (if (((sIx items.size 0 lo : Nat) : Int) == 0 && (1 : Int) == 1 && (sIx items.size items.size hi - sIx items.size 0 lo) == items.size) = true then _ else _) _ _ s
 rw [if_neg hno,pick_gen]
 first
  | exact wpAny_bind (m := Builtin.Tuple.tupleExact _) (wpAny_newObj_type (wpAny_pure ⟨_,rfl,wpAny_pure h⟩) htake)
  | exact wpAny_bind (m := Builtin.Tuple.tupleExact _) (wpAny_newObj_type (wpAny_bind (wpAny_pure (wpAny_pure ⟨_,rfl,wpAny_pure h⟩))) htake)
  | exact wpAny_bind (wpAny_bind (m := Builtin.Tuple.tupleExact _) (wpAny_newObj_type (wpAny_pure (wpAny_pure ⟨_,rfl,wpAny_pure h⟩)) htake))
  | exact wpAny_bind (wpAny_bind (m := Builtin.Tuple.tupleExact _) (wpAny_newObj_type (wpAny_pure ⟨_,rfl,wpAny_pure h⟩) htake))
end
end HT
namespace L2
open PySem PySem.Spec PyProof.Rows
noncomputable abbrev TO := St → Hp → (Option Int → Hp → Prop) → Prop
noncomputable def PO (X : Cx) (e : Option Expr) (t : TO) : Prop :=
 ∀ (pins : List (Addr × Obj)) (s : Shared) (σ : St) (H : Hp) (Q : Option Int → Hp → Prop),Inv X pins σ H s → t σ H Q →
  wpAny (model X.prog X.w) X.A (evalPart e X.env) (fun u s' => ∃ o H',Inv X pins σ H' s' ∧ IsPart u o ∧ Q o H') X.xe s
noncomputable def tNoPart : TO := fun _ H Q => Q none H
noncomputable def tPart (t : TE) : TO := fun σ H Q => t σ H fun x H1 => ∃ i,x = .int i ∧ Q (some i) H1
section
variable {X : Cx} {e : Expr} {te : TE} {lo hi : Option Expr} {tl th : TO} {pos p2 : Pos}
theorem po_none : PO X none tNoPart := by
 intro pins s σ H Q I h
 rw [evalPart_none]
 exact wpAny_pure ⟨none,H,I,.none,h⟩
theorem po_some (h : PE X e te) : PO X (some e) (tPart te) := by
 intro pins s σ H Q I hw
 rw [evalPart_some]
 refine thn (h pins s σ H _ I hw) fun u s1 ⟨x,H1,I1,r1,q1⟩ => ?_
 obtain ⟨i,rfl,q⟩ := q1
 obtain ⟨t,rfl⟩ := r1
 exact ⟨some i,H1,I1,.int i t,q⟩
noncomputable def SlR (X : Cx) (r : V → Option Int → Option Int → Hp → VK → Prop) : Prop :=
 ∀ (pins : List (Addr × Obj)) (s : Shared) (σ : St) (H : Hp) (x : V) (v vl vu : Value) (lo hi : Option Int) (sl : Addr) (Q : VK),Inv X pins σ H s → RelV x v → s.heap.IsSliceOf sl vl vu .none → IsPart vl lo → IsPart vu hi → r x lo hi H Q →
  ∃ T id,typeLookup (.type T) "__getitem__" = pure (some (.builtin id)) ∧ s.TypeIs v T ∧ wpAny (model X.prog X.w) X.A (getItem v (.ref sl)) (EP X pins σ Q) X.xe s
theorem SlR.or {r r' : V → Option Int → Option Int → Hp → VK → Prop} (h : SlR X r) (h' : SlR X r') : SlR X (fun x lo hi H Q => r x lo hi H Q ∨ r' x lo hi H Q) := by
 intro pins s σ H x v vl vu lo hi sl Q I rx hs pl pu q
 rcases q with q | q
 · exact h pins s σ H x v vl vu lo hi sl Q I rx hs pl pu q
 · exact h' pins s σ H x v vl vu lo hi sl Q I rx hs pl pu q
noncomputable def tSl (r : V → Option Int → Option Int → Hp → VK → Prop) (te : TE) (tl th : TO) : TE := fun σ H Q => te σ H fun x H1 => tl σ H1 fun l H2 => th σ H2 fun u H3 => r x l u H3 Q
theorem pe_slice {r : V → Option Int → Option Int → Hp → VK → Prop} (hr : SlR X r) (he : PE X e te) (hl : PO X lo tl) (hu : PO X hi th) : PE X (.Subscript e (.Slice lo hi none p2) pos) (tSl r te tl th) := by
 intro pins s σ H Q I h
 refine Subscript_ (thn (he pins s σ H _ I h) fun v s1 ⟨x,H1,I1,r1,q1⟩ => ?_)
 refine wpAny_Slice (thn (hl pins s1 σ H1 _ I1 q1) fun vl s2 ⟨l,H2,I2,pl,q2⟩ => thn (hu pins s2 σ H2 _ I2 q2) fun vu s3 ⟨u,H3,I3,pu,q3⟩ => ?_)
 rw [evalPart_none]
 refine wpAny_pure ?_
 have I4 : Inv X pins σ H3 { s3 with heap := s3.heap.push { cls := .type "slice",data := .fields #[vl,vu,.none] } } := I3.kept (t' := s3.toks) fun b ob q => Heap.get?_push_of_some _ q
 obtain ⟨T,id,hT,ht,hg⟩ := hr pins { s3 with heap := s3.heap.push { cls := .type "slice",data := .fields #[vl,vu,.none] } } σ H3 x v vl vu l u s3.heap.objs.size Q I4 r1 (Heap.IsSliceOf.new ..) pl pu q3
 show wpAny (model X.prog X.w) X.A (subscriptTail e (.Slice lo hi none p2) v (.ref s3.heap.objs.size)) (EP X pins σ Q) X.xe { s3 with heap := s3.heap.push { cls := .type "slice",data := .fields #[vl,vu,.none] } }
 exact tail_any (ops := [.ref s3.heap.objs.size,v]) ht hT hg (by with_unfolding_all rfl)
noncomputable def cutV (xs : List V) (lo hi : Option Int) : List V := (xs.drop (HT.sIx xs.length 0 lo)).take (HT.sIx xs.length xs.length hi - HT.sIx xs.length 0 lo)
theorem cutV_length (xs : List V) (lo hi : Option Int) : (cutV xs lo hi).length ≤ xs.length := by
 unfold cutV
 rw [List.length_take,List.length_drop]
 omega
noncomputable def rSlT (K : PySem.W.Frag) : V → Option Int → Option Int → Hp → VK → Prop := fun x lo hi H Q => ∃ a xs,x = .ref a ∧ SqT K H a xs ∧
 ¬ (HT.sIx xs.length 0 lo = 0 ∧ HT.sIx xs.length xs.length hi = xs.length) ∧ ∀ p,H p = none → Q (.ref p) (upd H p (.tup (cutV xs lo hi)))
theorem sl_tup : SlR X (rSlT X.K) := by
 intro pins s σ H x v vl vu lo hi sl Q I rx hs pl pu h
 obtain ⟨a,xs,rfl,hx,hw,q⟩ := h
 cases rx
 obtain ⟨its,r,ht,hz⟩ := I.tuple hx
 have hlen : its.toArray.size = xs.length := by rw [List.size_toArray]; exact r.length.symm
 refine ⟨"tuple",_,PyProof.Rows.slot_tuple_getitem.lookup,ht.typeIs,?_⟩
 refine HT.getItem_tuple_cut ht hs pl pu (by rw [hlen]; exact hw) ?_ (by rw [hlen]; exact hz)
 rw [hlen]
 refine ⟨.ref s.heap.objs.size,_,I.laid (t' := s.toks) (o := .tup (cutV xs lo hi)) (fun b ob q => Heap.get?_push_of_some _ q) (Nat.le_refl _) ?_,rfl,q _ (I.hok.fresh (Nat.le_refl _))⟩
 exact ⟨Nat.le_trans (cutV_length xs lo hi) hz,_,(r.drop (HT.sIx xs.length 0 lo)).take (HT.sIx xs.length xs.length hi - HT.sIx xs.length 0 lo),IsTup.new _ _⟩
noncomputable def rCatT (K : PySem.W.Frag) : R2 := fun x y H Q => ∃ a b xs ys,x = .ref a ∧ y = .ref b ∧ SqT K H a xs ∧ SqT K H b ys ∧ xs ≠ [] ∧ xs.length + ys.length ≤ sizeLine ∧
 (ys = [] → Q (.ref a) H) ∧ (ys ≠ [] → ∀ p,H p = none → Q (.ref p) (upd H p (.tup (xs ++ ys))))
theorem Vals.nil_iff {xs : List V} {us : List Value} (r : Vals xs us) : us = [] ↔ xs = [] := by
 cases r with
 | nil => simp
 | cons _ _ => simp
theorem op_catT : OpR X (binaryOp .Add) (rCatT X.K) := by
 intro pins s σ H x y v u Q I rx ry h
 obtain ⟨a,b,xs,ys,rfl,rfl,ha,hb,hx,hz,q1,q2⟩ := h
 cases rx
 cases ry
 obtain ⟨its,r1,p1,_⟩ := I.tuple ha
 obtain ⟨its2,r2,p2,_⟩ := I.tuple hb
 refine HT.cat_tup p1 p2 (fun z => hx (r1.nil_iff.mp z)) (fun z => ⟨.ref a,H,I,rfl,q1 (r2.nil_iff.mp z)⟩) (fun z => ?_) (by rw [← r1.length,← r2.length]; exact hz)
 refine ⟨.ref s.heap.objs.size,_,I.laid (t' := s.toks) (o := .tup (xs ++ ys)) (fun b ob q => Heap.get?_push_of_some _ q) (Nat.le_refl _) ?_,rfl,q2 (fun w => z (r2.nil_iff.mpr w)) _ (I.hok.fresh (Nat.le_refl _))⟩
 exact ⟨by rw [List.length_append]; exact hz,_,r1.append r2,IsTup.new _ _⟩
end
end L2
namespace L2
open PySem PySem.Spec PyProof.Rows
noncomputable def ixN (n : Nat) (i : Int) : Option Nat := if 0 ≤ i then (if i < n then some i.toNat else none) else if -(n : Int) ≤ i then some (i + n).toNat else none
noncomputable def atI {α : Type} (xs : List α) (i : Int) : Option α := (ixN xs.length i).bind fun j => xs[j]?
theorem ixN_seq {n : Nat} {i : Int} {j : Nat} (h : ixN n i = some j) : seqIndex? i n = some j ∧ j < n ∧ -(n : Int) ≤ i ∧ i < n := by
 unfold ixN at h
 by_cases h0 : 0 ≤ i
 · rw [if_pos h0] at h
   by_cases h1 : i < n
   · rw [if_pos h1] at h
     have e : i.toNat = j := Option.some.inj h
     exact ⟨by rw [seqIndex_of h0 h1,e],by omega,by omega,h1⟩
   · rw [if_neg h1] at h; cases h
 · rw [if_neg h0] at h
   by_cases h1 : -(n : Int) ≤ i
   · rw [if_pos h1] at h
     have e : (i + n).toNat = j := Option.some.inj h
     exact ⟨by rw [seqIndex_neg (by omega) h1,e],by omega,h1,by omega⟩
   · rw [if_neg h1] at h; cases h
theorem atI_get {α : Type} {xs : List α} {i : Int} {v : α} (h : atI xs i = some v) : ∃ j,seqIndex? i xs.length = some j ∧ xs[j]? = some v ∧ j < xs.length ∧ -(xs.length : Int) ≤ i ∧ i < xs.length := by
 unfold atI at h
 cases e : ixN xs.length i with
 | none => rw [e] at h; cases h
 | some j =>
  rw [e] at h
  obtain ⟨h1,h2,h3,h4⟩ := ixN_seq e
  exact ⟨j,h1,h,h2,h3,h4⟩
theorem atI_nat {α : Type} {xs : List α} {j : Nat} {v : α} (h : xs[j]? = some v) : atI xs (j : Int) = some v := by
 have hj : j < xs.length := (List.getElem?_eq_some_iff.mp h).1
 have e : ixN xs.length (j : Int) = some j := by
  unfold ixN
  rw [if_pos (by omega),if_pos (by omega)]; simp
 unfold atI; rw [e]; exact h
theorem atI_last {α : Type} (xs : List α) (v : α) : atI (xs ++ [v]) (-1) = some v := by
 have hl : (xs ++ [v]).length = xs.length + 1 := by simp
 have e : ixN (xs ++ [v]).length (-1) = some xs.length := by
  unfold ixN
  rw [hl,if_neg (by decide),if_pos (by omega)]
  congr 1
  omega
 unfold atI
 rw [e]
 show (xs ++ [v])[xs.length]? = some v
 simp
noncomputable def PlainIx (b : Expr) : Prop := ∀ o i,subscripted b false o i = operate [o,i] (getItem o i)
noncomputable def IxR (X : Cx) (r : R2) : Prop :=
 ∀ (value slice : Expr) (pins : List (Addr × Obj)) (s : Shared) (σ : St) (H : Hp) (x y : V) (v u : Value) (Q : VK),Inv X pins σ H s → RelV x v → RelV y u → r x y H Q →
  subscripted slice false v u = operate [v,u] (getItem v u) → wpAny (model X.prog X.w) X.A (subscriptTail value slice v u) (EP X pins σ Q) X.xe s
noncomputable def MtR (X : Cx) (id : String) (r : V → List V → Hp → VK → Prop) : Prop :=
 ∀ (pins : List (Addr × Obj)) (s : Shared) (σ : St) (H : Hp) (x : V) (xs : List V) (v : Value) (us : List Value) (Q : VK),Inv X pins σ H s → RelV x v → Vals xs us → r x xs H Q →
  wpAny (model X.prog X.w) X.A (call (.builtin id) (v :: us)) (EP X pins σ Q) X.xe s
section
variable {X : Cx} {a b : Expr} {ta tb : TE} {pos : Pos}
theorem IxR.or {r r' : R2} (h : IxR X r) (h' : IxR X r') : IxR X (fun x y H Q => r x y H Q ∨ r' x y H Q) := by
 intro value slice pins s σ H x y v u Q I rx ry q hs
 rcases q with q | q
 · exact h value slice pins s σ H x y v u Q I rx ry q hs
 · exact h' value slice pins s σ H x y v u Q I rx ry q hs
theorem MtR.or {id : String} {r r' : V → List V → Hp → VK → Prop} (h : MtR X id r) (h' : MtR X id r') : MtR X id (fun x xs H Q => r x xs H Q ∨ r' x xs H Q) := by
 intro pins s σ H x xs v us Q I rx rs q
 rcases q with q | q
 · exact h pins s σ H x xs v us Q I rx rs q
 · exact h' pins s σ H x xs v us Q I rx rs q
theorem pe_ix {r : R2} (hr : IxR X r) (ha : PE X a ta) (hb : PE X b tb) (hs : PlainIx b) : PE X (.Subscript a b pos) (tOp r ta tb) := by
 intro pins s σ H Q I h
 exact Subscript_ (binT ha hb I h fun v u s2 x y H2 I2 rx ry q => hr a b pins s2 σ H2 x y v u Q I2 rx ry q (hs _ _))
noncomputable def rIxL (K : PySem.W.Frag) : R2 := fun x y H Q => ∃ p xs i v,x = .ref p ∧ y = .int i ∧ SqL K H p xs ∧ atI xs i = some v ∧ Q v H
noncomputable def rIxT (K : PySem.W.Frag) : R2 := fun x y H Q => ∃ p xs i v,x = .ref p ∧ y = .int i ∧ SqT K H p xs ∧ atI xs i = some v ∧ Q v H
noncomputable def rIxS : R2 := fun x y H Q => ∃ z i c,x = .str z ∧ y = .int i ∧ z.length ≤ sizeLine ∧ atI z.cps.toList i = some c ∧ Q (.str ⟨#[c]⟩) H
theorem ix_list : IxR X (rIxL X.K) := by
 intro value slice pins s σ H x y v u Q I rx ry h hs
 obtain ⟨p,xs,i,z,rfl,rfl,hq,he,q⟩ := h
 cases rx
 obtain ⟨t,rfl⟩ := ry
 obtain ⟨its,r,pl,hz⟩ := I.list hq
 obtain ⟨j,h1,h2,h3,h4,h5⟩ := atI_get he
 obtain ⟨w,ew,rw'⟩ := r.get h2
 have hl := r.length
 have hn := line63
 have fin : EP X pins σ Q w s := ⟨z,H,I,rw',q⟩
 by_cases h0 : 0 ≤ i
 · have hj : i.toNat = j := by
    rw [seqIndex_of h0 h5] at h1
    exact Option.some.inj h1
   exact item_listR pl.isList h0 (by omega) (by rw [hj]; simpa using ew) fin hs
 · have hj : (i + (its.toArray.size : Int)).toNat = j := by
    rw [seqIndex_neg (by omega) h4] at h1
    rw [List.size_toArray,← hl]
    exact Option.some.inj h1
   exact subscriptTail_builtinR (x := w) pl.isList.typeIs slot_list_getitem.lookup
    (wpAny_getItem_list_neg (Q := fun r s' => r = w ∧ EP X pins σ Q r s') pl.isList (by omega) (by rw [List.size_toArray] <;> omega) (by omega) (by rw [hj]; simpa using ew) ⟨rfl,fin⟩) hs
theorem ix_tup : IxR X (rIxT X.K) := by
 intro value slice pins s σ H x y v u Q I rx ry h hs
 obtain ⟨p,xs,i,z,rfl,rfl,hq,he,q⟩ := h
 cases rx
 obtain ⟨t,rfl⟩ := ry
 obtain ⟨its,r,pl,hz⟩ := I.tuple hq
 obtain ⟨j,h1,h2,h3,h4,h5⟩ := atI_get he
 obtain ⟨w,ew,rw'⟩ := r.get h2
 have hl := r.length
 have hn := line63
 have fin : EP X pins σ Q w s := ⟨z,H,I,rw',q⟩
 exact subscriptTail_builtinR (x := w) pl.typeIs slot_tuple_getitem.lookup
  (getItem_tuple (j := j) (Q := fun r s' => r = w ∧ EP X pins σ Q r s') pl (by omega) (by omega) (by rw [List.size_toArray,← hl]; exact h1) (by simpa using ew) ⟨rfl,fin⟩) hs
theorem ix_str : IxR X rIxS := by
 intro value slice pins s σ H x y v u Q I rx ry h hs
 obtain ⟨z,i,c,rfl,rfl,hz,he,q⟩ := h
 obtain ⟨t,rfl⟩ := rx
 obtain ⟨t',rfl⟩ := ry
 obtain ⟨j,h1,h2,h3,h4,h5⟩ := atI_get he
 have hl : z.cps.toList.length = z.length := by simp [Str.length]
 rw [hl] at h1 h4 h5
 have hn := line63
 exact tail_any (typeIs_str s z t) slot_str_getitem.lookup (getItem_str (c := c) (by
  have e1 : decide (i < -(2 ^ 63 : Int)) = false := decide_eq_false (by omega)
  have e2 : decide (i ≥ 2 ^ 63) = false := decide_eq_false (by omega)
  rw [e1,e2,Bool.or_false]) (by rw [h1]; simpa using h2) ⟨.str ⟨#[c]⟩,H,I.tok _,⟨_,rfl⟩,q⟩) hs
theorem mapSeq_set (its : List Value) (n j : Nat) (u : Value) : Obj.mapSeq (·.setIfInBounds j u) { cls := .type "list",data := .seq its.toArray n } = { cls := .type "list",data := .seq (its.set j u).toArray n } := by
 simp [Obj.mapSeq]
theorem Inv.lst {pins : List (Addr × Obj)} {σ : St} {H : Hp} {s : Shared} {p : Addr} {xs : List V} (I : Inv X pins σ H s) (h : H p = some (.lst xs)) :
 ∃ (its : List Value) (n : Nat),Vals xs its ∧ s.heap.get? p = some { cls := .type "list",data := .seq its.toArray n } ∧ xs.length ≤ sizeLine := by
 obtain ⟨z,its,n,r,e⟩ := I.hok p _ h
 exact ⟨its,n,r,e,z⟩
theorem Inv.lstUpd {pins : List (Addr × Obj)} {σ : St} {H : Hp} {s : Shared} {p : Addr} {xs ys : List V} {its its' : List Value} {n n' : Nat} {f : Obj → Obj} (I : Inv X pins σ H s) (h : H p = some (.lst xs))
 (ho : s.heap.get? p = some { cls := .type "list",data := .seq its.toArray n }) (hf : f { cls := .type "list",data := .seq its.toArray n } = { cls := .type "list",data := .seq its'.toArray n' }) (r : Vals ys its') (hz : ys.length ≤ sizeLine) (t : Nat) :
 Inv X pins σ (upd H p (.lst ys)) { s with heap := s.heap.update p f,toks := t } := by
 have e : (s.heap.update p f).get? p = some { cls := .type "list",data := .seq its'.toArray n' } := by
  rw [Heap.get?_update_self f ho (by rw [hf] <;> rfl),hf]
 refine I.write (x := p) (e := p) (by rw [h]; trivial) (.inl rfl) (fun b u hb q => (Heap.get?_update_other _ _ (Ne.symm hb)).trans q) ⟨_,e⟩ ?_
 exact ⟨hz,its',n',r,e⟩
noncomputable def rSetL : V → V → V → Hp → (Hp → Prop) → Prop := fun o i v H Q => ∃ p xs k j,o = .ref p ∧ i = .int k ∧ H p = some (.lst xs) ∧ ixN xs.length k = some j ∧ Q (upd H p (.lst (xs.set j v)))
theorem set_list : PSet X rSetL := by
 intro pins s σ H o i v ov iv u Q I ro ri rv h
 obtain ⟨p,xs,k,j,rfl,rfl,hp,hj,q⟩ := h
 cases ro
 obtain ⟨t,rfl⟩ := ri
 obtain ⟨its,n,r,ho,hz⟩ := I.lst hp
 obtain ⟨h1,h2,h3,h4⟩ := ixN_seq hj
 have hl := r.length
 have hn := line63
 have I' : Inv X pins σ (upd H p (.lst (xs.set j v))) { s with heap := s.heap.update p (Obj.mapSeq (·.setIfInBounds j u)) } :=
  I.lstUpd hp ho (mapSeq_set its n j u) (r.set rv j) (by rw [List.length_set]; exact hz) s.toks
 by_cases h0 : 0 ≤ k
 · have hk : k.toNat = j := by
    rw [seqIndex_of h0 h4] at h1
    exact Option.some.inj h1
   exact PySem.W.ki_setAt ho h0 (by omega) (by rw [List.size_toArray,← hl]; exact h4) (by rw [hk]; exact ⟨_,I',q⟩)
 · have hk : (k + (its.toArray.size : Int)).toNat = j := by
    rw [seqIndex_neg (by omega) h3] at h1
    rw [List.size_toArray,← hl]
    exact Option.some.inj h1
   exact PySem.W.ki_setBack ho (by omega) (by rw [List.size_toArray,← hl]; exact h3) (by omega) (by rw [hk]; exact ⟨_,I',q⟩)
theorem slice_bounds (lo hi : Option Int) (n : Nat) : (sliceBounds lo hi none n).1 = ((HT.sIx n 0 lo : Nat) : Int) ∧ (sliceBounds lo hi none n).2.1 = ((HT.sIx n n hi : Nat) : Int) ∧ (sliceBounds lo hi none n).2.2 = 1 := by
 refine ⟨?_,?_,rfl⟩
 · cases lo with
   | none => simp [sliceBounds,HT.sIx]
   | some i =>
    simp only [sliceBounds,HT.sIx,Option.getD_none,show (1 : Int) > 0 by decide,if_true]
    by_cases h : i < 0
    · simp only [h,if_true] <;> omega
    · simp only [h,if_false] <;> omega
 · cases hi with
   | none => simp [sliceBounds,HT.sIx]
   | some i =>
    simp only [sliceBounds,HT.sIx,Option.getD_none,show (1 : Int) > 0 by decide,if_true]
    by_cases h : i < 0
    · simp only [h,if_true] <;> omega
    · simp only [h,if_false] <;> omega
theorem slicePick_cut (its : List Value) (lo hi : Option Int) : slicePick its.toArray lo hi none = ((its.drop (HT.sIx its.length 0 lo)).take (HT.sIx its.length its.length hi - HT.sIx its.length 0 lo)).toArray := by
 obtain ⟨h1,h2,h3⟩ := slice_bounds lo hi its.toArray.size
 unfold slicePick
 rw [h1,h2,h3]
 simp only [sliceRange_one,pick_run,List.size_toArray] <;> rfl
noncomputable def rSlL (K : PySem.W.Frag) : V → Option Int → Option Int → Hp → VK → Prop := fun x lo hi H Q => ∃ a xs,x = .ref a ∧ SqL K H a xs ∧ ∀ p,H p = none → Q (.ref p) (upd H p (.lst (cutV xs lo hi)))
theorem sl_list : SlR X (rSlL X.K) := by
 intro pins s σ H x v vl vu lo hi sl Q I rx hs pl pu h
 obtain ⟨a,xs,rfl,hx,q⟩ := h
 cases rx
 obtain ⟨its,r,ht,hz⟩ := I.list hx
 have hlen := r.length
 refine ⟨"list",_,slot_list_getitem.lookup,ht.isList.typeIs,?_⟩
 refine wpAny_getItem_list_slice ht.isList hs pl pu .none (by simp) ?_ (by rw [List.size_toArray] <;> omega)
 rw [slicePick_cut,← hlen]
 refine ⟨.ref s.heap.objs.size,_,I.laid (t' := s.toks) (o := .lst (cutV xs lo hi)) (fun b ob q => Heap.get?_push_of_some _ q) (Nat.le_refl _) ?_,rfl,q _ (I.hok.fresh (Nat.le_refl _))⟩
 exact ⟨Nat.le_trans (cutV_length xs lo hi) hz,_,0,(r.drop (HT.sIx xs.length 0 lo)).take (HT.sIx xs.length xs.length hi - HT.sIx xs.length 0 lo),Heap.get?_push_size _ rfl⟩
theorem call_len_seq : CallR X (.builtin "len") (fun xs H Q => ∃ p ys,xs = [.ref p] ∧ (SqL X.K H p ys ∨ SqT X.K H p ys) ∧ Q (.int ys.length) H) := by
 intro pins s σ H xs us Q I r h
 obtain ⟨p,ys,rfl,hq,q⟩ := h
 obtain ⟨u,rfl,rx⟩ := vals1 r
 cases rx
 have hn := line63
 rcases hq with hq | hq
 · obtain ⟨its,r',pl,hz⟩ := I.list hq
   have hlen := r'.length
   exact Calls.call_len_list pl.isList (by simp only [List.size_toArray] <;> omega) ⟨.int ys.length,H,I.tok _,⟨s.toks + 1,by rw [List.size_toArray,hlen]⟩,q⟩
 · obtain ⟨its,r',pl,hz⟩ := I.tuple hq
   have hlen := r'.length
   exact len_tuple pl (by simp only [List.size_toArray] <;> omega) ⟨.int ys.length,H,I.tok _,⟨s.toks + 1,by rw [List.size_toArray,hlen]⟩,q⟩
theorem call_len_str : CallR X (.builtin "len") (fun xs H Q => ∃ z,xs = [.str z] ∧ z.length ≤ sizeLine ∧ Q (.int z.length) H) := by
 intro pins s σ H xs us Q I r h
 obtain ⟨z,rfl,hz,q⟩ := h
 obtain ⟨u,rfl,t,rfl⟩ := vals1 r
 have hn := line63
 exact len_str (by omega) ⟨.int z.length,H,I.tok _,⟨_,rfl⟩,q⟩
theorem CallR.or {f : Value} {r r' : List V → Hp → VK → Prop} (h : CallR X f r) (h' : CallR X f r') : CallR X f (fun xs H Q => r xs H Q ∨ r' xs H Q) := by
 intro pins s σ H xs us Q I rs q
 rcases q with q | q
 · exact h pins s σ H xs us Q I rs q
 · exact h' pins s σ H xs us Q I rs q
theorem call_list_of : CallR X (.type "list") (fun xs H Q => ∃ p ys,xs = [.ref p] ∧ (SqL X.K H p ys ∨ SqT X.K H p ys) ∧ ∀ l,H l = none → Q (.ref l) (upd H l (.lst ys))) := by
 intro pins s σ H xs us Q I r h
 obtain ⟨p,ys,rfl,hq,q⟩ := h
 obtain ⟨u,rfl,rx⟩ := vals1 r
 cases rx
 have fin : ∀ (its : List Value),Vals ys its → ys.length ≤ sizeLine → ∀ (h' : Heap) (c' : Nat),(∀ b o',s.heap.get? b = some o' → h'.get? b = some o') →
  h'.get? s.heap.objs.size = some { cls := .type "list",dict := none,data := .seq its.toArray c',slots := #[] } → EP X pins σ Q (.ref s.heap.objs.size) { s with heap := h' } := fun its r' hz h' c' kp e =>
  ⟨.ref s.heap.objs.size,_,I.laid (t' := s.toks) kp (Nat.le_refl _) (show ObjOk X.prog X.w _ h' _ (.lst ys) from ⟨hz,its,c',r',e⟩),rfl,q _ (I.hok.fresh (Nat.le_refl _))⟩
 rcases hq with hq | hq
 · obtain ⟨its,r',pl,hz⟩ := I.list hq
   have hlen := r'.length
   obtain ⟨o,ho,hc,n,hd⟩ := pl.isList
   exact call_list_seq p (.inl rfl) ho hc hd (fun h' c' kp e => fin its r' hz h' c' kp e) (by simp only [List.size_toArray] <;> omega)
 · obtain ⟨its,r',pl,hz⟩ := I.tuple hq
   have hlen := r'.length
   obtain ⟨o,ho,hc,n,hd⟩ := pl
   exact call_list_seq p (.inr rfl) ho hc hd (fun h' c' kp e => fin its r' hz h' c' kp e) (by simp only [List.size_toArray] <;> omega)
theorem call_tuple_of : CallR X (.type "tuple") (fun xs H Q => ∃ p ys,xs = [.ref p] ∧ ((SqL X.K H p ys ∧ ∀ l,H l = none → Q (.ref l) (upd H l (.tup ys))) ∨ (SqT X.K H p ys ∧ Q (.ref p) H))) := by
 intro pins s σ H xs us Q I r h
 obtain ⟨p,ys,rfl,h⟩ := h
 obtain ⟨u,rfl,rx⟩ := vals1 r
 cases rx
 rcases h with ⟨hq,q⟩ | ⟨hq,q⟩
 · obtain ⟨its,r',pl,hz⟩ := I.list hq
   have hlen := r'.length
   refine call_tuple_list pl.isList (fun h' kp => ?_) (by simp only [List.size_toArray] <;> omega)
   have I1 : Inv X pins σ H { s with heap := h' } := I.kept (t' := s.toks) kp
   have I2 : Inv X pins σ (upd H h'.objs.size (.tup ys)) { s with heap := h'.push { cls := .type "tuple",data := .seq its.toArray } } :=
    I1.laid (t' := s.toks) (fun b o e => Heap.get?_push_of_some _ e) (Nat.le_refl _) (show ObjOk X.prog X.w _ _ _ (.tup ys) from ⟨hz,its,r',IsTup.new _ _⟩)
   exact ⟨.ref h'.objs.size,_,I2,rfl,q _ (I1.hok.fresh (Nat.le_refl _))⟩
 · obtain ⟨its,r',pl,hz⟩ := I.tuple hq
   exact call_tuple_same pl ⟨.ref p,H,I,rfl,q⟩
noncomputable def tyV (K : PySem.W.Frag) (T : String) (x : V) (H : Hp) : Prop := match x with
 | .str _ => T = "str"
 | .int _ => T = "int"
 | .ref p => (T = "list" ∧ ∃ xs,SqL K H p xs) ∨ (T = "tuple" ∧ ∃ o,K.lookup p = some o ∧ o.cls = .type "tuple" ∧ o.dict = none) ∨
  (T = "dict" ∧ ((∃ kvs,H p = some (.dK kvs)) ∨ ∃ kvs,H p = some (.dT kvs))) ∨ (T = "set" ∧ ∃ S n,H p = some (.set S n))
 | _ => False
theorem tyV_is {pins : List (Addr × Obj)} {σ : St} {H : Hp} {s : Shared} {T : String} {x : V} {v : Value} (I : Inv X pins σ H s) (r : RelV x v) (ty : tyV X.K T x H) :
 s.TypeIs v T ∧ ∀ a,v = .ref a → ∃ ob,s.heap.get? a = some ob ∧ ob.dict = none := by
 cases x with
 | str z =>
  obtain ⟨t,rfl⟩ := r
  cases (show T = "str" from ty)
  exact ⟨typeIs_str s z t,fun _ e => nomatch e⟩
 | int i =>
  obtain ⟨t,rfl⟩ := r
  cases (show T = "int" from ty)
  exact ⟨typeIs_int s i t,fun _ e => nomatch e⟩
 | ref p =>
  cases r
  rcases ty with ⟨rfl,xs,hq⟩ | ⟨rfl,o,hk,hc,hd⟩ | ⟨rfl,hk⟩ | ⟨rfl,S,n,hk⟩
  · obtain ⟨its,_,pl,_⟩ := I.list hq
    refine ⟨pl.isList.typeIs,fun a e => ?_⟩
    cases e
    obtain ⟨o,n,e,c,hd,_⟩ := pl
    exact ⟨o,e,hd⟩
  · refine ⟨⟨o,I.kIn p o hk,hc⟩,fun a e => ?_⟩
    cases e
    exact ⟨o,I.kIn _ o hk,hd⟩
  · have z : ∃ o,s.heap.get? p = some o ∧ o.ExactDict := by
     rcases hk with ⟨kvs,hk⟩ | ⟨kvs,hk⟩
     · obtain ⟨_,_,_,_,o,_,_,e,ex,_⟩ := I.hok p _ hk
       exact ⟨o,e,ex⟩
     · obtain ⟨_,_,_,_,o,_,_,e,ex,_⟩ := I.hok p _ hk
       exact ⟨o,e,ex⟩
    obtain ⟨o,e,ex⟩ := z
    refine ⟨⟨o,e,ex.1⟩,fun a e2 => ?_⟩
    cases e2
    exact ⟨o,e,ex.2.1⟩
  · obtain ⟨o,_,_,_,e,ex,_⟩ := I.hok p _ hk
    refine ⟨⟨o,e,ex.1⟩,fun a e2 => ?_⟩
    cases e2
    exact ⟨o,e,ex.2.1⟩
 | _ => exact False.elim ty
noncomputable def tBM (K : PySem.W.Frag) (T : String) (r : V → List V → Hp → VK → Prop) (to : TE) (t : TA) : TE := fun σ H Q => to σ H fun x H1 => tyV K T x H1 ∧ t σ H1 fun xs H2 => r x xs H2 Q
variable {o e : Expr} {es : List Expr} {to : TE} {t : TA} {name : Str} {apos cpos : Pos} {T id : String} {r : V → List V → Hp → VK → Prop}
theorem pe_bm (pa : PlainAttrs T) (slot : Slot T name id) (hty : typeOf (.builtin id) = pure (.type "method_descriptor")) (hm : MtR X id r) (ho : PE X o to) (ha : PA X (e :: es) t)
 (hbase : attributeBase o name X.env (eval o X.env) = eval o X.env := by rfl)
 (hfew : ((backTo cpos (starEach (e :: es) X.env)).all (fun x => !x.1) && (backToKw cpos (keywordEach [] X.env)).all (fun x => x.1.isSome)
   && decide ((e :: es).length + ([] : List Keyword).length + (if ([] : List Keyword).isEmpty then 0 else 1) < 30)) = true := by rfl)
 (hline : (apos.endLine == cpos.line) = true := by rfl) (hs : starEach (e :: es) X.env = (false,eval e X.env) :: starEach es X.env := by rfl) (hplain : (backTo cpos (starEach es X.env)).any (·.1) = false := by rfl) :
 PE X (.Call (.Attribute o name apos) (e :: es) [] cpos) (tBM X.K T r to t) := by
 intro pins s σ H Q I h
 refine wpAny_Call_method_late hbase hfew hline rfl (thn (ho pins s σ H _ I h) fun v s1 ⟨x,H1,I1,r1,ty,q1⟩ => ?_)
 obtain ⟨h1,h2⟩ := tyV_is I1 r1 ty
 refine ⟨T,id,pa,slot,hty,h1,h2,?_⟩
 have hA := ha cpos pins s1 σ H1 _ I1 q1
 rw [hs] at hA ⊢
 refine Calls.callWith_builtin (by show (false || (backTo cpos (starEach es X.env)).any (·.1)) = false; rw [hplain] <;> rfl) (Calls.evalArgs_plain ?_)
 exact thn hA fun us s2 ⟨vs,H2,I2,r2,q2⟩ => hm pins s2 σ H2 x vs v us Q I2 r1 r2 q2
/- xs.append(e),list.index on a module's tuple .. are MtR facts of 06m -/
end
end L2
namespace L2
open PySem PySem.Spec PyProof.Rows
noncomputable def MtM (X : Cx) (id : String) (r : V → List V → Hp → VK → Prop) : Prop :=
 ∀ (pins : List (Addr × Obj)) (s : Shared) (σ : St) (H : Hp) (x : V) (xs : List V) (v : Value) (us : List Value) (Q : VK),Inv X pins σ H s → RelV x v → Vals xs us → r x xs H Q →
  wpAny (model X.prog X.w) X.A (call (.builtin id) (v :: us)) (EP X pins σ Q) X.xe s
theorem Vals.one : ∀ {x : V} {us : List Value},Vals [x] us → ∃ u,us = [u] ∧ RelV x u
 | _,_,.cons r .nil => ⟨_,rfl,r⟩
theorem Vals.two : ∀ {x y : V} {us : List Value},Vals [x,y] us → ∃ u v,us = [u,v] ∧ RelV x u ∧ RelV y v
 | _,_,_,.cons r (.cons q .nil) => ⟨_,_,rfl,r,q⟩
theorem Vals.zero : ∀ {us : List Value},Vals [] us → us = []
 | _,.nil => rfl
theorem Vals.dropLast {xs : List V} {us : List Value} (h : Vals xs us) : Vals xs.dropLast us.dropLast := by
 induction h with
 | nil => exact .nil
 | cons r t ih =>
  cases t with
  | nil => exact .nil
  | cons q t' => exact .cons r ih
theorem Vals.rep {xs : List V} {us : List Value} (h : Vals xs us) : ∀ k : Nat,Vals (List.replicate k xs).flatten (List.replicate k us).flatten
 | 0 => .nil
 | k + 1 => by
  rw [List.replicate_succ,List.replicate_succ,List.flatten_cons,List.flatten_cons]
  exact Vals.append h (Vals.rep h k)
theorem foldl_rep (its : List Value) : ∀ (k : Nat) (acc : List Value),
 List.foldl (fun x1 x2 => x1 ++ x2) acc.toArray (List.replicate k its.toArray) = (acc ++ (List.replicate k its).flatten).toArray
 | 0,acc => by simp
 | k + 1,acc => by
  have e : acc.toArray ++ its.toArray = (acc ++ its).toArray := by simp
  have e2 : (acc ++ its) ++ (List.replicate k its).flatten = acc ++ (List.replicate (k + 1) its).flatten := by
   rw [List.replicate_succ,List.flatten_cons,List.append_assoc]
  rw [← e2,← foldl_rep its k (acc ++ its),← e,List.replicate_succ,List.foldl_cons]
section
variable {X : Cx} {pins : List (Addr × Obj)} {σ : St} {H : Hp} {s : Shared} {l b : Addr} {xs ys zs : List V}
theorem Inv.lset {its its' : List Value} {n : Nat} {f : Array Value → Array Value} {t' : Nat} (I : Inv X pins σ H s) (hH : H l = some (.lst xs))
 (e : s.heap.get? l = some { cls := .type "list",data := .seq its.toArray n }) (hf : f its.toArray = its'.toArray) (hv : Vals ys its') (hz : ys.length ≤ sizeLine) :
 Inv X pins σ (upd H l (.lst ys)) { s with heap := s.heap.update l (Obj.mapSeq f),toks := t' } := by
 have q := PySem.IsL.update e f
 rw [hf] at q
 refine I.write (x := l) (e := l) (by rw [hH]; exact trivial) (.inl rfl) (fun b' u hb hu => (Heap.get?_update_other s.heap (Obj.mapSeq f) (Ne.symm hb)).trans hu) ⟨_,q⟩ ?_
 exact ⟨hz,its',_,hv,q⟩
theorem Inv.lnew {its : List Value} {t' : Nat} (I : Inv X pins σ H s) (hv : Vals ys its) (hz : ys.length ≤ sizeLine) :
 Inv X pins σ (upd H s.heap.objs.size (.lst ys)) { s with heap := s.heap.push { cls := .type "list",data := .seq its.toArray },toks := t' } :=
 I.laid (fun _ _ q => Heap.get?_push_of_some _ q) (Nat.le_refl _) ⟨hz,its,0,hv,Heap.get?_push_size _ rfl⟩
theorem Inv.fresh (I : Inv X pins σ H s) : H s.heap.objs.size = none := I.hok.fresh (Nat.le_refl _)
theorem Inv.lstM (I : Inv X pins σ H s) (hH : H l = some (.lst xs)) : xs.length ≤ sizeLine ∧ ∃ (its : List Value) (n : Nat),Vals xs its ∧ xs.length = its.length ∧ s.heap.get? l = some { cls := .type "list",data := .seq its.toArray n } := by
 obtain ⟨z,its,n,r,e⟩ := I.hok l _ hH
 exact ⟨z,its,n,r,r.length,e⟩
theorem notLongL {n : Nat} (h : n ≤ sizeLine) : Builtin.List.listTooLong n = false := by
 unfold Builtin.List.listTooLong
 exact decide_eq_false (by omega)
end
section
variable {X : Cx}
noncomputable def rAppend : V → List V → Hp → VK → Prop := fun x vs H Q => ∃ l xs y,x = .ref l ∧ vs = [y] ∧ H l = some (.lst xs) ∧ xs.length < sizeLine ∧ Q .non (upd H l (.lst (xs ++ [y])))
theorem mt_append : MtM X "list.append" rAppend := by
 intro pins s σ H x vs v us Q I rx rv h
 obtain ⟨l,xs,y,rfl,rfl,hH,hz,q⟩ := h
 cases rx
 obtain ⟨u,rfl,ru⟩ := rv.one
 obtain ⟨z,its,n,r,hl,e⟩ := I.lstM hH
 refine call_meets F.slot_list_append ⟨_,e,rfl⟩ F.entry_list_append (F.args_list_append_2 _ _) (PySem.list_append l its.toArray n u (by rw [List.size_toArray]; omega)) ⟨e,?_⟩
 refine ⟨.non,_,I.lset (its' := its ++ [u]) hH e (by simp) (r.append (.cons ru .nil)) ?_,rfl,q⟩
 rw [List.length_append,List.length_singleton]
 omega
noncomputable def rExtend : V → List V → Hp → VK → Prop := fun x vs H Q => ∃ l b xs zs,x = .ref l ∧ vs = [.ref b] ∧ H l = some (.lst xs) ∧ H b = some (.lst zs) ∧ xs.length + zs.length ≤ sizeLine ∧ Q .non (upd H l (.lst (xs ++ zs)))
theorem mt_extend : MtM X "list.extend" rExtend := by
 intro pins s σ H x vs v us Q I rx rv h
 obtain ⟨l,b,xs,zs,rfl,rfl,hH,hB,hz,q⟩ := h
 cases rx
 obtain ⟨u,rfl,ru⟩ := rv.one
 cases ru
 obtain ⟨z,its,n,r,hl,e⟩ := I.lstM hH
 obtain ⟨z2,its2,n2,r2,hl2,e2⟩ := I.lstM hB
 have hsz : its.toArray.size + its2.toArray.size ≤ sizeLine := by rw [List.size_toArray,List.size_toArray]; omega
 have hlong : ¬ (!its.toArray.isEmpty && Builtin.List.listTooLong (its.toArray.size + its2.toArray.size)) = true := by
  rw [notLongL hsz,Bool.and_false]
  exact Bool.false_ne_true
 refine call_meets F.slot_list_extend ⟨_,e,rfl⟩ F.entry_list_extend (F.args_list_extend_2 _ _)
  (AutoSeq1.list_extend_list_list_0 l its.toArray n b its2.toArray n2 hlong (by rw [List.size_toArray]; omega) (by omega)) ⟨e,e2,?_⟩
 refine ⟨.non,_,I.lset (its' := its ++ its2) hH e (by simp) (r.append r2) ?_,rfl,q⟩
 rw [List.length_append]
 omega
noncomputable def rCat : R2 := fun x y H Q => ∃ l b xs zs,x = .ref l ∧ y = .ref b ∧ H l = some (.lst xs) ∧ H b = some (.lst zs) ∧ xs.length + zs.length ≤ sizeLine ∧ ∀ p,H p = none → Q (.ref p) (upd H p (.lst (xs ++ zs)))
theorem op_cat : OpR X (binaryOp .Add) rCat := by
 intro pins s σ H x y v u Q I rx ry h
 obtain ⟨l,b,xs,zs,rfl,rfl,hH,hB,hz,q⟩ := h
 cases rx
 cases ry
 obtain ⟨z,its,n,r,hl,e⟩ := I.lstM hH
 obtain ⟨z2,its2,n2,r2,hl2,e2⟩ := I.lstM hB
 refine PySem.P.add_list e e2 ?_ (by rw [List.size_toArray,List.size_toArray]; omega)
 have ea : its.toArray ++ its2.toArray = (its ++ its2).toArray := by simp
 rw [ea]
 exact ⟨.ref _,_,I.lnew (t' := s.toks) (r.append r2) (by rw [List.length_append]; omega),rfl,q _ I.fresh⟩
noncomputable def rRep : R2 := fun x y H Q => ∃ l k xs,x = .ref l ∧ y = .int k ∧ H l = some (.lst xs) ∧ -(2 ^ 63) ≤ k ∧ k < 2 ^ 63 ∧ xs.length * k.toNat ≤ sizeLine ∧
 ∀ p,H p = none → Q (.ref p) (upd H p (.lst (List.replicate k.toNat xs).flatten))
theorem len_rep {α : Type} (xs : List α) (k : Nat) : (List.replicate k xs).flatten.length = k * xs.length := by
 induction k with
 | zero => simp
 | succ k ih => rw [List.replicate_succ,List.flatten_cons,List.length_append,ih,Nat.succ_mul,Nat.add_comm]
theorem op_rep : OpR X (binaryOp .Mult) rRep := by
 intro pins s σ H x y v u Q I rx ry h
 obtain ⟨l,k,xs,rfl,rfl,hH,h1,h2,hz,q⟩ := h
 cases rx
 obtain ⟨t,rfl⟩ := ry
 obtain ⟨z,its,n,r,hl,e⟩ := I.lstM hH
 have hlen : its.toArray.size * k.toNat ≤ sizeLine := by rw [List.size_toArray,← hl]; exact hz
 have hcap : ¬ its.toArray.size * k.toNat > (2 ^ 63 - 1) / 8 := by
  have : (sizeLine : Nat) ≤ (2 ^ 63 - 1) / 8 := by decide
  omega
 have hfit : ¬ (!Builtin.List.listFitsIndex k) = true := by
  rw [fitsIndex_both h1 h2]
  exact Bool.false_ne_true
 have hlong : ¬ Builtin.List.listTooLong (its.toArray.size * k.toNat) = true := by
  rw [notLongL hlen]
  exact Bool.false_ne_true
 have hnew : List.foldl (fun x1 x2 => x1 ++ x2) #[] (List.replicate (if its.toArray.isEmpty = true then 0 else k.toNat) its.toArray) = (List.replicate k.toNat its).flatten.toArray := by
  have f0 : ∀ m : Nat,List.foldl (fun x1 x2 => x1 ++ x2) #[] (List.replicate m its.toArray) = (List.replicate m its).flatten.toArray := fun m => by
   have := foldl_rep its m []
   rw [List.nil_append] at this
   exact this
  rw [f0]
  cases its with
  | nil => simp
  | cons a r' => rw [if_neg (by simp)]
 refine wpAny_binaryOp_repeat_ref (T := "list") (U := "int") (by decide) ⟨_,e,rfl⟩ (fun s' => typeIs_int s' k t) noFill_list_mul F.fills_int_mul F.slot_int_rmul repeat_list F.slot_int_index.lookup
  (call_meets F.slot_int_rmul (typeIs_int s k t) F.entry_int_rmul (F.args_int_rmul_2 _ _) (int___rmul___int_list k t l its.toArray n)
    ⟨e,rfl,⟨_,e,rfl⟩,call_meets F.slot_list_mul ⟨_,e,rfl⟩ F.entry_list_mul (F.args_list_mul_2 _ _) (AutoListH.list___mul___list_int_3 l its.toArray n k t hfit hcap hlong) ⟨e,?_⟩⟩)
 rw [hnew]
 exact ⟨.ref _,_,I.lnew (t' := s.toks) (r.rep k.toNat) (by rw [len_rep,Nat.mul_comm]; exact hz),rfl,q _ I.fresh⟩
end
section
variable {prog : Program} {w : World} {A : Around} {E : Value → Shared → Prop} {s : Shared}
set_option maxRecDepth 100000 in
end
section
variable {X : Cx}
end
end L2
namespace L2
open PySem PySem.Spec PyProof.Rows
section
variable {κ : Type} [DecidableEq κ]
noncomputable def valV (kvs : List (κ × V)) (k : κ) : Option V := (kvs.find? fun kv => decide (kv.1 = k)).map (·.2)
noncomputable def putK (kvs : List (κ × V)) (k : κ) (v : V) : List (κ × V) :=
 if (kvs.any fun kv => decide (kv.1 = k)) = true then kvs.map (fun kv => if kv.1 = k then (kv.1,v) else kv) else kvs ++ [(k,v)]
noncomputable def dropK (kvs : List (κ × V)) (k : κ) : List (κ × V) := kvs.filter fun kv => decide (kv.1 ≠ k)
theorem valV_nil {k : κ} : valV ([] : List (κ × V)) k = none := rfl
theorem valV_pos {p : κ × V} {r : List (κ × V)} {k : κ} (e : p.1 = k) : valV (p :: r) k = some p.2 := by simp [valV,List.find?_cons,e]
theorem valV_neg {p : κ × V} {r : List (κ × V)} {k : κ} (e : ¬ p.1 = k) : valV (p :: r) k = valV r k := by simp [valV,List.find?_cons,e]
theorem valV_any (k : κ) : ∀ kvs : List (κ × V),(kvs.any fun kv => decide (kv.1 = k)) = (valV kvs k).isSome
 | [] => rfl
 | p :: r => by
  rw [List.any_cons]
  by_cases e : p.1 = k
  · simp only [valV_pos e,decide_eq_true e,Bool.true_or,Option.isSome_some]
  · rw [valV_neg e,decide_eq_false e,Bool.false_or]; exact valV_any k r
theorem valV_map (k j : κ) (y : V) : ∀ kvs : List (κ × V),valV (kvs.map fun kv => if kv.1 = k then (kv.1,y) else kv) j = (valV kvs j).map fun x => if j = k then y else x
 | [] => rfl
 | p :: r => by
  have ih := valV_map k j y r
  rw [List.map_cons]
  by_cases h : p.1 = k
  · rw [if_pos h]
    by_cases e : p.1 = j
    · rw [valV_pos (p := (p.1,y)) e,valV_pos e,Option.map_some,if_pos (e.symm.trans h)]
    · rw [valV_neg (p := (p.1,y)) e,valV_neg e,ih]
  · rw [if_neg h]
    by_cases e : p.1 = j
    · rw [valV_pos (p := p) e,valV_pos e,Option.map_some,if_neg (fun z => h (e.trans z))]
    · rw [valV_neg (p := p) e,valV_neg e,ih]
theorem valV_snoc (k j : κ) (y : V) : ∀ kvs : List (κ × V),valV kvs k = none → valV (kvs ++ [(k,y)]) j = if j = k then some y else valV kvs j
 | [],_ => by
  by_cases e : k = j
  · rw [if_pos e.symm]; exact valV_pos (p := (k,y)) e
  · rw [if_neg (fun z => e z.symm)]; exact valV_neg (p := (k,y)) e
 | p :: r,hn => by
  rw [List.cons_append]
  have hk : ¬ p.1 = k := fun z => by rw [valV_pos z] at hn; cases hn
  rw [valV_neg hk] at hn
  have ih := valV_snoc k j y r hn
  by_cases e : p.1 = j
  · rw [valV_pos e,valV_pos e,if_neg (fun z => hk (e.trans z))]
  · rw [valV_neg e,valV_neg e,ih]
theorem valV_put (kvs : List (κ × V)) (k j : κ) (y : V) : valV (putK kvs k y) j = if j = k then some y else valV kvs j := by
 unfold putK
 by_cases a : (kvs.any fun kv => decide (kv.1 = k)) = true
 · rw [if_pos a,valV_map]
   rw [valV_any] at a
   by_cases e : j = k
   · obtain ⟨x,hx⟩ := Option.isSome_iff_exists.mp a
     rw [if_pos e,e,hx,Option.map_some,if_pos rfl]
   · rw [if_neg e]
     cases valV kvs j with
     | none => rfl
     | some x => rw [Option.map_some,if_neg e]
 · rw [if_neg a]
   refine valV_snoc k j y kvs ?_
   rw [valV_any] at a
   cases q : valV kvs k with
   | none => rfl
   | some x => rw [q] at a; exact (a rfl).elim
theorem length_putK (kvs : List (κ × V)) (k : κ) (v : V) : (putK kvs k v).length ≤ kvs.length + 1 := by
 unfold putK
 split
 · rw [List.length_map]; omega
 · rw [List.length_append,List.length_cons,List.length_nil]; omega
theorem RelO.isSome_eq {o : Option V} {u : Option Value} (r : RelO o u) : o.isSome = u.isSome := by
 cases o with
 | none => cases u with
  | none => rfl
  | some _ => exact (show False from r).elim
 | some _ => cases u with
  | none => exact (show False from r).elim
  | some _ => rfl
theorem RelO.getD {o : Option V} {u : Option Value} {d : V} {d' : Value} (r : RelO o u) (rd : RelV d d') : RelV (o.getD d) (u.getD d') := by
 cases o with
 | none => cases u with
  | none => exact rd
  | some _ => exact (show False from r).elim
 | some _ => cases u with
  | none => exact (show False from r).elim
  | some _ => exact r
theorem KV.val {kvs : List (κ × V)} {vs : List (κ × Value)} (r : KV kvs vs) (k : κ) : RelO (valV kvs k) (valueAt vs k) := by
 unfold KV at r
 induction r with
 | nil => exact True.intro
 | @cons p q ps qs h t ih =>
  obtain ⟨h1,h2⟩ := h
  by_cases e : p.1 = k
  · have e' : q.1 = k := h1.symm.trans e
    have b : valueAt (q :: qs) k = some q.2 := by simp [valueAt,List.find?_cons,e']
    rw [valV_pos e,b]; exact h2
  · have e' : ¬ q.1 = k := fun z => e (h1.trans z)
    have b : valueAt (q :: qs) k = valueAt qs k := by simp [valueAt,List.find?_cons,e']
    rw [valV_neg e,b]; exact ih
theorem KV.any {kvs : List (κ × V)} {vs : List (κ × Value)} (r : KV kvs vs) (k : κ) : (kvs.any fun kv => decide (kv.1 = k)) = vs.any fun kv => decide (kv.1 = k) := by
 unfold KV at r
 induction r with
 | nil => rfl
 | cons h t ih => rw [List.any_cons,List.any_cons,ih,h.1]
theorem KV.repl {kvs : List (κ × V)} {vs : List (κ × Value)} (r : KV kvs vs) (k : κ) {y : V} {u : Value} (ry : RelV y u) :
 KV (kvs.map fun kv => if kv.1 = k then (kv.1,y) else kv) (vs.map fun kv => if kv.1 = k then (kv.1,u) else kv) := by
 unfold KV at r ⊢
 induction r with
 | nil => exact .nil
 | @cons p q ps qs h t ih =>
  rw [List.map_cons,List.map_cons]
  refine .cons ?_ ih
  obtain ⟨h1,h2⟩ := h
  by_cases e : p.1 = k
  · rw [if_pos e,if_pos (h1.symm.trans e)]; exact ⟨h1,ry⟩
  · rw [if_neg e,if_neg (fun z => e (h1.trans z))]; exact ⟨h1,h2⟩
theorem KV.put {kvs : List (κ × V)} {vs : List (κ × Value)} (r : KV kvs vs) (k : κ) {y : V} {u : Value} (ry : RelV y u) : KV (putK kvs k y) (stored vs k u) := by
 unfold putK stored
 rw [r.any k]
 by_cases e : (vs.any fun kv => decide (kv.1 = k)) = true
 · rw [if_pos e,if_pos e]; exact r.repl k ry
 · rw [if_neg e,if_neg e]; exact Paired.snoc r ⟨rfl,ry⟩
theorem KV.drop {kvs : List (κ × V)} {vs : List (κ × Value)} (r : KV kvs vs) (k : κ) : KV (dropK kvs k) (without vs k) := by
 unfold KV at r ⊢
 unfold dropK without
 induction r with
 | nil => exact .nil
 | @cons p q ps qs h t ih =>
  obtain ⟨h1,h2⟩ := h
  rw [List.filter_cons,List.filter_cons]
  by_cases e : p.1 = k
  · have a : ¬ decide (p.1 ≠ k) = true := by simp [e]
    have b : ¬ decide (q.1 ≠ k) = true := by simp [h1.symm.trans e]
    rw [if_neg a,if_neg b]; exact ih
  · have e' : ¬ q.1 = k := fun z => e (h1.trans z)
    have a : decide (p.1 ≠ k) = true := by simp [e]
    have b : decide (q.1 ≠ k) = true := by simp [e']
    rw [if_pos a,if_pos b]; exact .cons ⟨h1,h2⟩ ih
theorem KV.keys {kvs : List (κ × V)} {vs : List (κ × Value)} (r : KV kvs vs) : kvs.map (·.1) = vs.map (·.1) := by
 unfold KV at r
 induction r with
 | nil => rfl
 | cons h t ih => rw [List.map_cons,List.map_cons,ih,h.1]
theorem KV.length {kvs : List (κ × V)} {vs : List (κ × Value)} (r : KV kvs vs) : kvs.length = vs.length := Paired.length r
end
theorem kV_is {P : Program} {w : World} {k : Key} {u : Value} (r : RelV (kV k) u) : (mixKind P w).is k u = true := by
 cases k with
 | inl i => obtain ⟨t,e⟩ := (show ∃ t,u = Value.int i t from r); subst e; exact mixKind_int P w i t
 | inr x => obtain ⟨t,e⟩ := (show ∃ t,u = Value.str x t from r); subst e; exact mixKind_str P w x t
theorem items_are {P : Program} {w : World} : ∀ {ks : List Key} {us : List Value},Vals (ks.map kV) us → ItemsAre (mixKind P w) ks us
 | [],_,r => by rw [List.map_nil] at r; cases r; exact .nil
 | k :: ks,_,r => by
  rw [List.map_cons] at r
  cases r with
  | cons h t => exact .cons (kV_is h) (items_are t)
noncomputable abbrev KT (H : Hp) : List (List Key × V) → List (List Key × Addr × Value) → Prop := Paired fun p q => p.1 = q.1 ∧ H q.2.1 = some (.tup (p.1.map kV)) ∧ RelV p.2 q.2.2
theorem KT.val {H : Hp} {kvs : List (List Key × V)} {xs : List (List Key × Addr × Value)} (r : KT H kvs xs) (k : List Key) : RelO (valV kvs k) ((atKey xs k).map (·.2)) := by
 induction r with
 | nil => exact True.intro
 | @cons p q ps qs h t ih =>
  obtain ⟨h1,_,h2⟩ := h
  by_cases e : p.1 = k
  · have e' : q.1 = k := h1.symm.trans e
    have b : atKey (q :: qs) k = some q.2 := by simp [atKey,List.find?_cons,e']
    rw [valV_pos e,b]; exact h2
  · have e' : ¬ q.1 = k := fun z => e (h1.trans z)
    have b : atKey (q :: qs) k = atKey qs k := by simp [atKey,List.find?_cons,e']
    rw [valV_neg e,b]; exact ih
theorem KT.repl {H : Hp} {kvs : List (List Key × V)} {xs : List (List Key × Addr × Value)} (r : KT H kvs xs) (k : List Key) {y : V} {u : Value} (ry : RelV y u) :
 KT H (kvs.map fun kv => if kv.1 = k then (kv.1,y) else kv) (xs.map (putAt k u)) := by
 induction r with
 | nil => exact .nil
 | @cons p q ps qs h t ih =>
  rw [List.map_cons,List.map_cons]
  refine .cons ?_ ih
  obtain ⟨h1,h2,h3⟩ := h
  unfold putAt
  by_cases e : p.1 = k
  · rw [if_pos e,if_pos (h1.symm.trans e)]; exact ⟨h1,h2,ry⟩
  · rw [if_neg e,if_neg (fun z => e (h1.trans z))]; exact ⟨h1,h2,h3⟩
theorem KT.put {H : Hp} {kvs : List (List Key × V)} {xs : List (List Key × Addr × Value)} (r : KT H kvs xs) (k : List Key) {b : Addr} {y : V} {u : Value} (hb : H b = some (.tup (k.map kV))) (ry : RelV y u) :
 KT H (putK kvs k y) (storedH xs k b u) := by
 have e : (kvs.any fun kv => decide (kv.1 = k)) = (atKey xs k).isSome := by
  rw [valV_any,(r.val k).isSome_eq,Option.isSome_map]
 unfold putK storedH
 rw [e]
 by_cases q : (atKey xs k).isSome = true
 · rw [if_pos q,if_pos q]; exact r.repl k ry
 · rw [if_neg q,if_neg q]; exact Paired.snoc r ⟨rfl,hb,ry⟩
theorem KT.keeps {H H' : Hp} {kvs : List (List Key × V)} {xs : List (List Key × Addr × Value)} (r : KT H kvs xs) (ht : ∀ b ys,H b = some (.tup ys) → H' b = some (.tup ys)) : KT H' kvs xs :=
 Paired.mapP r fun _ _ z => ⟨z.1,ht _ _ z.2.1,z.2.2⟩
section
variable {P : Program} {w : World} {H : Hp} {h : Heap} {a : Addr}
theorem rd_of {u : HO} (ok : HOk P w H h) (e : Rd H a u) : ObjOk P w H h a u := e.ok ok
theorem dk_rd {kvs : List (Key × V)} (ok : HOk P w H h) (e : Rd H a (.dK kvs)) : kvs.length ≤ sizeLine ∧ (a == sysModules) = false ∧ ∃ vs,KV kvs vs ∧ h.DictOf (mixKind P w) a vs :=
 show ObjOk P w H h a (.dK kvs) from rd_of ok e
theorem dk_of {kvs : List (Key × V)} (ok : HOk P w H h) (e : H a = some (.dK kvs)) : kvs.length ≤ sizeLine ∧ (a == sysModules) = false ∧ ∃ vs,KV kvs vs ∧ h.DictOf (mixKind P w) a vs := dk_rd ok (.inl e)
theorem key_of {ks : List Key} (ok : HOk P w H h) (e : H a = some (.tup (ks.map kV))) : (tupleKind (mixKind P w)).is h ks a := by
 obtain ⟨_,its,r,o,h1,h2,n,h3⟩ := (show ObjOk P w H h a (.tup (ks.map kV)) from ok a _ e)
 exact ⟨o,its.toArray,n,h1,h2,h3,by simpa using items_are r⟩
theorem dt_rd {kvs : List (List Key × V)} (ok : HOk P w H h) (e : Rd H a (.dT kvs)) : kvs.length ≤ sizeLine ∧ (a == sysModules) = false ∧
 ∃ xs,KT H kvs xs ∧ h.DictOfH (tupleKind (mixKind P w)) a xs := by
 obtain ⟨z,y,xs,r,o,es,ep,h1,h2,h3,h4,h5⟩ := (show ObjOk P w H h a (.dT kvs) from rd_of ok e)
 refine ⟨z,y,xs,r,o,es,ep,h1,h2,h3,h4,fun x hx => ?_,h5⟩
 have all : ∀ {l : List (List Key × V)} {m : List (List Key × Addr × Value)},KT H l m → ∀ x ∈ m,(tupleKind (mixKind P w)).is h x.1 x.2.1 := by
  intro l m q
  induction q with
  | nil => intro x hx; exact nomatch hx
  | @cons p q ps qs hq t ih =>
   intro x hx
   rcases List.mem_cons.mp hx with e | hx
   · subst e
     exact key_of ok (by rw [← hq.1]; exact hq.2.1)
   · exact ih x hx
 exact all r x hx
theorem dt_of {kvs : List (List Key × V)} (ok : HOk P w H h) (e : H a = some (.dT kvs)) : kvs.length ≤ sizeLine ∧ (a == sysModules) = false ∧
 ∃ xs,KT H kvs xs ∧ h.DictOfH (tupleKind (mixKind P w)) a xs := dt_rd ok (.inl e)
end
noncomputable def DGet (H : Hp) (a : Addr) (y : V) (r : Option V) : Prop :=
 (∃ kvs k,Rd H a (.dK kvs) ∧ y = kV k ∧ r = valV kvs k) ∨ ∃ kvs k b,Rd H a (.dT kvs) ∧ y = .ref b ∧ H b = some (.tup (k.map kV)) ∧ r = valV kvs k
noncomputable def DPut (H : Hp) (a : Addr) (y v : V) (H' : Hp) : Prop :=
 (∃ kvs k,H a = some (.dK kvs) ∧ y = kV k ∧ kvs.length < sizeLine ∧ H' = upd H a (.dK (putK kvs k v))) ∨
 ∃ kvs k b,H a = some (.dT kvs) ∧ y = .ref b ∧ H b = some (.tup (k.map kV)) ∧ kvs.length < sizeLine ∧ H' = upd H a (.dT (putK kvs k v))
theorem DGet.k {H : Hp} {a : Addr} {kvs : List (Key × V)} {k : Key} (e : H a = some (.dK kvs)) : DGet H a (kV k) (valV kvs k) := .inl ⟨kvs,k,.inl e,rfl,rfl⟩
theorem DGet.t {H : Hp} {a b : Addr} {kvs : List (List Key × V)} {k : List Key} (e : H a = some (.dT kvs)) (eb : H b = some (.tup (k.map kV))) : DGet H a (.ref b) (valV kvs k) := .inr ⟨kvs,k,b,.inl e,rfl,eb,rfl⟩
theorem DPut.k {H : Hp} {a : Addr} {kvs : List (Key × V)} {k : Key} {v : V} (e : H a = some (.dK kvs)) (hl : kvs.length < sizeLine) : DPut H a (kV k) v (upd H a (.dK (putK kvs k v))) := .inl ⟨kvs,k,e,rfl,hl,rfl⟩
theorem DPut.t {H : Hp} {a b : Addr} {kvs : List (List Key × V)} {k : List Key} {v : V} (e : H a = some (.dT kvs)) (eb : H b = some (.tup (k.map kV))) (hl : kvs.length < sizeLine) :
 DPut H a (.ref b) v (upd H a (.dT (putK kvs k v))) := .inr ⟨kvs,k,b,e,rfl,eb,hl,rfl⟩
section
variable {X : Cx} {pins : List (Addr × Obj)} {σ : St} {H : Hp} {s : Shared} {a : Addr} {y v : V} {u r : Value} {o : Option V} {A : Around} {E : Value → Shared → Prop}
theorem Inv.big (I : Inv X pins σ H s) : sysModules < s.heap.objs.size := by
 have h : mainGlobals < s.heap.objs.size := (I.mod.glob.keeps I.bk).lt
 exact Nat.lt_trans (by decide) h
theorem d_in {Q : Value → Shared → Prop} (hu : A.units + 1 < cLine) (I : Inv X pins σ H s) (g : DGet H a y o) (ry : RelV y u) (h : ∀ s',Inv X pins σ H s' → Q (.bool o.isSome) s') :
 wpAny (model X.prog X.w) A (compareOp .In u (.ref a)) Q E s := by
 rcases g with ⟨kvs,k,e,ey,l⟩ | ⟨kvs,k,b,e,ey,eb,l⟩
 · subst ey
   obtain ⟨z,hd,vs,rel,dd⟩ := dk_rd I.hok e
   refine wpAny_in_of (kV_is ry) hd dd.mapOf ?_
   rw [← (rel.val k).isSome_eq,← l]
   exact h _ (I.tok _)
 · subst ey
   cases (show u = Value.ref b from ry)
   obtain ⟨z,hd,xs,rel,dd⟩ := dt_rd I.hok e
   refine wpAny_in_heap (tupleKind_room_in1 hu) (key_of I.hok eb) hd dd ?_
   have q := (rel.val k).isSome_eq
   rw [Option.isSome_map] at q
   rw [← q,← l]
   exact h _ (I.tok _)
theorem d_write {h' : Heap} {t' : Nat} {ob : HO} (I : Inv X pins σ H s) (mu : Mut (H a)) (hs : Heap.SameBut a s.heap h') (he : ∃ q,h'.get? a = some q) (new : ObjOk X.prog X.w (upd H a ob) h' a ob) :
 Inv X pins σ (upd H a ob) { s with heap := h',toks := t' } :=
 I.write (x := a) (e := a) mu (.inl rfl) (fun b q hb z => (hs.2 b hb).trans z) he new
theorem dk_new {P : Program} {w : World} {H' : Hp} {h' : Heap} {kvs : List (Key × V)} {vs : List (Key × Value)} (z : kvs.length ≤ sizeLine) (hd : (a == sysModules) = false) (rel : KV kvs vs) (dd : h'.DictOf (mixKind P w) a vs) :
 ObjOk P w H' h' a (.dK kvs) := ⟨z,hd,vs,rel,dd⟩
theorem d_setItem {H' : Hp} {Q : Unit → Shared → Prop} (hu : A.units + 1 < cLine) (I : Inv X pins σ H s) (g : DPut H a y v H') (ry : RelV y u) (rv : RelV v r) (h : ∀ s',Inv X pins σ H' s' → Q () s') :
 wpAny (model X.prog X.w) A (setItem (.ref a) u r) Q E s := by
 rcases g with ⟨kvs,k,e,ey,l,eH⟩ | ⟨kvs,k,b,e,ey,eb,l,eH⟩
 · subst ey eH
   obtain ⟨z,hd,vs,rel,dd⟩ := dk_of I.hok e
   have hz : vs.length ≤ sizeLine := by rw [← rel.length]; exact z
   have hl : (putK kvs k v).length ≤ sizeLine := by have := length_putK kvs k v; omega
   refine wpAny_setItem_pairs (hsz := hz) (kV_is ry) dd fun h' dd' hs => h _ ?_
   have he : ∃ q,h'.get? a = some q := let ⟨q,_,_,hq,_⟩ := dd'; ⟨q,hq⟩
   exact d_write I (by rw [e]; exact True.intro) hs he (dk_new hl hd (rel.put k rv) dd')
 · subst ey eH
   cases (show u = Value.ref b from ry)
   obtain ⟨z,hd,xs,rel,dd⟩ := dt_of I.hok e
   have hz : xs.length ≤ sizeLine := by rw [← Paired.length rel]; exact z
   have hl : (putK kvs k v).length ≤ sizeLine := by have := length_putK kvs k v; omega
   refine wpAny_setItem_heap (hsz := hz) (tupleKind_room_in1 hu) (key_of I.hok eb) dd fun h' dd' hs => h _ ?_
   obtain ⟨q,es,ep,hq,h2,h3,h4,_,h5⟩ := dd'
   refine d_write I (by rw [e]; exact True.intro) hs ⟨q,hq⟩ ⟨hl,hd,_,(rel.put k eb rv).keeps fun c ys ec => ?_,q,es,ep,hq,h2,h3,h4,h5⟩
   rw [upd_ne (ne_of ec e (fun z => nomatch z))]
   exact ec
end
section
variable {X : Cx} {pins : List (Addr × Obj)} {σ : St} {H : Hp} {s : Shared} {a : Addr} {kvs : List (Key × V)} {k : Key} {u : Value} {A : Around} {E : Value → Shared → Prop}
end
noncomputable def NoSl (i : Expr) : Prop := ∀ ov iv,subscripted i false ov iv = operate [ov,iv] (getItem ov iv)
theorem subD_of {prog : Program} {w : World} {A : Around} {E : Value → Shared → Prop} {s : Shared} {env : Env} {value slice : Expr} {pos : Pos} {T id : String} {Q : Value → Shared → Prop}
 (hl : typeLookup (.type T) "__getitem__" = pure (some (.builtin id))) (hs : NoSl slice)
 (h : wpAny (model prog w) A (eval value env) (fun o s₁ => wpAny (model prog w) A (eval slice env) (fun i s₂ => s₂.TypeIs o T ∧ wpAny (model prog w) A (getItem o i) Q E s₂) E s₁) E s) :
 wpAny (model prog w) A (eval (.Subscript value slice pos) env) Q E s := by
 refine Subscript_ (wpAny_mono h (fun o s₁ h₁ => wpAny_mono h₁ (fun i s₂ h₂ => ?_) fun _ _ x => x) fun _ _ x => x)
 obtain ⟨hT,h₂⟩ := h₂
 unfold subscriptTail
 refine wpAny_bind ?_
 rw [getitemInPython_of_ne hT.not_modules]
 refine wpAny_bind (wpAny_specialOf hT hl ?_)
 have fin : wpAny (model prog w) A (subscripted slice false o i) (fun r s₃ => wpAny (model prog w) A (letTemporaryGo value o r >>= fun _ => pure r) Q E s₃) E s₂ := by
  rw [hs o i]
  exact wpAny_operating (wpAny_mono h₂ (fun r s₃ h₃ => wpAny_bind (wpAny_letTemporaryGo (wpAny_pure h₃))) fun _ _ x => x)
 first
  | exact wpAny_pure (wpAny_bind fin)
  | exact wpAny_bind (wpAny_pure (wpAny_bind fin))
  | exact wpAny_bind fin
noncomputable def tDIn (ty td : TE) : TE := fun σ H Q => ty σ H fun y H1 => td σ H1 fun x H2 => ∃ a o,x = .ref a ∧ DGet H2 a y o ∧ Q (.bl o.isSome) H2
noncomputable def sDPut (td ty tv : TE) : TS := fun D σ H => tv σ H fun v H1 => td σ H1 fun x H2 => ty σ H2 fun y H3 => ∃ a H4,x = .ref a ∧ DPut H3 a y v H4 ∧ D.nx σ H4
section
variable {X : Cx} {o i e value : Expr} {pos pos' tpos : Pos} {td ty tv : TE}
theorem pc_din (hu : X.A.units + 1 < cLine) (hi : PE X i ty) (ho : PE X o td) : PC X .In i o (tDIn ty td) := by
 intro pins s σ H Q I h
 refine thn (hi pins s σ H _ I h) fun iv s1 ⟨y,H1,I1,ry,q1⟩ => thn (ho pins s1 σ H1 _ I1 q1) fun u s2 ⟨x,H2,I2,rx,a,ov,ex,g,q2⟩ => ?_
 subst ex
 obtain rfl : u = Value.ref a := rx
 exact d_in hu I2 g ry fun s3 I3 => ⟨.bl ov.isSome,H2,I3,rfl,q2⟩
theorem ps_dput (hu : X.A.units + 1 < cLine) (ho : PE X o td) (hi : PE X i ty) (hv : PE X value tv) (hs : swapsWith value (some (.Subscript o i pos')) pos.line X.env = pure false) :
 PS X (.Assign [.Subscript o i pos'] value pos) (sDPut td ty tv) := by
 intro pins s σ H D I h
 refine wpAny_Assign_Subscript (thn (hv pins s σ H _ I h) fun r s1 ⟨v,H1,I1,rv,q1⟩ => thn (ho pins s1 σ H1 _ I1 q1) fun u s2 ⟨x,H2,I2,rx,q2⟩ => thn (hi pins s2 σ H2 _ I2 q2) fun iv s3 ⟨y,H3,I3,ry,a,H4,ex,g,q3⟩ => ?_) hs
 subst ex
 obtain rfl : u = Value.ref a := rx
 exact d_setItem hu I3 g ry rv fun s4 I4 => ⟨σ,H4,I4,q3⟩
end
theorem dk_empty {P : Program} {w : World} {H : Hp} (h : Heap) (hb : sysModules < h.objs.size) : ObjOk P w H (h.push { cls := .type "dict",data := .dict #[] }) h.objs.size (.dK []) :=
 ⟨Nat.zero_le _,beq_eq_false_iff_ne.mpr (Ne.symm (Nat.ne_of_lt hb)),[],.nil,Heap.DictOf.new h⟩
noncomputable def tDNewK : TE := fun _ H Q => ∀ p,H p = none → Q (.ref p) (upd H p (.dK []))
section
variable {X : Cx} {pos : Pos}
theorem pe_dnewK : PE X (.Dict [] [] pos) tDNewK := fun pins s σ H Q I h =>
 wpAny_Dict_empty ⟨.ref s.heap.objs.size,_,I.laid (a := s.heap.objs.size) (o := .dK []) (t' := s.toks) (fun _ _ q => Heap.get?_push_of_some _ q) (Nat.le_refl _) (dk_empty s.heap I.big),rfl,h _ (I.hok.fresh (Nat.le_refl _))⟩
end
noncomputable def mergeK (kvs more : List (Key × V)) : List (Key × V) := more.foldl (fun acc kv => putK acc kv.1 kv.2) kvs
theorem KV.merge : ∀ {more : List (Key × V)} {rs : List (Key × Value)} {kvs : List (Key × V)} {vs : List (Key × Value)},KV more rs → KV kvs vs → KV (mergeK kvs more) (merged vs rs) := by
 intro more rs kvs vs r
 unfold KV at r
 induction r generalizing kvs vs with
 | nil => intro q; exact q
 | @cons p q ps qs h t ih =>
  intro r0
  have e : KV (putK kvs p.1 p.2) (stored vs q.1 q.2) := by
   have := r0.put p.1 h.2
   rw [← h.1]; exact this
  exact ih e
structure M1 (X : Cx) (o : Expr) (m : Str) (apos : Pos) (e : Expr) (cpos : Pos) : Prop where
 base : attributeBase o m X.env (eval o X.env) = eval o X.env
 few : ((backTo cpos (starEach [e] X.env)).all (fun x => !x.1) && (backToKw cpos (keywordEach [] X.env)).all (fun x => x.1.isSome)
  && decide (([e] : List Expr).length + ([] : List Keyword).length + (if ([] : List Keyword).isEmpty then 0 else 1) < 30)) = true
 line : (apos.endLine == cpos.line) = true
 trees : backTo cpos (starEach [e] X.env) = [(false,eval e X.env)]
structure M2 (X : Cx) (o : Expr) (m : Str) (apos : Pos) (e f : Expr) (cpos : Pos) : Prop where
 base : attributeBase o m X.env (eval o X.env) = eval o X.env
 few : ((backTo cpos (starEach [e,f] X.env)).all (fun x => !x.1) && (backToKw cpos (keywordEach [] X.env)).all (fun x => x.1.isSome)
  && decide (([e,f] : List Expr).length + ([] : List Keyword).length + (if ([] : List Keyword).isEmpty then 0 else 1) < 30)) = true
 line : (apos.endLine == cpos.line) = true
 trees : backTo cpos (starEach [e,f] X.env) = [(false,eval e X.env),(false,eval f X.env)]
section
variable {X : Cx} {pins : List (Addr × Obj)} {σ : St} {H : Hp} {s : Shared} {a : Addr} {y d : V} {u r : Value} {o : Option V} {A : Around} {E : Value → Shared → Prop}
end
section
variable {X : Cx} {o e f : Expr} {apos cpos : Pos} {td ty tx : TE}
end
section
variable {X : Cx} {pins : List (Addr × Obj)} {σ : St} {H : Hp} {s : Shared} {a : Addr} {kvs : List (Key × V)} {A : Around} {E : Value → Shared → Prop}
end
section
variable {X : Cx} {pins : List (Addr × Obj)} {σ : St} {H : Hp} {s : Shared} {a : Addr} {y : V} {u : Value} {A : Around} {E : Value → Shared → Prop}
end
end L2
namespace Att
open PySem PySem.W PySem.Calls PyProof.Rows
theorem ints_of_wellAll {P : Params} {h : Heap} : ∀ (ns : List Int) (vs : List Value),WellAll P h vs (ns.map WData.int) → IntsAre vs ns := by
 intro ns
 induction ns with
 | nil =>
  intro vs w
  rw [List.map_nil] at w
  cases w
  exact .nil
 | cons n ns ih =>
  intro vs w
  rw [List.map_cons] at w
  cases w with
  | cons a b =>
   cases a
   exact .cons _ _ (ih _ b)
theorem script_of {l : OpenLaw} {n : Nat} (hn : l.most = some n) {P : Params} {h : Heap} {args : List WData} {vals : List Value}
 (hpre : l.row.toRowW.claim.pre args = true) (hwl : WellAll P h vals args) :
 ∃ a vs ns,vals = [Value.ref a] ∧ args = [WData.list (ns.map WData.int)] ∧ h.get? a = some { cls := .type "list",data := .seq vs.toArray } ∧ IntsAre vs ns ∧ ns.length ≤ n := by
 have hsh : WShape.hasAll [] args [.list .int] = true := (pre_splitW hpre).1
 have hc : l.pre.holds [] { args := args } = true := (pre_splitW hpre).2
 obtain ⟨d,r,rfl,h1,h2⟩ := hasAllW_cons hsh
 obtain rfl := hasAllW_nil h2
 obtain ⟨xs,rfl,h3⟩ := hasW_list h1
 obtain ⟨ns,rfl⟩ := items_int h3
 have hlen : ns.length ≤ n := by
  unfold OpenLaw.pre at hc
  have h4 : (WTm.not (.lt (.lit (.int (n : Int))) (.len (.arg 0)))).holds [] { args := [.list (ns.map .int)] } = true := by
   have h4 := (holds_andW hc).1
   rw [hn] at h4
   exact h4
  have h5 := condW_of h4 (w_not (w_lt w_lit (w_len_list (w_arg rfl))))
  rw [List.length_map] at h5
  refine Nat.le_of_not_lt fun q => ?_
  have q' : (n : Int) < ((ns.length : Nat) : Int) := by omega
  first
   | (rw [decide_eq_true q'] at h5; exact absurd h5 (by decide))
   | (simp at h5; omega)
 cases hwl with
 | cons w1 w2 =>
  cases w2
  cases w1 with
  | list ho hall => exact ⟨_,_,ns,rfl,rfl,ho,ints_of_wellAll ns _ hall,hlen⟩
theorem post_true (l : OpenLaw) (args : List WData) : l.row.toRowW.claim.post args (.bool true) args = true :=
 postW_of (r := l.row.toRowW) (X := (true == true))
  (show WShape.has [] (.bool true) .bool = true by first | rfl | decide | simp [WShape.has,WShape.arms,WShape.armsAll])
  (show (WTm.eq .res (.lit (.bool true))).value [] { args := args,res := some (.bool true),after := args } = some (.bool (true == true)) from w_eq_bool (w_res rfl) w_lit) rfl
theorem attach_call {l : OpenLaw} {n : Nat} {q : Program} {loose : List Str} {XP : (Str → Option Value) → Heap → Prop} {YP : World → Heap → Prop} {d : DefRec}
 (hn : l.most = some n) (hdf : d.params.defaults = [])
 (call : ∀ (w : World) (s₀ s₁ : Shared) (mg mb : Str → Option Value) (fa : Addr) (o : Obj) (pm cd doc : Value) (a : Addr) (vs : List Value) (ns : List Int),
   Ground q loose [] XP w s₀ mg mb s₁.heap → YP w s₁.heap →
   s₁.heap.get? fa = some o → o.data = .func (docDef d.name d.params d.body d.scope pm cd doc) → s₁.heap.CodeRec cd d.name → mg d.name = some (.ref fa) →
   s₁.heap.get? a = some { cls := .type "list",data := .seq vs.toArray } → IntsAre vs ns → ns.length ≤ n → s₁.gens = #[] →
   codeAny (model l.prog w) callerA (.call (.ref fa) ⟨[.ref a],[]⟩) (fun r s' => r = .ok (.ret (.bool true)) ∧ OldK s₁.heap s'.heap ∧ s'.os = s₁.os ∧ AllBare s'.gens) s₁) :
 WalkO q loose XP YP l.row.toRowW d [] (fun f vs => PySem.call f vs) := by
 intro w s₀ s₁ mg mb G Y fa o pm cd doc dV kV ho hd hcd hD hmg hg args vals as hpre hlay hrd hwl hlo
 obtain rfl : dV = .none := Dflts.none hD hdf
 obtain rfl : kV = .none := Dflts.noKw hD
 obtain ⟨a,vs,ns,rfl,rfl,hobj,hints,hlen⟩ := script_of hn hpre hwl
 refine enter_call (codeAny_mono (call w s₀ s₁ mg mb fa o pm cd doc a vs ns G Y ho (fd_plain hd) hcd hmg hobj hints hlen hg) fun r s' hq => ?_)
 obtain ⟨rfl,h2,h3,h4⟩ := hq
 exact ⟨.inl ⟨.bool true,.bool true,[],rfl,fun _ => rfl,.bool true,post_true l _,fun _ => ⟨List.Pairwise.nil,fun _ hm => (nomatch hm)⟩⟩,h2,h3,h4⟩
section
variable {prog : Program} {w : World} {A : Around} {E : Value → Shared → Prop} {s : Shared} {K : Frag}
noncomputable def ledger (h : Heap) (L d : Addr) : List (Addr × Obj) := (List.range h.objs.size).filterMap fun a => if a = L ∨ a = d then none else (h.get? a).map fun o => (a,o)
end
end Att
namespace L2
open PySem PySem.Spec PyProof.Rows
theorem vals_ints : ∀ {vs : List Value} {ns : List Int},IntsAre vs ns → Vals (ns.map V.int) vs
 | _,_,.nil => .nil
 | _,_,.cons n t h => .cons ⟨t,rfl⟩ (vals_ints h)
noncomputable def Only (H : Hp) : Prop := ∀ b,H b = none ∨ ∃ o xs,H b = some (.frz o (.lst xs))
theorem law_call {P : Program} {w : World} {K : PySem.W.Frag} {mg mb : Str → Option Value} {CX : CXT} {k : Nat} {fa a : Addr} {fd : FuncData} {x : Str} {sp : Sp} {s₁ : Shared} {vs : List Value} {ns : List Int}
 (KX : K.In s₁.heap) (hns : s₁.heap.Ns mainGlobals mg) (hb : s₁.heap.Ns builtinsNs mb) (hbb : ∀ x : Str,x ≠ "__name__" → mb x = bootBuiltins x) (hlim : s₁.heap.NoLimit) (hg : s₁.gens = #[])
 (ha : s₁.heap.get? a = some { cls := .type "list",data := .seq vs.toArray }) (hi : IntsAre vs ns) (hl : ns.length ≤ sizeLine) (hr : Room k callerA)
 (F : ∀ base : Heap,K.In base → base.Ns mainGlobals mg → FnOk P w K mg base CX k fa fd [x] sp) (hbind : ∀ (s : Shared) (u : Value),BindsTo s fd ⟨[u],[]⟩ [(x,u)])
 (hsp : ∀ H : Hp,Only H → SqL K H a (ns.map V.int) → sp [.ref a] H (fun v _ => v = .bl true) fun _ _ _ => False)
 (hCX : ∀ H e s',CX [] H s₁ (fun _ _ _ => False) e s' → False) :
 codeAny (model P w) callerA (.call (.ref fa) ⟨[.ref a],[]⟩) (fun r s' => r = .ok (.ret (.bool true)) ∧ OldK s₁.heap s'.heap ∧ s'.os = s₁.os ∧ AllBare s'.gens) s₁ := by
 have rv := vals_ints hi
 have lenV := hi.length
 have core : ∀ H : Hp,Only H → SqL K H a (ns.map V.int) → HOk P w H s₁.heap → (∀ b,H b ≠ none → b = a) → (H a ≠ none → K.lookup a = none) →
  codeAny (model P w) callerA (.call (.ref fa) ⟨[.ref a],[]⟩) (fun r s' => r = .ok (.ret (.bool true)) ∧ OldK s₁.heap s'.heap ∧ s'.os = s₁.os ∧ AllBare s'.gens) s₁ := by
  intro H hO hS hok hA hK
  have base_of : ∀ {b : Addr} {o : Obj},s₁.heap.get? b = some o → H b = none → (hidT s₁.heap H).get? b = some o := fun e n => hidT_get e n
  have noA : ∀ {b : Addr} {o : Obj} {es : Array DictEntry} {ep : Nat},s₁.heap.get? b = some o → o.data = .dict es ep → H b = none := fun {b o es ep} e d => by
   cases q : H b with
   | none => rfl
   | some u =>
    have e' : b = a := hA b (by rw [q]; simp)
    subst e'
    rw [ha] at e; cases e
    have d' : Data.seq vs.toArray _ = Data.dict es ep := d
    cases d'
  have nsK : ∀ {b : Addr} {m : Str → Option Value},s₁.heap.Ns b m → (hidT s₁.heap H).Ns b m := fun {b m} ⟨o,es,ep,e,d,r⟩ => ⟨o,es,ep,base_of e (noA e d),d,r⟩
  have hKb : K.In (hidT s₁.heap H) := fun b o e => base_of (KX b o e) (by
   cases q : H b with
   | none => rfl
   | some u =>
    have e' : b = a := hA b (by rw [q]; simp)
    subst e'
    rw [hK (by rw [q]; simp)] at e; cases e)
  have hM : Mod K mg (hidT s₁.heap H) := ⟨hKb,nsK hns,⟨mb,nsK hb,hbb⟩,let ⟨mc,h1,h2⟩ := hlim; ⟨mc,nsK h1,h2⟩⟩
  have e0 : Env0 P w K mg (hidT s₁.heap H) callerA [] s₁ H := ⟨rfl,hM,fun b o e => of_hidT e,Nat.le_of_eq (hidT_size _ _),trivial,fun b hb => absurd (show b ∈ ([] : List Addr) from hb) (by simp),hok,.of_eq hg⟩
  refine codeAny_mono ((F _ hKb (nsK hns)).run callerA [] s₁ H ⟨[.ref a],[]⟩ [.ref a] [.ref a] _ _ hr e0 (hbind s₁ (.ref a)) (.cons rfl .nil) (hsp H hO hS)) fun r s' h => ?_
  cases r with
  | error e => exact (hCX H e s' h).elim
  | ok fl =>
   cases fl with
   | next => exact False.elim h
   | brk => exact False.elim h
   | cont => exact False.elim h
   | ret u =>
    obtain ⟨v,H',os,bare,un,hok',r',q⟩ := h
    have q' : v = .bl true := q
    subst q'
    obtain rfl : u = Value.bool true := r'
    refine ⟨rfl,OldK.of_keep fun b o e => ?_,os,bare⟩
    cases q : H b with
    | none => exact un.keep b o e q (by intro z; exact absurd (show b ∈ ([] : List Addr) from z) (by simp)) (by simp)
    | some u =>
     rcases hO b with z | ⟨ob,xs,z⟩
     · rw [q] at z; cases z
     · have z2 := un.frzs b ob _ z
       obtain ⟨e1,_⟩ := hok b _ z
       obtain ⟨e2,_⟩ := hok' b _ z2
       rw [e] at e1; cases e1
       exact e2
 cases hk : K.lookup a with
 | some o =>
  have e := KX a o hk
  rw [ha] at e
  cases e
  refine core (fun _ => none) (fun _ => .inl rfl) (.inr ⟨_,vs.toArray,_,hk,rfl,rfl,rfl,by rw [List.size_toArray,lenV]; exact hl,by simpa using rv⟩) (fun b u z => by have z' : (none : Option HO) = some u := z; cases z') (fun b z => absurd rfl z) fun z => absurd rfl z
 | none =>
  refine core (fun b => if b = a then some (.frz { cls := .type "list",data := .seq vs.toArray } (.lst (ns.map V.int))) else none) (fun b => ?_) (.inl (.inr ⟨{ cls := .type "list",data := .seq vs.toArray },if_pos rfl⟩)) (fun b u z => ?_) (fun b z => ?_) fun _ => hk
  · by_cases hb : b = a
    · exact .inr ⟨_,_,if_pos hb⟩
    · exact .inl (if_neg hb)
  · by_cases hb : b = a
    · have z' := (if_pos hb).symm.trans z
      cases z'
      subst hb
      exact ⟨ha,by rw [List.length_map]; exact hl,vs,_,rv,ha⟩
    · have z' := (if_neg hb).symm.trans z
      cases z'
  · by_cases hb : b = a
    · exact hb
    · exact absurd (if_neg hb) z
end L2
namespace L2
open PySem PySem.Spec PyProof.Rows
noncomputable abbrev KOf {K : PySem.W.Frag} {h : Heap} (_ : K.In h) : PySem.W.Frag := K
theorem walk_of {l : PySem.W.OpenLaw} {n k : Nat} {q : Program} {loose : List Str} {XP : (Str → Option Value) → Heap → Prop} {YP : World → Heap → Prop} {d : DefRec} {K : Params → PySem.W.Frag} {CX : World → CXT} {sp : World → Sp} {x : Str}
 (hn : l.most = some n) (hn2 : n ≤ sizeLine) (hdf : d.params.defaults = []) (hr : Room k callerA)
 (hY : ∀ (w : World) (h : Heap),YP w h → (K w.params).In h)
 (F : ∀ (w : World) (mg : Str → Option Value) (fa : Addr) (h : Heap),(K w.params).In h → h.Ns mainGlobals mg → mg d.name = some (.ref fa) →
   ∃ fd : FuncData,(∀ (s : Shared) (u : Value),BindsTo s fd ⟨[u],[]⟩ [(x,u)]) ∧
    ∀ base : Heap,(K w.params).In base → base.Ns mainGlobals mg → FnOk l.prog w (K w.params) mg base (CX w) k fa fd [x] (sp w))
 (hsp : ∀ (w : World) (H : Hp) (a : Addr) (ns : List Int),ns.length ≤ n → Only H → SqL (K w.params) H a (ns.map V.int) → sp w [.ref a] H (fun v _ => v = .bl true) fun _ _ _ => False)
 (hCX : ∀ (w : World) (H : Hp) (s : Shared) (e : Value) (s' : Shared),CX w [] H s (fun _ _ _ => False) e s' → False) :
 PySem.W.WalkO q loose XP YP l.row.toRowW d [] (fun f vs => PySem.call f vs) := by
 refine Att.attach_call hn hdf fun w s₀ s₁ mg mb fa o pm cd doc a vs ns G Y ho hd hcd hmg hobj hints hlen hg => ?_
 have KX := hY w _ Y
 obtain ⟨fd,hb,hF⟩ := F w mg fa _ KX G.T.g hmg
 exact law_call KX G.T.g G.T.b G.T.builtins G.T.nolimit hg hobj hints (Nat.le_trans hlen hn2) hr hF hb (fun H hO hS => hsp w H a ns hlen hO hS) fun H e s' => hCX w H s₁ e s'
end L2
/- THE LAST THEOREM (shape; LID,My.* are yours):
 My.Adr: a structure of the addresses that your layer names (classes,functions); My.Txt K t: a structure (Prop) of the equations over K;
 My.txt_mk : {K} {implicit addresses ..} (e1 : nsIn K mainGlobals "law" = some (some (.ref f))) (e2 : K.lookup f = some ⟨oc,od,.func (fnOf "law" "law" params body scope dV kV doc pm an cdv ct),sl⟩) (e3 : codeIn K cdv "law" = true) .. : ∃ t,My.Txt K t
set_option maxRecDepth 100000 in
set_option maxHeartbeats 0 in
theorem PySem.Challenge.cw_LID_holds : PySem.Challenge.rw_LID.Holds := by
 w_on; o_law; k_head; (case hw => w_witness2)
 k_fill
 refine L2.walk_of (l := PySem.Challenge.rw_LID) (n := 63) (k := 40) (x := "script") (CX := fun w => ..) (sp := fun _ => My.sp_law) rfl (by decide) rfl ⟨rfl,by decide,by decide⟩ (fun w h Y => PySem.W.kIn_of Y) ?F ?S ?C
 case F =>
  intro w mg fa h KX G hmg
  have T : ∃ t,My.Txt (L2.KOf KX) t := by
   dsimp only [L2.KOf]                          -- K must stand as «<heap const> w.params» for k_is
   refine' My.txt_mk ?e1 ?e2 ?e3 ..
   (case e1 => PySem.W.k_is)                    -- in the order: a name -> its address -> its object -> its parts
   (case e2 => PySem.W.k_is)
   ..
  obtain ⟨t,T⟩ := T
  have e0 := hmg.symm.trans (PySem.W.mg_of KX G T.law)
  cases e0                                       -- fa is the law's own address
  exact ⟨_,fun s u => .of_eq rfl,fun base kb nb => My.law_fn T kb nb⟩     -- if «.of_eq rfl» comes too early: refine' ⟨_,?b,fun base kb nb => My.law_fn T kb nb⟩; exact fun s u => .of_eq rfl
 case S => exact fun w H a ns hl hO hS => ..
 case C => exact ..
(the tactic k_is has no namespace: write k_is) -/
namespace L2
open PySem PySem.Spec PyProof.Rows
noncomputable def defArgs (s : Stmt) : Arguments := match s with
 | .FunctionDef _ a _ _ _ _ _ _ _ _ => a
 | _ => { posonlyargs := [],args := [],vararg := none,kwonlyargs := [],kw_defaults := [],kwarg := none,defaults := [] }
noncomputable def defBody (s : Stmt) : List Stmt := match s with
 | .FunctionDef _ _ b _ _ _ _ _ _ _ => b
 | _ => []
noncomputable def defScope (s : Stmt) : Scope := match s with
 | .FunctionDef _ _ _ _ _ _ sc _ _ _ => sc
 | _ => { kind := .function,names := [],isGenerator := false,isCoroutine := false }
noncomputable abbrev CX0 : CXT := fun _ _ _ _ _ _ => False
noncomputable abbrev E0 : XK := fun _ _ _ => False
theorem pass0 {X : Cx} : Passes CX0 X E0 := fun _ _ _ _ _ _ _ h => h.elim
structure Fun (K : PySem.W.Frag) (x qual : Str) (st : Stmt) (f : Addr) (fd : FuncData) : Prop where
 ex : ∃ (oc : Value) (od : Option Addr) (kV doc pm : Value) (an : Option Addr) (cdv ct : Value) (osl : Array (Option Value)),
  fd = PySem.W.fnOf x qual (defArgs st) (defBody st) (defScope st) .none kV doc pm an cdv ct ∧ K.lookup f = some ⟨oc,od,.func fd,osl⟩ ∧ PySem.W.codeIn K cdv qual = true
 kp : PySem.W.keepIn K (.ref f) = true
section
variable {P : Program} {w : World} {K : PySem.W.Frag} {mg : Str → Option Value} {base : Heap}
theorem Fun.ok {x qual : Str} {st : Stmt} {f : Addr} {fd : FuncData} {N ps : List Str} {k : Nat} {sp : Sp} (F : Fun K x qual st f fd) (S : FnScope N ps (defScope st)) (len : ∀ vs H Q E,sp vs H Q E → vs.length = ps.length)
 (hbody : ∀ (cdv : Value) (A : Around) (outer : List Env) (s : Shared) (H : Hp) (vs : List V) (Q : VK) (E : XK),Room k (A.deeper (envOfC qual (defScope st) s.heap.objs.size f cdv)) → sp vs H Q E →
   ∃ t,PSs (cxOf CX0 P w K mg base N qual (defScope st) f cdv A outer s H E).nox (defBody st) t ∧ t { nx := fun _ H' => Q .non H',rt := Q } (start N vs) H) : FnOk P w K mg base CX0 (k + 1) f fd ps sp := by
 obtain ⟨oc,od,kV,doc,pm,an,cdv,ct,osl,rfl,lk,hcd⟩ := F.ex
 refine fn_of lk hcd S len fun A outer s H vs Q E hr hsp => ?_
 obtain ⟨t,h,q⟩ := hbody cdv A outer s H vs Q E hr hsp
 exact ⟨t,h.nox,q⟩
theorem Fun.binds {x qual : Str} {st : Stmt} {f : Addr} {fd : FuncData} {ps : List Str} (F : Fun K x qual st f fd)
 (h : ∀ (kV doc pm : Value) (an : Option Addr) (cdv ct : Value) (us : List Value),us.length = ps.length → bindArgs (PySem.W.fnOf x qual (defArgs st) (defBody st) (defScope st) .none kV doc pm an cdv ct) ⟨us,[]⟩ = pure (ps.zip us)) : Binds K fd ps [] := by
 obtain ⟨oc,od,kV,doc,pm,an,cdv,ct,osl,rfl,lk,hcd⟩ := F.ex
 exact .all (h kV doc pm an cdv ct)
theorem fun_mk {x qual : Str} {st : Stmt} {f : Addr} {oc : Value} {od an : Option Addr} {osl : Array (Option Value)} {kV doc pm cdv ct : Value} (l : K.lookup f = some ⟨oc,od,.func (PySem.W.fnOf x qual (defArgs st) (defBody st) (defScope st) .none kV doc pm an cdv ct),osl⟩)
 (c : PySem.W.codeIn K cdv qual = true) (k : PySem.W.keepIn K (.ref f) = true) : Fun K x qual st f (PySem.W.fnOf x qual (defArgs st) (defBody st) (defScope st) .none kV doc pm an cdv ct) := ⟨⟨oc,od,kV,doc,pm,an,cdv,ct,osl,rfl,l,c⟩,k⟩
end
theorem hu_of {A : Around} {k : Nat} (hr : Room k A) : A.units + 1 < cLine := Nat.lt_of_le_of_lt (Nat.add_le_add_left (by decide : 1 ≤ 64) _) hr.units
section
variable {X : Cx}
theorem pv (i : Nat) {x : Str} {pos : Pos} (hN : X.N[i]? = some x := by rfl) (hv : Vis X.env.scope x := by first | exact Or.inl rfl | exact Or.inr (Or.inl rfl) | exact Or.inr (Or.inr rfl)) (hd : (x == ("__debug__" : Str)) = false := by decide)
 (hcd : (x == ("__classdict__" : Str)) = false := by decide) : PE X (.Name x pos) (tVar i) := pe_var hN hv hd hcd
end
theorem iteF {A B : Prop} (h : B) : if false = true then A else B := by
 rw [if_neg Bool.false_ne_true]
 exact h
theorem iteT {A B : Prop} (h : A) : if true = true then A else B := by
 rw [if_pos rfl]
 exact h
theorem ite2 {c A B : Prop} [Decidable c] (h1 : c → A) (h2 : ¬ c → B) : if c then A else B := by
 by_cases h : c
 · rw [if_pos h]
   exact h1 h
 · rw [if_neg h]
   exact h2 h
noncomputable def Same (H H' : Hp) : Prop := ∀ b o,H b = some o → H' b = some o
theorem Same.refl (H : Hp) : Same H H := fun _ _ h => h
theorem Same.trans {H H1 H2 : Hp} (a : Same H H1) (b : Same H1 H2) : Same H H2 := fun c o h => b c o (a c o h)
theorem Same.free {H H' : Hp} (e : Same H H') {l : Addr} (h : H' l = Option.none) : H l = Option.none := by
 cases q : H l with
 | none => rfl
 | some o =>
  rw [e l o q] at h
  cases h
theorem Same.seq {K : PySem.W.Frag} {H H' : Hp} {a : Addr} {xs : List V} (e : Same H H') (h : SqL K H a xs) : SqL K H' a xs := by
 rcases h with (h | ⟨o,h⟩) | h
 · exact .inl (.inl (e _ _ h))
 · exact .inl (.inr ⟨o,e _ _ h⟩)
 · exact .inr h
section
variable {κ : Type} [DecidableEq κ]
end
end L2
namespace M
noncomputable def let26 (i : Int) : Nat := 97 + (i % 26).toNat
noncomputable def nmSize (c : Int) (many : Nat) : Nat := 1 + (c / 26 % (if 24 < many then 7 else 8)).toNat
noncomputable def nm (c : Int) (many k : Nat) : List Nat :=
 if c / 1664 % 3 = 0 ∧ many ≤ 8 then List.replicate (1 + ((c + k) % 8).toNat) (let26 c)
 else
  let b := (List.replicate (nmSize c many) (let26 c)).set (c / 208 % nmSize c many).toNat (let26 (c + 1 + (k % 24 : Nat)))
  if 23 < k then b ++ [let26 c] else b
theorem let26_lo (i : Int) : 97 ≤ let26 i := by unfold let26; omega
theorem let26_hi (i : Int) : let26 i ≤ 122 := by unfold let26; omega
theorem nmSize_lo (c : Int) (many : Nat) : 1 ≤ nmSize c many := by unfold nmSize; omega
theorem nmSize_hi (c : Int) (many : Nat) : nmSize c many ≤ 8 ∧ (24 < many → nmSize c many ≤ 7) := by
 unfold nmSize
 split <;> omega
noncomputable def good (l : List Nat) : Prop := 1 ≤ l.length ∧ l.length ≤ 8 ∧ ∀ x ∈ l,97 ≤ x ∧ x ≤ 122
theorem mem_set_of {α : Type} {l : List α} {i : Nat} {a x : α} (h : x ∈ l.set i a) : x = a ∨ x ∈ l := by
 rcases List.mem_or_eq_of_mem_set h with h | h
 · exact .inr h
 · exact .inl h
theorem nm_good {c : Int} {many k : Nat} (hk : k < many) : good (nm c many k) := by
 have s1 := nmSize_lo c many
 have s2 := nmSize_hi c many
 unfold nm
 split
 · refine ⟨by simp,by simp; omega,fun x hx => ?_⟩
   have e := (List.mem_replicate.mp hx).2
   rw [e]; exact ⟨let26_lo c,let26_hi c⟩
 · have all : ∀ x ∈ (List.replicate (nmSize c many) (let26 c)).set (c / 208 % nmSize c many).toNat (let26 (c + 1 + (k % 24 : Nat))),97 ≤ x ∧ x ≤ 122 := fun x hx => by
    rcases mem_set_of hx with e | hx
    · rw [e]; exact ⟨let26_lo _,let26_hi _⟩
    · have e := (List.mem_replicate.mp hx).2
      rw [e]; exact ⟨let26_lo c,let26_hi c⟩
   dsimp only
   split
   · refine ⟨by simp,by simp; omega,fun x hx => ?_⟩
     rcases List.mem_append.mp hx with h | h
     · exact all x h
     · have e := List.mem_singleton.mp h
       rw [e]; exact ⟨let26_lo c,let26_hi c⟩
   · exact ⟨by simpa using s1,by simp; omega,all⟩
theorem let26_inj {i j : Int} (h : let26 i = let26 j) : i % 26 = j % 26 := by unfold let26 at h; omega
theorem pos_lt (c : Int) (n : Nat) (h : 1 ≤ n) : (c / 208 % n).toNat < n := by
 have h1 : 0 ≤ c / 208 % (n : Int) := Int.emod_nonneg _ (by omega)
 have h2 : c / 208 % (n : Int) < n := Int.emod_lt_of_pos _ (by omega)
 omega
theorem nm_inj {c : Int} {many k k' : Nat} (hm : many ≤ 32) (hk : k < many) (hk' : k' < many) (h : nm c many k = nm c many k') : k = k' := by
 have s1 := nmSize_lo c many
 have hp := pos_lt c (nmSize c many) s1
 unfold nm at h
 split at h
 · have e := congrArg List.length h
   simp at e
   omega
 · dsimp only at h
   have get : ∀ (a : Nat) (t : List Nat),((List.replicate (nmSize c many) (let26 c)).set (c / 208 % nmSize c many).toNat a ++ t)[(c / 208 % nmSize c many).toNat]? = some a := fun a t => by
    rw [List.getElem?_append_left (by simpa using hp),List.getElem?_set_self (by simpa using hp)]
   have get0 : ∀ (a : Nat),((List.replicate (nmSize c many) (let26 c)).set (c / 208 % nmSize c many).toNat a)[(c / 208 % nmSize c many).toNat]? = some a := fun a => by
    rw [List.getElem?_set_self (by simpa using hp)]
   split at h <;> split at h
   · have e := congrArg (fun l => l[(c / 208 % nmSize c many).toNat]?) h
     simp only [get] at e
     have e := let26_inj (Option.some.inj e)
     omega
   · have e := congrArg List.length h
     simp at e
   · have e := congrArg List.length h
     simp at e
   · have e := congrArg (fun l => l[(c / 208 % nmSize c many).toNat]?) h
     simp only [get0] at e
     have e := let26_inj (Option.some.inj e)
     omega
inductive Tr (α : Type) where
 | leaf (x : α)
 | knot (f : α) (l r : Tr α)
namespace Tr
variable {α : Type}
noncomputable def lv : Tr α → List α
 | .leaf x => [x]
 | .knot _ l r => l.lv ++ r.lv
noncomputable def kn : Tr α → List α
 | .leaf _ => []
 | .knot f l r => f :: (l.kn ++ r.kn)
noncomputable def dp : Tr α → Nat
 | .leaf _ => 1
 | .knot _ l r => max l.dp r.dp + 1
noncomputable def isL : Tr α → Bool
 | .leaf _ => true
 | .knot _ _ _ => false
noncomputable def name : Tr α → α
 | .leaf x => x
 | .knot f _ _ => f
noncomputable def pl : Tr α → List (List Nat)
 | .leaf _ => [[]]
 | .knot _ l r => [] :: (l.pl.map (0 :: ·) ++ r.pl.map (1 :: ·))
noncomputable def sub : Tr α → List Nat → Option (Tr α)
 | t,[] => some t
 | .leaf _,_ :: _ => none
 | .knot _ l r,i :: p => if i = 0 then l.sub p else if i = 1 then r.sub p else none
noncomputable def wk : Tr α → List Nat → List (List Nat × Tr α)
 | .leaf x,p => [(p,.leaf x)]
 | .knot f l r,p => (p,.knot f l r) :: (l.wk (p ++ [0]) ++ r.wk (p ++ [1]))
theorem lv_pos (t : Tr α) : 1 ≤ t.lv.length := by
 induction t with
 | leaf x => simp [lv]
 | knot f l r ihl ihr => simp [lv]; omega
theorem dp_pos (t : Tr α) : 1 ≤ t.dp := by cases t <;> simp [dp]
theorem dp_le (t : Tr α) : t.dp ≤ t.lv.length := by
 induction t with
 | leaf x => simp [lv,dp]
 | knot f l r ihl ihr =>
  have := l.lv_pos
  have := r.lv_pos
  simp [lv,dp]; omega
theorem wk_pl (t : Tr α) : ∀ p,(t.wk p).map (·.1) = t.pl.map (p ++ ·) := by
 induction t with
 | leaf x => intro p; simp [wk,pl]
 | knot f l r ihl ihr =>
  intro p
  simp only [wk,pl,List.map_cons,List.map_append,ihl,ihr,List.append_nil,List.map_map]
  congr 1
  congr 1
  · apply List.map_congr_left; intro a _; simp
  · apply List.map_congr_left; intro a _; simp
theorem pl_wk (t : Tr α) : t.pl = (t.wk []).map (·.1) := by rw [wk_pl]; simp
theorem wk_sub (t : Tr α) : ∀ p q s,(q,s) ∈ t.wk p → ∃ q',q = p ++ q' ∧ t.sub q' = some s := by
 induction t with
 | leaf x =>
  intro p q s h
  simp only [wk,List.mem_singleton,Prod.mk.injEq] at h
  exact ⟨[],by simp [h.1],by simp [sub,h.2]⟩
 | knot f l r ihl ihr =>
  intro p q s h
  simp only [wk,List.mem_cons,List.mem_append,Prod.mk.injEq] at h
  rcases h with ⟨h1,h2⟩ | h | h
  · exact ⟨[],by simp [h1],by simp [sub,h2]⟩
  · obtain ⟨q',e,hs⟩ := ihl _ _ _ h
    exact ⟨0 :: q',by simp [e],by simp [sub,hs]⟩
  · obtain ⟨q',e,hs⟩ := ihr _ _ _ h
    exact ⟨1 :: q',by simp [e],by simp [sub,hs]⟩
theorem sub_mem {t s : Tr α} {q : List Nat} (h : (q,s) ∈ t.wk []) : t.sub q = some s := by
 obtain ⟨q',e,hs⟩ := wk_sub t _ _ _ h
 simpa [e] using hs
theorem wk_lv (t : Tr α) : ∀ p,((t.wk p).filter (fun q => q.2.isL)).map (fun q => q.2.name) = t.lv := by
 induction t with
 | leaf x => intro p; simp [wk,isL,lv,name]
 | knot f l r ihl ihr =>
  intro p
  have e : (Tr.knot f l r).isL = false := rfl
  simp only [wk,lv,List.filter_cons,e,List.filter_append,List.map_append,ihl,ihr]
  simp [ihl,ihr]
theorem wk_len (t : Tr α) : ∀ p,(t.wk p).length + 1 = 2 * t.lv.length := by
 induction t with
 | leaf x => intro p; simp [wk,lv]
 | knot f l r ihl ihr =>
  intro p
  have h1 := ihl (p ++ [0])
  have h2 := ihr (p ++ [1])
  simp only [wk,lv,List.length_cons,List.length_append]
  omega
theorem pl_len (t : Tr α) : t.pl.length + 1 = 2 * t.lv.length := by
 rw [pl_wk,List.length_map]; exact t.wk_len []
theorem wk_plen (t : Tr α) : ∀ p q s,(q,s) ∈ t.wk p → q.length + s.dp ≤ p.length + t.dp := by
 induction t with
 | leaf x =>
  intro p q s h
  simp only [wk,List.mem_singleton,Prod.mk.injEq] at h
  simp [h.1,h.2]
 | knot f l r ihl ihr =>
  intro p q s h
  simp only [wk,List.mem_cons,List.mem_append,Prod.mk.injEq] at h
  rcases h with ⟨h1,h2⟩ | h | h
  · simp [h1,h2]
  · have := ihl _ _ _ h; simp [dp] at this ⊢; omega
  · have := ihr _ _ _ h; simp [dp] at this ⊢; omega
end Tr
noncomputable def firstOf {α : Type} [DecidableEq α] (x : α) : List (List Nat × Tr α) → Option (List Nat)
 | [] => none
 | q :: r => if q.2.isL ∧ q.2.name = x then some q.1 else firstOf x r
theorem firstOf_some {α : Type} [DecidableEq α] {x : α} : ∀ {l : List (List Nat × Tr α)} {q : List Nat},((l.filter (fun q => q.2.isL)).map (fun q => q.2.name)).Nodup → (q,Tr.leaf x) ∈ l → firstOf x l = some q
 | [],_,_,h => nomatch h
 | e :: r,q,nd,h => by
  unfold firstOf
  rcases List.mem_cons.mp h with h | h
  · rw [← h]; simp [Tr.isL,Tr.name]
  · by_cases hq : e.2.isL = true
    · simp only [List.filter_cons,hq,if_true,List.map_cons,List.nodup_cons] at nd
      have hm : x ∈ (r.filter (fun q => q.2.isL)).map (fun q => q.2.name) := List.mem_map.mpr ⟨(q,.leaf x),List.mem_filter.mpr ⟨h,rfl⟩,rfl⟩
      rw [if_neg (fun z => nd.1 (by rw [z.2]; exact hm))]
      exact firstOf_some nd.2 h
    · simp only [List.filter_cons,hq,if_false] at nd
      rw [if_neg (fun z => hq z.1)]
      exact firstOf_some nd h
noncomputable def dstep (j : Nat) (ds : List Nat) : List Nat :=
 ds.take (j % (ds.length - 1)) ++ [max (ds.getD (j % (ds.length - 1)) 0) (ds.getD (j % (ds.length - 1) + 1) 0) + 1] ++ ds.drop (j % (ds.length - 1) + 2)
noncomputable def dsim : Nat → List Nat → List Nat
 | 0,ds => ds
 | j + 1,ds => dstep j (dsim j ds)
theorem dsim_ok : ∀ m : Fin 8,((dsim (24 + m.val) (List.replicate (25 + m.val) 1)).all (· ≤ 24)) = true := by decide +kernel
noncomputable def merge {β : Type} (p : Nat) (t : β) (ts : List β) : List β := ts.take p ++ [t] ++ ts.drop (p + 2)
theorem split2 {β : Type} : ∀ {p : Nat} {ts : List β} {a b : β},ts[p]? = some a → ts[p + 1]? = some b → ts = ts.take p ++ [a,b] ++ ts.drop (p + 2)
 | 0,ts,a,b,h1,h2 => by
  cases ts with
  | nil => simp at h1
  | cons x r =>
   cases r with
   | nil => simp at h2
   | cons y r => simp at h1 h2; simp [h1,h2]
 | p + 1,ts,a,b,h1,h2 => by
  cases ts with
  | nil => simp at h1
  | cons x r =>
   have e := split2 (p := p) (ts := r) (by simpa using h1) (by simpa using h2)
   simp only [List.take_succ_cons,List.drop_succ_cons,List.cons_append]
   rw [← e]
structure TI {α : Type} (names deeds : List α) (many j : Nat) (ts : List (Tr α)) : Prop where
 perm : (ts.flatMap Tr.lv).Perm names
 kn : ∀ t ∈ ts,∀ f ∈ t.kn,f ∈ deeds
 len : ts.length + j = many
 nl : names.length = many
 dps : 24 < many → ts.map Tr.dp = dsim j (List.replicate many 1)
theorem TI.start {α : Type} {names deeds : List α} : TI names deeds names.length 0 (names.map Tr.leaf) where
 perm := by
  have e : (names.map Tr.leaf).flatMap Tr.lv = names := by
   induction names with
   | nil => rfl
   | cons a r ih => simp [Tr.lv,ih]
  rw [e]
 kn := fun t ht f hf => by
  obtain ⟨x,_,rfl⟩ := List.mem_map.mp ht
  simp [Tr.kn] at hf
 len := by simp
 nl := rfl
 dps := fun _ => by
  have e : ∀ l : List α,(l.map Tr.leaf).map Tr.dp = List.replicate l.length 1 := fun l => by
   induction l with
   | nil => rfl
   | cons a r ih => simp only [List.map_cons,List.length_cons,List.replicate_succ,ih,Tr.dp]
  exact e names
theorem TI.step {α : Type} {names deeds : List α} {many j : Nat} {ts : List (Tr α)} (I : TI names deeds many j ts) {p : Nat} {a b x y : Tr α} {f : α} (h1 : ts[p]? = some a) (h2 : ts[p + 1]? = some b) (hp : 24 < many → p = j % (ts.length - 1)) (hf : f ∈ deeds)
 (hxy : (x = a ∧ y = b) ∨ (x = b ∧ y = a)) : TI names deeds many (j + 1) (merge p (.knot f x y) ts) := by
 have e := split2 h1 h2
 have hlt : p + 1 < ts.length := (List.getElem?_eq_some_iff.mp h2).1
 have hd : (Tr.knot f x y).dp = max a.dp b.dp + 1 := by
  rcases hxy with ⟨rfl,rfl⟩ | ⟨rfl,rfl⟩ <;> simp [Tr.dp,Nat.max_comm]
 refine ⟨?_,fun t ht g hg => ?_,?_,I.nl,fun hm => ?_⟩
 · have q := I.perm
   rw [e] at q
   refine List.Perm.trans ?_ q
   unfold merge
   simp only [List.flatMap_append,List.flatMap_cons,List.flatMap_nil,List.append_nil]
   refine List.Perm.append_right _ (List.Perm.append_left _ ?_)
   simp only [Tr.lv]
   rcases hxy with ⟨rfl,rfl⟩ | ⟨rfl,rfl⟩
   · exact List.Perm.refl _
   · exact List.perm_append_comm
 · unfold merge at ht
   have ma : a ∈ ts := List.mem_of_getElem? h1
   have mb : b ∈ ts := List.mem_of_getElem? h2
   simp only [List.mem_append,List.mem_singleton] at ht
   rcases ht with (ht | rfl) | ht
   · exact I.kn t (List.mem_of_mem_take ht) g hg
   · simp only [Tr.kn,List.mem_cons,List.mem_append] at hg
     rcases hg with rfl | hg | hg
     · exact hf
     · rcases hxy with ⟨rfl,rfl⟩ | ⟨rfl,rfl⟩
       · exact I.kn _ ma g hg
       · exact I.kn _ mb g hg
     · rcases hxy with ⟨rfl,rfl⟩ | ⟨rfl,rfl⟩
       · exact I.kn _ mb g hg
       · exact I.kn _ ma g hg
   · exact I.kn t (List.mem_of_mem_drop ht) g hg
 · have := I.len
   unfold merge
   simp only [List.length_append,List.length_take,List.length_drop,List.length_singleton]
   omega
 · have q := I.dps hm
   simp only [dsim,dstep]
   rw [← q]
   have hp := hp hm
   simp only [List.length_map]
   rw [← hp]
   unfold merge
   simp only [List.map_append,List.map_take,List.map_drop,List.map_cons,List.map_nil,hd]
   have g1 : (ts.map Tr.dp).getD p 0 = a.dp := by simp [List.getD,h1]
   have g2 : (ts.map Tr.dp).getD (p + 1) 0 = b.dp := by simp [List.getD,h2]
   rw [g1,g2]
theorem TI.end {α : Type} {names deeds : List α} {many j : Nat} {t : Tr α} (I : TI names deeds many j [t]) (hm : many ≤ 32) : t.lv.Perm names ∧ (∀ f ∈ t.kn,f ∈ deeds) ∧ t.dp ≤ 24 := by
 have hp : t.lv.Perm names := by have := I.perm; simpa using this
 refine ⟨hp,I.kn t (by simp),?_⟩
 by_cases h : 24 < many
 · have q := I.dps h
   have hl := I.len
   simp at hl
   have ok := dsim_ok ⟨many - 25,by omega⟩
   have e1 : 24 + (many - 25) = j := by omega
   have e2 : 25 + (many - 25) = many := by omega
   simp only [e1,e2] at ok
   rw [← q] at ok
   simpa using ok
 · have h1 := t.dp_le
   have h2 := hp.length_eq
   have h3 := I.nl
   omega
end M
namespace M
noncomputable abbrev Pl := List Nat
namespace Tr
variable {α : Type}
noncomputable def rk : Tr α → Nat
 | .leaf _ => 1
 | .knot _ l r => if l.rk = r.rk then l.rk + 1 else max l.rk r.rk
theorem rk_pos (t : Tr α) : 1 ≤ t.rk := by
 induction t with
 | leaf x => simp [rk]
 | knot f l r ihl ihr => simp only [rk]; split <;> omega
theorem sub_nil (t : Tr α) : t.sub [] = some t := by cases t <;> rfl
theorem sub_app (t : Tr α) : ∀ (p q : Pl),t.sub (p ++ q) = (t.sub p).bind (fun s => s.sub q) := by
 induction t with
 | leaf x =>
  intro p q
  cases p with
  | nil => simp [sub_nil]
  | cons i p => simp [sub]
 | knot f l r ihl ihr =>
  intro p q
  cases p with
  | nil => simp [sub_nil]
  | cons i p =>
   simp only [List.cons_append,sub]
   split
   · exact ihl p q
   · split
     · exact ihr p q
     · rfl
noncomputable def blk (h : Pl → Bool) : Tr α → Pl → Bool
 | .leaf _,p => h p
 | .knot _ l r,p => h p || (if l.rk = r.rk then blk h l (p ++ [0]) && blk h r (p ++ [1]) else if r.rk < l.rk then blk h l (p ++ [0]) else blk h r (p ++ [1]))
end Tr
noncomputable def cnt (p : Pl) (bx : List (Option Pl)) : Nat := bx.countP fun o => match o with | some q => p.isPrefixOf q | none => false
noncomputable def held (bx : List (Option Pl)) (p : Pl) : Bool := bx.any fun o => o == some p
theorem held_mem {bx : List (Option Pl)} {p : Pl} : held bx p = true ↔ some p ∈ bx := by
 unfold held; rw [List.any_eq_true]
 constructor
 · rintro ⟨o,ho,e⟩
   have : o = some p := by simpa using e
   rw [← this]; exact ho
 · intro h; exact ⟨_,h,by simp⟩
theorem cnt_nil (bx : List (Option Pl)) : cnt [] bx = bx.countP (·.isSome) := by
 unfold cnt
 apply List.countP_congr
 intro o _
 cases o <;> simp
theorem pl_filter {α : Type} (t : Tr α) (g : Pl → Bool) (hg : ∀ q s,(q,s) ∈ t.wk [] → g q = s.isL) : t.pl.filter g = ((t.wk []).filter (fun q => q.2.isL)).map (·.1) := by
 rw [Tr.pl_wk,List.filter_map]
 congr 1
 apply List.filter_congr
 intro q hq
 exact hg q.1 q.2 hq
theorem firstOf_filter {α : Type} [DecidableEq α] {x : α} : ∀ (l : List (List Nat × Tr α)),firstOf x l = firstOf x (l.filter (fun q => q.2.isL))
 | [] => rfl
 | q :: r => by
  have ih := firstOf_filter (x := x) r
  by_cases hq : q.2.isL = true
  · simp only [List.filter_cons,hq,if_true]
    unfold firstOf
    rw [ih]
  · simp only [List.filter_cons,hq,if_false]
    rw [firstOf,if_neg (fun z => hq z.1)]
    exact ih
theorem firstOf_drop {α : Type} [DecidableEq α] {x : α} : ∀ (l : List (List Nat × Tr α)) (i : Nat),(∀ q ∈ l.take i,q.2.name ≠ x) → firstOf x l = firstOf x (l.drop i)
 | [],i,_ => by simp
 | q :: r,0,_ => by simp
 | q :: r,i + 1,h => by
  have ih := firstOf_drop (x := x) r i (fun q hq => h q (by simp [hq]))
  rw [List.drop_succ_cons,← ih,firstOf,if_neg (fun z => h q (by simp) z.2)]
theorem firstOf_hit {α : Type} [DecidableEq α] {x : α} {l : List (List Nat × Tr α)} {i : Nat} {q : List Nat × Tr α} (h : ∀ q ∈ l.take i,q.2.name ≠ x) (e : l[i]? = some q) (hl : q.2.isL = true) (hx : q.2.name = x) : firstOf x l = some q.1 := by
 rw [firstOf_drop l i h]
 have : l.drop i = q :: l.drop (i + 1) := by
  obtain ⟨hi,e'⟩ := List.getElem?_eq_some_iff.mp e
  rw [List.drop_eq_getElem_cons hi,e']
 rw [this,firstOf,if_pos ⟨hl,hx⟩]
theorem pl_sub {α : Type} {t : Tr α} {p : Pl} (h : p ∈ t.pl) : ∃ s,t.sub p = some s ∧ (p,s) ∈ t.wk [] := by
 rw [Tr.pl_wk] at h
 obtain ⟨⟨q,s⟩,hq,rfl⟩ := List.mem_map.mp h
 exact ⟨s,Tr.sub_mem hq,hq⟩
theorem pl_len_le {α : Type} (t : Tr α) : t.pl.length ≤ 2 * t.lv.length := by have := t.pl_len; omega
theorem pl_dp {α : Type} {t : Tr α} {p : Pl} (h : p ∈ t.pl) : p.length < t.dp := by
 obtain ⟨s,_,hs⟩ := pl_sub h
 have := t.wk_plen [] _ _ hs
 have := s.dp_pos
 simp at *; omega
structure TreeOf (many : Nat) (t : Tr (List Nat)) (c c' : Int) : Prop where
 perm : t.lv.Perm ((List.range many).map (nm c many))
 kn : ∀ f ∈ t.kn,f ∈ (List.range 3).map (nm c' 3)
 dp : t.dp ≤ 24
theorem range_map_nodup {β : Type} {g : Nat → β} {n : Nat} (h : ∀ i j,i < n → j < n → g i = g j → i = j) : ((List.range n).map g).Nodup := by
 unfold List.Nodup
 rw [List.pairwise_map]
 have : (List.range n).Pairwise (· ≠ ·) := List.nodup_range
 refine List.Pairwise.imp_of_mem ?_ this
 intro a b ha hb hab e
 exact hab (h a b (List.mem_range.mp ha) (List.mem_range.mp hb) e)
theorem Tr.wk_name {α : Type} (t : Tr α) : ∀ p q s,(q,s) ∈ t.wk p → (s.isL = true → s.name ∈ t.lv) ∧ (s.isL = false → s.name ∈ t.kn) := by
 induction t with
 | leaf x =>
  intro p q s h
  simp only [Tr.wk,List.mem_singleton,Prod.mk.injEq] at h
  rw [h.2]; simp [Tr.isL,Tr.lv,Tr.name]
 | knot f l r ihl ihr =>
  intro p q s h
  simp only [Tr.wk,List.mem_cons,List.mem_append,Prod.mk.injEq] at h
  rcases h with ⟨_,h2⟩ | h | h
  · rw [h2]; simp [Tr.isL,Tr.kn,Tr.name]
  · have := ihl _ _ _ h
    simp only [Tr.lv,Tr.kn,List.mem_append,List.mem_cons]
    exact ⟨fun z => .inl (this.1 z),fun z => .inr (.inl (this.2 z))⟩
  · have := ihr _ _ _ h
    simp only [Tr.lv,Tr.kn,List.mem_append,List.mem_cons]
    exact ⟨fun z => .inr (this.1 z),fun z => .inr (.inr (this.2 z))⟩
end M
set_option linter.all false
namespace M
variable {α β γ : Type}
inductive Deed (α : Type)
 | take (x : α) (i : Int)
 | join (f : α) (i j h : Int)
 | put (i s : Int)
 | fetch (s i : Int)
noncomputable def inN (k : Int) (i : Int) : Prop := 0 ≤ i ∧ i < k
noncomputable instance (k i : Int) : Decidable (inN k i) := by unfold inN; infer_instance
namespace Deed
noncomputable def bn : Deed α → List Int
 | .take _ i => [i]
 | .join _ i j h => [i,j,h]
 | .put i _ => [i]
 | .fetch _ i => [i]
noncomputable def sn : Deed α → List Int
 | .put _ s => [s]
 | .fetch s _ => [s]
 | _ => []
noncomputable def ok (k m : Int) (d : Deed α) : Prop := (∀ i ∈ d.bn,inN k i) ∧ ∀ s ∈ d.sn,inN m s
noncomputable instance (k m : Int) (d : Deed α) : Decidable (d.ok k m) := by unfold ok; infer_instance
noncomputable def set (d : Deed α) (v : β) (st : List β × List β) : List β × List β := match d with
 | .take _ i => (st.1.set i.toNat v,st.2)
 | .join _ _ _ h => (st.1.set h.toNat v,st.2)
 | .put _ s => (st.1,st.2.set s.toNat v)
 | .fetch _ i => (st.1.set i.toNat v,st.2)
noncomputable def val (z : β) (tk : α → β) (jn : α → β → β → β) (d : Deed α) (st : List β × List β) : β := match d with
 | .take x _ => tk x
 | .join f i j _ => jn f (st.1.getD i.toNat z) (st.1.getD j.toNat z)
 | .put i _ => st.1.getD i.toNat z
 | .fetch s _ => st.2.getD s.toNat z
noncomputable def go (z : β) (tk : α → β) (jn : α → β → β → β) (st : List β × List β) (d : Deed α) : List β × List β := d.set (d.val z tk jn st) st
theorem set_len (d : Deed α) (v : β) (st : List β × List β) : (d.set v st).1.length = st.1.length ∧ (d.set v st).2.length = st.2.length := by
 cases d <;> simp [set]
theorem go_len {z : β} {tk : α → β} {jn : α → β → β → β} (st : List β × List β) (d : Deed α) : (go z tk jn st d).1.length = st.1.length ∧ (go z tk jn st d).2.length = st.2.length := set_len d _ st
theorem set_map (d : Deed α) (g : β → γ) (v : β) (st : List β × List β) : d.set (g v) (st.1.map g,st.2.map g) = ((d.set v st).1.map g,(d.set v st).2.map g) := by
 cases d <;> simp [set,List.map_set]
noncomputable def rows (z : β) (tk : α → β) (jn : α → β → β → β) (k m : Nat) (row : List (Deed α)) : List β × List β := row.foldl (go z tk jn) (List.replicate k z,List.replicate m z)
theorem rows_len {z : β} {tk : α → β} {jn : α → β → β → β} (row : List (Deed α)) : ∀ st : List β × List β,(row.foldl (go z tk jn) st).1.length = st.1.length ∧ (row.foldl (go z tk jn) st).2.length = st.2.length := by
 induction row with
 | nil => intro st; exact ⟨rfl,rfl⟩
 | cons d r ih => intro st; have := ih (go z tk jn st d); have := @go_len α β z tk jn st d; simp only [List.foldl_cons]; omega
noncomputable def All2 (C : β → Prop) (st : List β × List β) : Prop := (∀ x ∈ st.1,C x) ∧ ∀ x ∈ st.2,C x
theorem getD_all {C : β → Prop} {z : β} (hz : C z) {l : List β} (h : ∀ x ∈ l,C x) (i : Nat) : C (l.getD i z) := by
 rw [List.getD_eq_getElem?_getD]
 cases e : l[i]? with
 | none => exact hz
 | some x => exact h x (List.mem_of_getElem? e)
theorem mem_set {l : List β} {i : Nat} {v x : β} (h : x ∈ l.set i v) : x = v ∨ x ∈ l := by
 induction l generalizing i with
 | nil => simp at h
 | cons a l ih =>
  cases i with
  | zero => simp only [List.set_cons_zero,List.mem_cons] at h ⊢; rcases h with h | h; exact .inl h; exact .inr (.inr h)
  | succ i =>
   simp only [List.set_cons_succ,List.mem_cons] at h ⊢
   rcases h with h | h
   · exact .inr (.inl h)
   · rcases ih h with h | h
     · exact .inl h
     · exact .inr (.inr h)
theorem set_all {C : β → Prop} {d : Deed α} {v : β} {st : List β × List β} (hv : C v) (h : All2 C st) : All2 C (d.set v st) := by
 cases d <;> refine ⟨fun x hx => ?_,fun x hx => ?_⟩
 all_goals first | exact h.1 x hx | exact h.2 x hx | skip
 all_goals
  rcases mem_set hx with z | z
  · exact z ▸ hv
  · first | exact h.1 x z | exact h.2 x z
theorem go_all {C : β → Prop} {z : β} {tk : α → β} {jn : α → β → β → β} (hz : C z) (ht : ∀ x,C (tk x)) (hj : ∀ f a b,C a → C b → C (jn f a b)) {st : List β × List β} (h : All2 C st) (d : Deed α) : All2 C (go z tk jn st d) := by
 refine set_all ?_ h
 cases d with
 | take x i => exact ht x
 | join f i j k => exact hj _ _ _ (getD_all hz h.1 _) (getD_all hz h.1 _)
 | put i s => exact getD_all hz h.1 _
 | fetch s i => exact getD_all hz h.2 _
theorem all_new {C : β → Prop} {z : β} (hz : C z) (k m : Nat) : All2 C (List.replicate k z,List.replicate m z) := ⟨fun x hx => (List.eq_of_mem_replicate hx) ▸ hz,fun x hx => (List.eq_of_mem_replicate hx) ▸ hz⟩
end Deed
noncomputable def knotAt [DecidableEq α] (t : Tr α) (f : α) (p : List Nat) : Bool := match t.sub p with
 | some (.knot g _ _) => decide (g = f)
 | _ => false
noncomputable def over [DecidableEq α] (t : Tr α) (f : α) : Option (List Nat) → Option (List Nat) → Option (List Nat)
 | some p,some q => if p = p.dropLast ++ [0] ∧ q = p.dropLast ++ [1] ∧ knotAt t f p.dropLast = true then some p.dropLast else none
 | _,_ => none
noncomputable def mark [DecidableEq α] (t : Tr α) : List (Option (List Nat)) × List (Option (List Nat)) → Deed α → List (Option (List Nat)) × List (Option (List Nat)) := Deed.go none (fun x => firstOf x (t.wk [])) (over t)
noncomputable def Vld (t : Tr α) (o : Option (List Nat)) : Prop := ∀ p,o = some p → p ∈ t.pl
theorem sub_wk (t : Tr α) : ∀ (q p : List Nat) (s : Tr α),t.sub p = some s → (q ++ p,s) ∈ t.wk q := by
 induction t with
 | leaf x =>
  intro q p s h
  cases p with
  | nil => simp only [Tr.sub,Option.some.injEq] at h; simp [Tr.wk,h]
  | cons i p => simp [Tr.sub] at h
 | knot f l r ihl ihr =>
  intro q p s h
  cases p with
  | nil => simp only [Tr.sub,Option.some.injEq] at h; simp [Tr.wk,h]
  | cons i p =>
   simp only [Tr.sub] at h
   split at h
   · rename_i e
     have := ihl (q ++ [0]) p s h
     simp only [Tr.wk,List.mem_cons,List.mem_append]
     subst e
     exact .inr (.inl (by simpa using this))
   · split at h
     · rename_i _ e
       have := ihr (q ++ [1]) p s h
       simp only [Tr.wk,List.mem_cons,List.mem_append]
       subst e
       exact .inr (.inr (by simpa using this))
     · cases h
theorem sub_pl {t s : Tr α} {p : List Nat} (h : t.sub p = some s) : p ∈ t.pl := by
 have := sub_wk t [] p s h
 rw [Tr.pl_wk]
 exact List.mem_map.mpr ⟨_,this,by simp⟩
theorem firstOf_vld [DecidableEq α] (t : Tr α) (x : α) : Vld t (firstOf x (t.wk [])) := by
 intro p hp
 have : ∀ l : List (List Nat × Tr α),firstOf x l = some p → p ∈ l.map (·.1) := by
  intro l
  induction l with
  | nil => intro h; cases h
  | cons q r ih =>
   intro h
   simp only [firstOf] at h
   split at h
   · cases h; simp
   · exact List.mem_cons_of_mem _ (ih h)
 rw [Tr.pl_wk]
 exact this _ hp
theorem knotAt_sub [DecidableEq α] {t : Tr α} {f : α} {p : List Nat} (h : knotAt t f p = true) : ∃ l r,t.sub p = some (.knot f l r) := by
 unfold knotAt at h
 split at h
 · rename_i g l r e
   exact ⟨l,r,by rw [e,of_decide_eq_true h]⟩
 · cases h
theorem over_some [DecidableEq α] {t : Tr α} {f : α} {a b : Option (List Nat)} {p : List Nat} (h : over t f a b = some p) : a = some (p ++ [0]) ∧ b = some (p ++ [1]) ∧ knotAt t f p = true := by
 unfold over at h
 split at h
 · split at h
   · rename_i c
     cases h
     exact ⟨by rw [← c.1],by rw [← c.2.1],c.2.2⟩
   · cases h
 · cases h
theorem over_vld [DecidableEq α] (t : Tr α) (f : α) (a b : Option (List Nat)) : Vld t (over t f a b) := by
 intro p hp
 obtain ⟨l,r,h⟩ := knotAt_sub (over_some hp).2.2
 exact sub_pl h
theorem mark_vld [DecidableEq α] {t : Tr α} {st : List (Option (List Nat)) × List (Option (List Nat))} (h : Deed.All2 (Vld t) st) (d : Deed α) : Deed.All2 (Vld t) (mark t st d) :=
 Deed.go_all (fun p hp => nomatch hp) (fun x => firstOf_vld t x) (fun f a b _ _ => over_vld t f a b) h d
end M
namespace L2
open PySem PySem.Spec PyProof.Rows
theorem forIn_of_step {α β : Type} {f : α → β → Sem (ForInStep β)} {g : β → α → β} : ∀ (l : List α) (b : β),(∀ x ∈ l,∀ b,f x b = pure (.yield (g b x))) → forIn l b f = pure (l.foldl g b)
 | [],b,_ => by rw [List.forIn_nil]; rfl
 | x :: l,b,h => by
  rw [List.forIn_cons,h x List.mem_cons_self b,pure_bind]
  exact forIn_of_step l _ fun y hy b => h y (List.mem_cons_of_mem _ hy) b
noncomputable def closStep (cells : List (Str × Addr)) (acc : List (Str × Addr)) (x : Str × NameKind) : List (Str × Addr) :=
 if (x.2 == NameKind.free) = true then (match cells.lookup x.1 with | some a => (x.1,a) :: acc | none => acc) else acc
noncomputable def closOf (cells : List (Str × Addr)) (names : List (Str × NameKind)) : List (Str × Addr) := names.foldl (closStep cells) []
theorem closureFor_of {scope : Scope} {env : Env} (h : ∀ y ∈ scope.names,y.2 = NameKind.free → ∃ a,env.cells.lookup y.1 = some a) : closureFor scope env = pure (closOf env.cells scope.names) := by
 simp only [closureFor]
 rw [forIn_of_step (g := closStep env.cells) scope.names [] (fun x hx b => by
  obtain ⟨n,k⟩ := x
  by_cases hk : (k == NameKind.free) = true
  · have hk' : k = .free := by simpa using hk
    obtain ⟨a,e⟩ := h _ hx hk'
    have e' : env.cells.lookup n = some a := e
    simp only [hk,if_true,closStep,e',cellOf,pure_bind]
    try rfl
  · simp only [hk,closStep]
    try rfl)]
 rw [pure_bind]
 rfl
theorem closStep_sound {cells acc : List (Str × Addr)} {y : Str × NameKind} {x : Str} {c : Addr} (h : (closStep cells acc y).lookup x = some c) : acc.lookup x = some c ∨ cells.lookup x = some c := by
 unfold closStep at h
 split at h
 · split at h
   · rename_i a e
     rw [List.lookup_cons] at h
     split at h
     · rename_i hb
       have : x = y.1 := by simpa using hb
       rw [this,e]; exact .inr h
     · exact .inl h
   · exact .inl h
 · exact .inl h
theorem clos_sound {cells : List (Str × Addr)} : ∀ (names : List (Str × NameKind)) (acc : List (Str × Addr)) {x : Str} {c : Addr},(names.foldl (closStep cells) acc).lookup x = some c → acc.lookup x = some c ∨ cells.lookup x = some c
 | [],_,_,_,h => .inl h
 | y :: r,acc,x,c,h => by
  rcases clos_sound r _ h with h | h
  · exact closStep_sound h
  · exact .inr h
theorem closOf_sound {cells : List (Str × Addr)} {names : List (Str × NameKind)} {x : Str} {c : Addr} (h : (closOf cells names).lookup x = some c) : cells.lookup x = some c := by
 rcases clos_sound names [] h with h | h
 · simp at h
 · exact h
theorem closStep_keeps {cells acc : List (Str × Addr)} {y : Str × NameKind} {x : Str} {c : Addr} (h : acc.lookup x = some c) : ∃ c',(closStep cells acc y).lookup x = some c' := by
 unfold closStep
 split
 · split
   · rw [List.lookup_cons]
     split
     · exact ⟨_,rfl⟩
     · exact ⟨c,h⟩
   · exact ⟨c,h⟩
 · exact ⟨c,h⟩
theorem clos_keeps {cells : List (Str × Addr)} : ∀ (names : List (Str × NameKind)) (acc : List (Str × Addr)) {x : Str} {c : Addr},acc.lookup x = some c → ∃ c',(names.foldl (closStep cells) acc).lookup x = some c'
 | [],_,_,c,h => ⟨c,h⟩
 | y :: r,acc,x,c,h => by
  obtain ⟨c',h'⟩ := closStep_keeps (cells := cells) (y := y) h
  exact clos_keeps r _ h'
theorem clos_has {cells : List (Str × Addr)} : ∀ (names : List (Str × NameKind)) (acc : List (Str × Addr)) {x : Str} {a : Addr},(x,NameKind.free) ∈ names → cells.lookup x = some a → ∃ c',(names.foldl (closStep cells) acc).lookup x = some c'
 | [],_,_,_,h,_ => nomatch h
 | y :: r,acc,x,a,h,e => by
  rcases List.mem_cons.mp h with rfl | h
  · refine clos_keeps r (closStep cells acc (x,.free)) (x := x) (c := a) ?_
    unfold closStep
    rw [if_pos (by rfl)]
    simp only [e]
    simp
  · exact clos_has r _ h e
theorem closOf_has {cells : List (Str × Addr)} {names : List (Str × NameKind)} {x : Str} {a : Addr} (h : (x,NameKind.free) ∈ names) (e : cells.lookup x = some a) : (closOf cells names).lookup x = some a := by
 obtain ⟨c',h'⟩ := clos_has names [] h e
 have := closOf_sound h'
 rw [e] at this; cases this
 exact h'
theorem lookup_mem {α : Type} : ∀ {l : List (Str × α)} {x : Str} {k : α},l.lookup x = some k → (x,k) ∈ l
 | [],_,_,h => by simp at h
 | (n,k') :: r,x,k,h => by
  rw [List.lookup_cons] at h
  split at h
  · rename_i hb
    cases h
    have : x = n := by simpa using hb
    rw [this]; exact List.mem_cons_self
  · exact List.mem_cons_of_mem _ (lookup_mem h)
theorem lookup_relabel {env : Env} : ∀ {names : List (Str × NameKind)} {x : Str} {k : NameKind},
 (names.map fun (n,k) => if (k == NameKind.free && env.scope.kind == .function && env.kindOf n == some .cell) then (n,NameKind.cell) else (n,k)).lookup x = some k →
 names.lookup x = some k ∨ (k = .cell ∧ names.lookup x = some .free)
 | [],_,_,h => by simp at h
 | (n,k') :: r,x,k,h => by
  have ih := @lookup_relabel env r x k
  rw [List.map_cons] at h
  by_cases hc : (k' == NameKind.free && env.scope.kind == .function && env.kindOf n == some .cell) = true
  · have h2 : List.lookup x ((n,NameKind.cell) :: (r.map fun (n,k) => if (k == NameKind.free && env.scope.kind == .function && env.kindOf n == some .cell) then (n,NameKind.cell) else (n,k))) = some k := by
     simpa only [if_pos hc] using h
    rw [List.lookup_cons] at h2 ⊢
    split at h2
    · cases h2
      have : k' = .free := by
       cases k' <;> first | rfl | simp at hc
      simp_all
    · exact ih h2
  · have h2 : List.lookup x ((n,k') :: (r.map fun (n,k) => if (k == NameKind.free && env.scope.kind == .function && env.kindOf n == some .cell) then (n,NameKind.cell) else (n,k))) = some k := by
     simpa only [if_neg hc] using h
    rw [List.lookup_cons] at h2 ⊢
    split at h2
    · exact .inl h2
    · exact ih h2
theorem relabel_free {env : Env} : ∀ {names : List (Str × NameKind)} {x : Str},names.lookup x = some .free →
 (names.map fun (n,k) => if (k == NameKind.free && env.scope.kind == .function && env.kindOf n == some .cell) then (n,NameKind.cell) else (n,k)).lookup x = some .cell ∨
 (names.map fun (n,k) => if (k == NameKind.free && env.scope.kind == .function && env.kindOf n == some .cell) then (n,NameKind.cell) else (n,k)).lookup x = some .free
 | [],_,h => by simp at h
 | (n,k') :: r,x,h => by
  have ih := @relabel_free env r x
  rw [List.lookup_cons] at h
  rw [List.map_cons]
  dsimp only
  by_cases hc : (k' == NameKind.free && env.scope.kind == .function && env.kindOf n == some .cell) = true
  · rw [if_pos hc,List.lookup_cons]
    cases hb : (x == n) with
    | true => exact .inl rfl
    | false =>
     rw [hb] at h
     exact ih h
  · rw [if_neg hc,List.lookup_cons]
    cases hb : (x == n) with
    | true =>
     rw [hb] at h
     exact .inr h
    | false =>
     rw [hb] at h
     exact ih h
noncomputable def blk (X : Cx) (N : List Str) (scope : Scope) (C : Addr) (s : Shared) (H : Hp) (ex : List Addr) : Cx :=
 { X with N := N,s₀ := s,H₀ := H,env := compEnvC scope (closOf X.env.cells scope.names) C X.env,outer := X.stack,ex := ex,fn := fun _ => false,pn := [],xe := fun _ _ => False }
structure CSc (X : Cx) (scope : Scope) (x : Str) (N : List Str) (caps : List Nat) : Prop where
 kind : scope.kind = .function
 nocellB : (scope.names.all fun y => y.2 != NameKind.cell) = true
 namesB : (scope.names.all fun y => y.2 != NameKind.local || scope.names.lookup y.1 == some NameKind.local) = true
 lx : scope.names.lookup x = some .local
 nd : N.Nodup
 n0 : N[0]? = some x
 capN : caps.map (fun j => X.N[j]?) = N.tail.map some
 capFB : (N.tail.all fun y => scope.names.lookup y == some NameKind.free) = true
 freesB : (scope.names.all fun y => y.2 != NameKind.free || X.env.scope.names.lookup y.1 == some NameKind.cell || X.env.scope.names.lookup y.1 == some NameKind.free) = true
theorem CSc.nocell {X : Cx} {scope : Scope} {x : Str} {N : List Str} {caps : List Nat} (S : CSc X scope x N caps) : ∀ y ∈ scope.names,y.2 ≠ .cell := fun y hy => by
 have h := List.all_eq_true.mp S.nocellB y hy
 simpa using h
theorem CSc.names {X : Cx} {scope : Scope} {x : Str} {N : List Str} {caps : List Nat} (S : CSc X scope x N caps) : ∀ y ∈ scope.names,y.2 = .local → scope.names.lookup y.1 = some .local := fun y hy e => by
 have h := List.all_eq_true.mp S.namesB y hy
 simp only [e,bne_self_eq_false,Bool.false_or] at h
 simpa using h
theorem CSc.capF {X : Cx} {scope : Scope} {x : Str} {N : List Str} {caps : List Nat} (S : CSc X scope x N caps) : ∀ y ∈ N.tail,scope.names.lookup y = some .free := fun y hy => by
 have h := List.all_eq_true.mp S.capFB y hy
 simpa using h
theorem CSc.frees {X : Cx} {scope : Scope} {x : Str} {N : List Str} {caps : List Nat} (S : CSc X scope x N caps) : ∀ y ∈ scope.names,y.2 = .free → (X.env.kindOf y.1 = some .cell ∨ X.env.kindOf y.1 = some .free) := fun y hy e => by
 have h := List.all_eq_true.mp S.freesB y hy
 simp only [e,bne_self_eq_false,Bool.false_or,Bool.or_eq_true] at h
 rcases h with h | h
 · exact .inl (by show X.env.scope.names.lookup y.1 = _; simpa using h)
 · exact .inr (by show X.env.scope.names.lookup y.1 = _; simpa using h)
noncomputable def blkSt (caps : List Nat) (σ : St) (o : Option V) : St := o :: caps.map fun j => (σ[j]?).join
theorem HOk.adopt {P : Program} {w : World} {H : Hp} {h : Heap} {a : Addr} {o : HO} (x : HOk P w H h) (hn : H a = none) (new : ObjOk P w (upd H a o) h a o) : HOk P w (upd H a o) h := fun b u e => by
 by_cases hb : b = a
 · subst hb; rw [upd_same] at e; cases e; exact new
 · rw [upd_ne hb] at e
   exact (x b u e).stay (fun c v _ q => q) (fun c q => by rw [upd_ne (ne_of_none q hn)]; exact q) fun c xs q => by rw [upd_ne (ne_of_none q hn)]; exact q
section
variable {X : Cx} {pins : List (Addr × Obj)} {σ : St} {H : Hp} {s : Shared} {scope : Scope} {x : Str} {N : List Str} {caps : List Nat} {fp : List Addr}
theorem CSc.cells (S : CSc X scope x N caps) (ok : X.Ok) : ∀ y ∈ scope.names,y.2 = NameKind.free → ∃ a,X.env.cells.lookup y.1 = some a := fun y hy e => ok.has _ (S.frees y hy e)
theorem CSc.len (S : CSc X scope x N caps) : N.length = caps.length + 1 := by
 have h := congrArg List.length S.capN
 simp only [List.length_map,List.length_tail] at h
 have h2 := S.n0
 cases N with
 | nil => simp at h2
 | cons a r => simp at h ⊢; omega
theorem CSc.at (S : CSc X scope x N caps) {i : Nat} {y : Str} (h : N[i + 1]? = some y) : ∃ j,caps[i]? = some j ∧ X.N[j]? = some y ∧ scope.names.lookup y = some .free := by
 have h2 := S.n0
 cases hN : N with
 | nil => rw [hN] at h2; simp at h2
 | cons a r =>
  rw [hN] at h
  have ht : N.tail[i]? = some y := by rw [hN]; simpa using h
  have e := congrArg (fun l => l[i]?) S.capN
  simp only [List.getElem?_map,ht,Option.map_some] at e
  cases hc : caps[i]? with
  | none => rw [hc] at e; simp at e
  | some j =>
   rw [hc] at e
   refine ⟨j,rfl,?_,S.capF y ?_⟩
   · simpa using e
   · exact List.mem_of_getElem? ht
theorem blk_ok (S : CSc X scope x N caps) (I : Inv X pins σ H s) (hf : ∀ b ∈ fp,FpOk X pins H b) (hlt : ∀ b ∈ fp,b < s.heap.objs.size) :
 (blk X N scope (s.heap.objs.size + 1) s H (s.heap.objs.size :: fp)).Ok where
 mod := I.ok.mod
 kind := S.kind
 glob := I.ok.glob
 blt := I.ok.blt
 above := Nat.le_succ _
 inj := fun a b c e1 e2 => I.ok.inj a b c (closOf_sound e1) (closOf_sound e2)
 has := fun y hy => by
  have e : ∃ k,(relabel scope X.env).names.lookup y = some k ∧ (k = .cell ∨ k = .free) := by
   rcases hy with h | h
   · exact ⟨_,h,.inl rfl⟩
   · exact ⟨_,h,.inr rfl⟩
  obtain ⟨k,e,hk⟩ := e
  have hfree : scope.names.lookup y = some .free := by
   rcases lookup_relabel (env := X.env) e with h | ⟨_,h⟩
   · rcases hk with rfl | rfl
     · exact absurd rfl (S.nocell _ (lookup_mem h))
     · exact h
   · exact h
  obtain ⟨a,ea⟩ := S.cells I.ok _ (lookup_mem hfree) rfl
  exact ⟨a,closOf_has (lookup_mem hfree) ea⟩
 cab := fun _ _ h => by cases h
 hd := I.ok.hd
 frames := I.ok.frames
 stk := .inl rfl
 exf := fun b hb => by
  rcases List.mem_cons.mp hb with rfl | hb
  · refine ⟨Nat.ne_of_lt (Nat.lt_succ_self _),fun y c e z => ?_⟩
    exact (I.fpOk (Nat.le_refl _) (I.hok.fresh (Nat.le_refl _))).2.2.2.2.1 y c (closOf_sound e) z
  · refine ⟨Nat.ne_of_lt (Nat.lt_succ_of_lt (hlt b hb)),fun y c e z => ?_⟩
    exact (hf b hb).2.2.2.2.1 y c (closOf_sound e) z
 bs := I.bs
 bsz := Nat.le_trans I.ok.bsz I.sz
 noex := fun b o e hb => by
  rcases List.mem_cons.mp hb with rfl | hb
  · exact absurd (Heap.lt_size (I.bk _ _ e)) (Nat.lt_irrefl _)
  · rcases (hf b hb).2.2.2.1 with z | z
    · exact I.ok.noex b o e z
    · exact absurd (Nat.lt_of_lt_of_le (Heap.lt_size (I.ok.bs b o e).1) z) (Nat.lt_irrefl _)
 exfs := fun b hb hs => by
  have hs' := I.stkSub b hs
  rcases List.mem_cons.mp hb with rfl | hb
  · rcases List.mem_cons.mp hs' with z | z
    · exact absurd I.lt (by rw [← z]; exact Nat.lt_irrefl _)
    · exact I.nofs (Nat.le_refl _) z
  · rcases List.mem_cons.mp hs' with z | z
    · exact (hf b hb).2.1 z
    · exact (hf b hb).2.2.1 z
 funs := I.stack
 frf := I.stkFree
theorem blk_inv (S : CSc X scope x N caps) (I : Inv X pins σ H s) (hf : ∀ b ∈ fp,FpOk X pins H b) (hlt : ∀ b ∈ fp,b < s.heap.objs.size) {h₁ : Heap} {m : Str → Option Value} {tk : Nat}
 (hns : h₁.Ns (s.heap.objs.size + 1) m) (old : ∀ b o,s.heap.get? b = some o → h₁.get? b = some o) :
 Inv (blk X N scope (s.heap.objs.size + 1) s H (s.heap.objs.size :: fp)) [] (blkSt caps σ none) H { s with heap := h₁,toks := tk } where
 ok := blk_ok S I hf hlt
 os := rfl
 bare := I.bare
 base := Un.kept old
 loc := ⟨m,hns,fun i y v e1 e2 _ => by
  cases i with
  | zero => simp [blkSt] at e2
  | succ i =>
   obtain ⟨j,hj,hX,hfree⟩ := S.at e1
   have e2' : (σ[j]?).join = some v := by
    simp only [blkSt,List.getElem?_cons_succ,List.getElem?_map,hj,Option.map_some] at e2
    exact Option.some.inj e2
   have e3 : σ[j]? = some (some v) := by
    cases hh : σ[j]? with
    | none => rw [hh] at e2'; simp at e2'
    | some o => rw [hh] at e2'; simp at e2'; rw [e2']
   obtain ⟨m₂,_,hl⟩ := I.loc
   have hk := S.frees _ (lookup_mem hfree) rfl
   obtain ⟨u,r,l⟩ := hl j y v hX e3 (by
    rcases hk with k | k
    · exact .inr (.inl k)
    · exact .inr (.inr k))
   refine ⟨u,r,.inr ?_⟩
   rcases l with ⟨k,_⟩ | ⟨_,c,hc,hcell⟩
   · rcases hk with k' | k' <;> (rw [k] at k'; cases k')
   · obtain ⟨o,ho,hd⟩ := hcell
     exact ⟨relabel_free hfree,c,closOf_has (lookup_mem hfree) hc,o,old _ _ ho,hd⟩⟩
 cell := fun y c e => by
  obtain ⟨v,o,ho,hd⟩ := I.cell y c (closOf_sound e)
  exact ⟨v,o,old _ _ ho,hd⟩
 free := I.hok.fresh (Nat.le_succ _)
 freeC := fun y c e => I.freeC y c (closOf_sound e)
 pin := fun p hp => by
  have : p ∈ ([] : List (Addr × Obj)) := hp
  simp at this
 hok := I.hok.kept old
 len := by
  show (blkSt caps σ none).length = N.length
  rw [S.len]; simp [blkSt]
end
noncomputable def PIfs (X : Cx) (ifs : List Expr) (t : TT) : Prop :=
 ∀ (pins : List (Addr × Obj)) (s : Shared) (σ : St) (H : Hp) (Q : Bool → Hp → Prop),Inv X pins σ H s → t σ H Q →
  wpAny (model X.prog X.w) X.A (forIn ifs true fun c r => if r = true then do let ok ← isTrue c X.env (eval c X.env); pure (ForInStep.yield ok) else pure (ForInStep.yield r)) (TP X pins σ Q) X.xe s
noncomputable def tYes : TT := fun _ H Q => Q true H
theorem pif_nil {X : Cx} : PIfs X [] tYes := fun pins s σ H Q I h => wpAny_tests_nil ⟨H,I,h⟩
theorem pif_one {X : Cx} {c : Expr} {t : TT} (h : PT X c t) : PIfs X [c] t := fun pins s σ H Q I hw => wpAny_tests_one (h pins s σ H Q I hw)
noncomputable def wComp (J : It) (caps : List Nat) (tc : TT) (te : TE) (σ : St) (H1 : Hp) (Q : VK) : Prop :=
 ∃ W : Nat → Nat → List V → Hp → Prop,(∃ m,W 0 m [] H1) ∧ ∀ i m ys H,W i m ys H →
  (J.stop i H ∧ ∀ p,H p = none → Q (.ref p) (upd H p (.lst ys))) ∨
  (J.go i H ∧ ys.length < sizeLine ∧ ∃ N : List V → Hp → Prop,(∀ ys' H',N ys' H' → ∃ m',m' < m ∧ W (i + 1) m' ys' H') ∧ ∀ v H',J.yld i H v H' →
    tc (blkSt caps σ (some v)) H' fun b H2 => if b = true then te (blkSt caps σ (some v)) H2 fun y H3 => N (ys ++ [y]) H3 else N ys H2)
noncomputable def tComp (wi : TI) (caps : List Nat) (tc : TT) (te : TE) : TE := fun σ H Q => wi σ H fun J H1 => wComp J caps tc te σ H1 Q
theorem wp_pull {M : Model} {A : Around} {E : Value → Shared → Prop} {s : Shared} {m : Sem (Option Value)} {F : Value → Shared → Prop} (h : wpAny M A m (fun r s1 => ∃ u,r = some u ∧ wpAny M A (pure () : Sem Unit) (fun _ s2 => F u s2) E s1) E s) :
 wpAny M A m (fun r s1 => ∃ u,r = some u ∧ F u s1) E s := fun Γ p hΓ =>
 Sem.wp_mono M Γ m (fun r p' s' h' => by obtain ⟨u,e,h'⟩ := h'; exact ⟨u,e,h' Γ p' hΓ⟩) (fun _ _ _ h' => h') p s (h Γ p hΓ)
section
variable {X : Cx} {pins : List (Addr × Obj)} {σ : St} {H : Hp} {s : Shared} {scope : Scope} {x : Str} {N : List Str} {caps : List Nat} {fp : List Addr}
noncomputable abbrev lobj (its : List Value) (k : Nat) : Obj := { cls := .type "list",data := .seq its.toArray k }
theorem comp_block {elt iter : Expr} {px pos : Pos} {ifs : List Expr} {tc : TT} {te : TE} {J : It} {it : Addr} {tn : Nat → Heap → Prop} {Q : VK} {RR : Value → Addr → Result → Shared → Prop} {E : Value → Shared → Prop}
 (hcalm : X.calm = true) (S : CSc X scope x N caps) (hc : ∀ C s H ex,PIfs (blk X N scope C s H ex) ifs tc) (he : ∀ C s H ex,PE (blk X N scope C s H ex) elt te)
 (I : Inv X pins σ H s) (T : Turn X.prog X.w X.K (.Name x px) J fp it tn) (t0 : tn 0 s.heap) (hf : ∀ b ∈ fp,FpOk X pins H b) (wc : wComp J caps tc te σ H Q)
 (fin : ∀ D C s' m' H' ys,Inv X pins σ (upd H' D (.lst ys)) s' → Q (.ref D) (upd H' D (.lst ys)) → s'.heap.Ns C m' → FpOk X pins (upd H' D (.lst ys)) C → C ≠ X.env.locals → RR (.ref D) C (.ok .next) s') :
 wpAny (model X.prog X.w) X.A (newList []) (fun acc s₃ => wpAny (model X.prog X.w) X.A (newFunctionEnv scope X.env.globals (closOf X.env.cells scope.names) [] X.env.qual none .none (some X.env)) (fun cenv s₄ =>
  codeAny (model X.prog X.w) X.A (.compStart (.ListComp elt [⟨.Name x px,iter,ifs,0⟩] scope pos) 0 (.ref it) acc { cenv with scope := relabel scope X.env }) (RR acc cenv.locals) s₄) E s₃) E s := by
 refine wpAny_newObj_type (wpAny_newFunctionEnv S.nocell (by intro y hy; simp at hy) (fun h₁ hns₁ hsb₁ => ?_) S.kind)
 dsimp only at hns₁ hsb₁ ⊢
 generalize hH2 : s.heap.push { cls := .type "list",dict := none,data := .seq ([] : List Value).toArray } = H2 at hns₁ hsb₁ ⊢
 have hC : H2.objs.size = s.heap.objs.size + 1 := by rw [← hH2,Heap.size_push]
 have hDC : s.heap.objs.size ≠ H2.objs.size := by rw [hC]; exact Nat.ne_of_lt (Nat.lt_succ_self _)
 have below : ∀ b,b < s.heap.objs.size → b ≠ H2.objs.size := fun b hb => by rw [hC]; exact Nat.ne_of_lt (Nat.lt_succ_of_lt hb)
 have old : ∀ b o,s.heap.get? b = some o → h₁.get? b = some o := fun b o e => hsb₁.extBut b o (below b (Heap.lt_size e)) (Heap.get?_push_of_some _ (hH2 ▸ Heap.get?_push_of_some _ e))
 have hacc : h₁.get? s.heap.objs.size = some (lobj [] 0) := hsb₁.extBut _ _ hDC (Heap.get?_push_of_some _ (hH2 ▸ Heap.get?_push_size _ rfl))
 have hlt : ∀ b ∈ fp,b < s.heap.objs.size := fun b hb => by
  obtain ⟨o,e,_⟩ := T.obj 0 _ t0 b hb
  exact Heap.lt_size e
 have hDfp : s.heap.objs.size ∉ fp := fun z => Nat.lt_irrefl _ (hlt _ z)
 have hDok : FpOk X pins H s.heap.objs.size := I.fpOk (Nat.le_refl _) (I.hok.fresh (Nat.le_refl _))
 have hCok : FpOk X pins H H2.objs.size := I.fpOk (by rw [hC]; exact Nat.le_succ _) (I.hok.fresh (by rw [hC]; exact Nat.le_succ _))
 rw [hC] at hns₁ hDC hCok ⊢
 clear hC
 generalize hD : s.heap.objs.size = D at hacc hDfp hDok hDC
 have IY := blk_inv S I hf hlt (h₁ := h₁) (tk := s.toks + ([] : List (Str × Value)).length) hns₁ old
 rw [hD] at IY hns₁ hCok
 generalize hY : blk X N scope (D + 1) s H (D :: fp) = Y at IY
 have envY : Y.env = compEnvC scope (closOf X.env.cells scope.names) (D + 1) X.env := by rw [← hY]; rfl
 have exY : Y.ex = D :: fp := by rw [← hY]; rfl
 have fsY : Y.fs = frs X.stack := by rw [← hY]; rfl
 have pnY : Y.pn = [] := by rw [← hY]; rfl
 have locY : Y.env.locals = D + 1 := by rw [envY]; rfl
 have hcY : PIfs Y ifs tc := by rw [← hY]; exact hc _ _ _ _
 have heY : PE Y elt te := by rw [← hY]; exact he _ _ _ _
 have prY : Y.prog = X.prog ∧ Y.w = X.w ∧ Y.K = X.K ∧ Y.calm = X.calm ∧ Y.A = X.A ∧ Y.N = N ∧ Y.xe = fun _ _ => False := by rw [← hY]; exact ⟨rfl,rfl,rfl,rfl,rfl,rfl,rfl⟩
 obtain ⟨pr1,pr2,pr3,pr4,pr5,pr6,pr7⟩ := prY
 have fpY : ∀ {H' : Hp} {pl : List (Addr × Obj)},(∀ b ∈ fp,H' b = none) → (∀ p ∈ pl,p.1 = D) → ∀ b ∈ fp,FpOk Y pl H' b := fun {H' pl} hn hp b hb => by
  refine ⟨hn b hb,?_,?_,.inl (by rw [exY]; exact List.mem_cons_of_mem _ hb),fun y c e => (IY.ok.exf b (by rw [exY]; exact List.mem_cons_of_mem _ hb)).2 y c e,fun p hpp z => ?_⟩
  · exact (IY.ok.exf b (by rw [exY]; exact List.mem_cons_of_mem _ hb)).1
  · exact IY.ok.exfs b (by rw [exY]; exact List.mem_cons_of_mem _ hb)
  · rw [pnY,List.nil_append] at hpp
    exact hDfp (by rw [← hp p hpp,z]; exact hb)
 have hDY : D ∈ Y.ex := by rw [exY]; exact List.mem_cons_self
 have pinD : ∀ {H' : Hp} {s' : Shared} {σ' : St} {its : List Value} {k : Nat},Inv Y [] σ' H' s' → H' D = none → s'.heap.get? D = some (lobj its k) → Inv Y [(D,lobj its k)] σ' H' s' := fun {H' s' σ' its k} I' hn e =>
  I'.pins_of fun p hp => by
   have hp' : p = (D,lobj its k) := by simpa using hp
   subst hp'
   refine ⟨e,hn,(IY.ok.exf D hDY).1,IY.ok.exfs D hDY,fun v z => ?_⟩
   have z' : Data.seq its.toArray k = Data.cell v := z
   cases z'
 obtain ⟨W,⟨m0,w0⟩,turn⟩ := wc
 have loop : ∀ s₃ : Shared,s₃ = { s with heap := h₁,toks := s.toks + ([] : List (Str × Value)).length } →
  codeAny (model X.prog X.w) X.A (.compLoop (.ListComp elt [⟨.Name x px,iter,ifs,0⟩] scope pos) 0 (.ref it) (.ref D) Y.env) (RR (.ref D) (D + 1)) s₃ := by
  rintro s₃ rfl
  refine codeAny_compLoop_tests
   (fun n s' => ∃ i ys its k H',Inv Y [(D,lobj its k)] (blkSt caps σ none) H' s' ∧ Vals ys its ∧ ys.length ≤ sizeLine ∧ tn i s'.heap ∧ (∀ b ∈ fp,H' b = none) ∧ W i n ys H') ?_ m0
   ⟨0,[],[],0,H,pinD IY hDok.1 hacc,.nil,Nat.zero_le _,T.keep _ _ _ t0 fun b _ o e => old b o e,fun b hb => (hf b hb).1,w0⟩
  rintro n s1 ⟨i,ys,its,k,H1,I1,rv,hl,st1,fr1,w1⟩
  have pin1 : ∀ p ∈ [(D,lobj its k)],p.1 = D := fun p hp => by
   have hp' : p = (D,lobj its k) := by simpa using hp
   rw [hp']
  rcases turn i n ys H1 w1 with ⟨stop,qn⟩ | ⟨go,hsz,Nx,hNx,step⟩
  · have z := T.done Y pr1 pr2 pr3 (pr4.trans hcalm) i [(D,lobj its k)] s1 (blkSt caps σ none) H1 (notedBy (model X.prog X.w) X.A Y.env fun e s' => RR (.ref D) (D + 1) (.error e) s') I1 (fpY fr1 pin1) st1 stop
    rw [pr5] at z
    refine thn z fun r s2 ⟨hr,I2⟩ => ?_
    subst hr
    obtain ⟨eD,nD,_,_,_⟩ := I2.pin (D,lobj its k) (List.mem_append_right _ List.mem_cons_self)
    have hU : Un (frs X.stack) (D :: fp) H (upd H1 D (.lst ys)) s.heap s2.heap := by
     have b := I2.base
     rw [fsY,exY] at b
     have b' : Un (frs X.stack) (D :: fp) H H1 s.heap s2.heap := by
      have e1 : Y.H₀ = H := by rw [← hY]; rfl
      have e2 : Y.s₀ = s := by rw [← hY]; rfl
      rw [e1,e2] at b; exact b
     have ne : ∀ a u,H1 a = some u → a ≠ D := fun a u e => ne_of_none e nD
     exact ⟨b'.keep,b'.slot,fun a o e n hx => by rw [upd_ne (fun z => hx (by rw [z]; exact List.mem_cons_self))]; exact b'.free a o e n hx,b'.there,
      fun a xs e => by rw [upd_ne (ne _ _ (b'.tups a xs e))]; exact b'.tups a xs e,fun a o u e => by rw [upd_ne (ne _ _ (b'.frzs a o u e))]; exact b'.frzs a o u e,
      fun a ps e => by obtain ⟨mo,q⟩ := b'.tbls a ps e; exact ⟨mo,by rw [upd_ne (ne _ _ q)]; exact q⟩⟩
    have hHok : HOk X.prog X.w (upd H1 D (.lst ys)) s2.heap := by
     have q := I2.hok
     rw [pr1,pr2] at q
     exact q.adopt nD ⟨hl,its,k,rv,eD⟩
    have IX : Inv X pins σ (upd H1 D (.lst ys)) s2 := I.call' (by have := I2.os; rw [show Y.s₀ = s by rw [← hY]; rfl] at this; exact this) hU hHok I2.bare (fun b hb => by
     rcases List.mem_cons.mp hb with rfl | hb
     · exact ⟨hDok.2.2.2.1,hDok.2.1,hDok.2.2.2.2.1,hDok.2.2.2.2.2⟩
     · have q := hf b hb
       exact ⟨q.2.2.2.1,q.2.1,q.2.2.2.2.1,q.2.2.2.2.2⟩)
    obtain ⟨mC,hnC,_⟩ := I2.loc
    rw [locY] at hnC
    have fC := I2.free
    rw [locY] at fC
    exact fin D (D + 1) s2 mC H1 ys IX (qn D nD) hnC ⟨by rw [upd_ne (fun z => hDC z.symm)]; exact fC,hCok.2⟩ hCok.2.1
  · have z := wp_pull (T.item Y pr1 pr2 pr3 (pr4.trans hcalm) i [(D,lobj its k)] s1 (blkSt caps σ none) H1 (notedBy (model X.prog X.w) X.A Y.env fun e s' => RR (.ref D) (D + 1) (.error e) s') I1 (fpY fr1 pin1) st1 go)
    rw [pr5] at z
    refine thn z fun r s2 ⟨u,hr,v,H2,I2,ru,yld,st2,fr2⟩ => ?_
    subst hr
    have I2' := I2.pinned (fpY fr2 pin1) (T.obj _ _ st2)
    have lxY : Y.env.scope.names.lookup x = some .local := by rw [envY]; exact lookup_relabel_local S.lx
    have g := pg_name (X := Y) (i := 0) (x := x) (pos := px) (by rw [pr6]; exact S.nd) (by rw [pr6]; exact S.n0) (.inl lxY) (.inr lxY)
    have a := g _ s2 _ H2 v u (fun σ' H' => σ' = blkSt caps σ (some v) ∧ H' = H2) I2' ru ⟨rfl,rfl⟩
    rw [pr1,pr2,pr5,pr7] at a
    refine wpAny_mono a (fun _ s3 ⟨σ3,H3,I3,e1,e2⟩ => ?_) fun _ _ f => f.elim
    subst e1 e2
    have c := hcY _ s3 _ H3 _ I3 (step v H3 yld)
    rw [pr1,pr2,pr5,pr7] at c
    refine wpAny_mono c (fun b s4 ⟨H4,I4,q4⟩ => ?_) fun _ _ f => f.elim
    have again : ∀ {s5 : Shared} {H5 : Hp} {ys' : List V} {its' : List Value} {k' m' : Nat},Inv Y (pinsAt fp s2.heap) (blkSt caps σ (some v)) H5 s5 → H5 D = none → s5.heap.get? D = some (lobj its' k') → Vals ys' its' → ys'.length ≤ sizeLine → m' < n → W (i + 1) m' ys' H5 →
     ∃ m,m < n ∧ ∃ i ys its k H',Inv Y [(D,lobj its k)] (blkSt caps σ none) H' s5 ∧ Vals ys its ∧ ys.length ≤ sizeLine ∧ tn i s5.heap ∧ (∀ b ∈ fp,H' b = none) ∧ W i m ys H' := fun {s5 H5 ys' its' k' m'} I5 nD eD rv' hl' hm w' => by
     refine ⟨m',hm,i + 1,ys',its',k',H5,pinD ((I5.pins_of fun p hp => by simp at hp).weak (by simp [blkSt]) fun j w hj => ?_) nD eD,rv',hl',T.keep _ _ _ st2 fun b hb o e => (I5.pin (b,o) (List.mem_append_right _ (mem_pinsAt hb e))).1,fun b hb => ?_,w'⟩
     · cases j with
       | zero => simp [blkSt] at hj
       | succ j => simpa [blkSt] using hj
     · obtain ⟨o,e,d⟩ := T.obj _ _ st2 b hb
       exact (I5.pin (b,o) (List.mem_append_right _ (mem_pinsAt hb e))).2.1
    have drop1 : ∀ {s5 : Shared} {H5 : Hp} {σ5 : St},Inv Y ([(D,lobj its k)] ++ pinsAt fp s2.heap) σ5 H5 s5 → Inv Y (pinsAt fp s2.heap) σ5 H5 s5 := fun I5 => I5.pins_of fun p hp => I5.pin p (List.mem_append_right _ (List.mem_append_right _ hp))
    cases b with
    | false =>
     obtain ⟨m',hm,w'⟩ := hNx _ _ q4
     obtain ⟨eD,nD,_⟩ := I4.pin (D,lobj its k) (List.mem_append_right _ (List.mem_append_left _ List.mem_cons_self))
     exact again (drop1 I4) nD eD rv hl hm w'
    | true =>
     rw [if_pos rfl]
     rw [if_pos rfl] at q4
     have d := heY _ s4 _ H4 _ I4 q4
     rw [pr1,pr2,pr5,pr7] at d
     refine wpAny_mono d (fun w s5 ⟨y,H5,I5,ry,q5⟩ => ?_) fun _ _ f => f.elim
     obtain ⟨m',hm,w'⟩ := hNx _ _ q5
     obtain ⟨eD,nD,_⟩ := I5.pin (D,lobj its k) (List.mem_append_right _ (List.mem_append_left _ List.mem_cons_self))
     refine append_at (hsz := by rw [List.size_toArray,← rv.length]; exact hl) eD fun h6 hs6 hD6 => ?_
     have I6 : Inv Y (pinsAt fp s2.heap) (blkSt caps σ (some v)) H5 { s5 with heap := h6,toks := s5.toks } := (drop1 I5).turned (fun b o hb e => (hs6.2 b hb).trans e) nD (IY.ok.exf D hDY).1 (.inl hDY) (fun y c e => (IY.ok.exf D hDY).2 y c e) (fun p hp => by
      rw [pnY,List.nil_append] at hp
      intro z
      exact hDfp (by rw [← z]; exact (of_pinsAt hp).1))
     refine again (ys' := ys ++ [y]) (its' := its ++ [w]) (k' := k + 1) I6 nD ?_ (rv.append (.cons ry .nil)) (by rw [List.length_append,List.length_singleton]; exact hsz) hm w'
     rw [hD6]
     show some ({ cls := .type "list",data := .seq (its.toArray.push w) (k + 1) } : Obj) = some { cls := .type "list",data := .seq (its ++ [w]).toArray (k + 1) }
     rw [List.push_toArray]
 rw [envY] at loop
 have st1 : tn 0 h₁ := T.keep _ _ _ t0 fun b _ o e => old b o e
 exact codeAny_compStart_list (loop _ rfl) (T.self _ 0 _ _ _ st1 (loop _ rfl))
theorem pe_comp {elt iter : Expr} {px pos : Pos} {ifs : List Expr} {wi : TI} {tc : TT} {te : TE} (hcalm : X.calm = true) (S : CSc X scope x N caps) (hi : PI X (.Name x px) iter wi)
 (hc : ∀ C s H ex,PIfs (blk X N scope C s H ex) ifs tc) (he : ∀ C s H ex,PE (blk X N scope C s H ex) elt te) (hs : ∀ x,foldedSetIterable iter X.env x = pure x := by intro _; rfl) :
 PE X (.ListComp elt [⟨.Name x px,iter,ifs,0⟩] scope pos) (tComp wi caps tc te) := by
 intro pins s σ H Q I h
 rw [eval_ListComp]
 refine wpAny_comprehension_free (use := none) rfl hs (closureFor_of (S.cells I.ok)) S.kind S.names (thn (hi pins s σ H _ I h) fun xv s1 h1 => thn h1 fun itv s2 h2 => ?_)
 obtain ⟨it,fp,tn,J,H2,e,I2,T,st2,f2,wc⟩ := h2
 subst e
 refine comp_block (RR := fun acc C => compPost (model X.prog X.w) X.A X.xe none (EP X pins σ Q) acc C) hcalm S hc he I2 T st2 f2 wc fun D C s' m' H' ys I' q hn fC _ => ?_
 refine ⟨m',hn,fun h' hs' => ⟨.ref D,upd H' D (.lst ys),?_,rfl,q⟩⟩
 exact I'.turned (t' := s'.toks) (fun b o hb e => (hs'.2 b hb).trans e) fC.1 fC.2.1 fC.2.2.2.1 fC.2.2.2.2.1 fC.2.2.2.2.2
theorem ps_comp {elt iter : Expr} {px py pos spos : Pos} {ifs : List Expr} {wi : TI} {tc : TT} {te : TE} {y : Str} {i : Nat} (hcalm : X.calm = true) (S : CSc X scope x N caps) (hi : PI X (.Name x px) iter wi)
 (hc : ∀ C s H ex,PIfs (blk X N scope C s H ex) ifs tc) (he : ∀ C s H ex,PE (blk X N scope C s H ex) elt te) (hN : X.N.Nodup) (hy : X.N[i]? = some y) (hx : X.env.scope.names.lookup y = some .local)
 (hsw : swapsWith (.ListComp elt [⟨.Name x px,iter,ifs,0⟩] scope pos) (some (.Name y py)) spos.line X.env = pure true) (hs : ∀ x,foldedSetIterable iter X.env x = pure x := by intro _; rfl) :
 PS X (.Assign [.Name y py] (.ListComp elt [⟨.Name x px,iter,ifs,0⟩] scope pos) spos) (fun D σ H => tComp wi caps tc te σ H fun v H1 => D.nx (σ.set i (some v)) H1) := by
 intro pins s σ H D I h
 rw [exec_Assign_Name_used _ _ _ _ hsw]
 refine wpAny_bind (wpAny_standAt (wpAny_bind ?_))
 show wpAny _ X.A (do let _ ← comprehension (.ListComp elt [⟨.Name x px,iter,ifs,0⟩] scope pos) scope X.env _ (newList []) false (eval iter X.env) (some (assign (.Name y py) X.env))) _ _ s
 refine wpAny_bind (wpAny_mono (wpAny_comprehension_free (use := some (assign (.Name y py) X.env)) (Q := fun _ s' => SP X pins D .next s') rfl hs (closureFor_of (S.cells I.ok)) S.kind S.names
  (thn (hi pins s σ H _ I h) fun xv s1 h1 => thn h1 fun itv s2 h2 => ?_)) (fun _ s' hq => wpAny_pure (wpAny_pure hq)) fun _ _ e => e)
 obtain ⟨it,fp,tn,J,H2,e,I2,T,st2,f2,wc⟩ := h2
 subst e
 refine comp_block (RR := fun acc C => compPost (model X.prog X.w) X.A X.xe (some (assign (.Name y py) X.env)) (fun _ s' => SP X pins D .next s') acc C) hcalm S hc he I2 T st2 f2 wc fun d C s' m' H' ys I' q hn fC hCL => ?_
 show wpAny _ X.A (assign (.Name y py) X.env (.ref d)) _ _ _
 refine wpAny_assign_Name (store_ok2 I' hN hy (.inl hx) (v := .ref d) rfl (fun s'' I'' ⟨a,hs,ha⟩ => ?_) (.inr hx))
 have hne : C ≠ a := by
  rcases ha with rfl | ha
  · exact hCL
  · exact fun z => fC.2.2.2.2.1 _ _ ha z.symm
 refine ⟨m',hn.sameBut hs hne,fun h' hs' => ⟨_,_,I''.turned (t' := s''.toks) (fun b o hb e => (hs'.2 b hb).trans e) fC.1 fC.2.1 fC.2.2.2.1 fC.2.2.2.2.1 fC.2.2.2.2.2,q⟩⟩
end
end L2
namespace L2
open PySem PySem.Spec PyProof.Rows
noncomputable def Its (x : Str) : It := ⟨fun i _ => i < x.cps.size,fun i H v H' => H' = H ∧ ∃ c,x.cps[i]? = some c ∧ v = .str ⟨#[c]⟩,fun i _ => i = x.cps.size⟩
theorem turn_str {P : Program} {w : World} {K : PySem.W.Frag} {tg : Expr} (it : Addr) (x : Str) (t : Tok) {ty : String} (hty : ty = "str_ascii_iterator" ∨ ty = "str_iterator") : Turn P w K tg (Its x) [it] it (fun i h => h.IsStrIter it ty x t i) where
 mem := by simp
 obj := fun i h st b hb => by
  have e : b = it := by simpa using hb
  subst e
  obtain ⟨o,e,c,d⟩ := st
  exact ⟨o,e,fun v z => by rw [d] at z; cases z⟩
 keep := fun i h h' st k => by
  obtain ⟨o,e,c,d⟩ := st
  exact ⟨o,k it (by simp) o e,c,d⟩
 item := by
  intro X hP hw hK hc i pins s σ H E I hf st hg
  subst hP hw hK
  obtain ⟨f0,f1,f2,f3,f4,f5⟩ := hf it (by simp)
  have W : Walks X.prog X.w X.A it [it] [it] x.cps.size (SignAt x) (fun i h => h.IsStrIter it ty x t i) := by
   rcases hty with rfl | rfl
   · exact Walks.strAscii (I.ok.hd hc) it x t
   · exact Walks.strWide (I.ok.hd hc) it x t
  refine W.item i s _ _ hg st fun v h' tk hv st' kk => ?_
  obtain ⟨c,u,e,rfl⟩ := hv
  have I1 : Inv X pins σ H { s with heap := h',toks := tk } := I.turned (fun b o hb e => kk b o (by simpa using hb) e) f0 f1 f3 f4 f5
  obtain ⟨o,eo,co,dO⟩ := id st'
  refine ⟨_,rfl,go_of (s := { s with heap := h',toks := tk }) eo co dO (by rcases hty with rfl | rfl <;> decide) ⟨.str ⟨#[c]⟩,H,I1,⟨u,rfl⟩,⟨rfl,c,e,rfl⟩,st',fun b hb => (hf b hb).1⟩⟩
 done := by
  intro X hP hw hK hc i pins s σ H E I hf st hg
  subst hP hw hK
  obtain ⟨f0,f1,f2,f3,f4,f5⟩ := hf it (by simp)
  have W : Walks X.prog X.w X.A it [it] [it] x.cps.size (SignAt x) (fun i h => h.IsStrIter it ty x t i) := by
   rcases hty with rfl | rfl
   · exact Walks.strAscii (I.ok.hd hc) it x t
   · exact Walks.strWide (I.ok.hd hc) it x t
  have hg' : i = x.cps.size := hg
  subst hg'
  exact W.done s _ _ st fun h' tk kk => ⟨rfl,I.turned (fun b o hb e => kk b o (by simpa using hb) e) f0 f1 f3 f4 f5⟩
 self := fun _ _ _ _ _ st h => by
  rcases hty with rfl | rfl
  · exact wpAny_pyIter_striter_ascii st h
  · exact wpAny_pyIter_striter_wide st h
noncomputable def iStr (tl : TE) : TI := fun σ H R => tl σ H fun x H1 => ∃ z,x = .str z ∧ R (Its z) H1
theorem pi_str {X : Cx} {tg l : Expr} {tl : TE} (hl : PE X l tl) : PI X tg l (iStr tl) := by
 intro pins s σ H R I h
 refine thn (hl pins s σ H _ I h) fun v s1 ⟨x,H1,I1,r1,q1⟩ => ?_
 obtain ⟨z,e,q⟩ := q1
 subst e
 obtain ⟨t,rfl⟩ := r1
 have fin : ∀ {ty : String},ty = "str_ascii_iterator" ∨ ty = "str_iterator" → PIE X pins σ tg R (.ref s1.heap.objs.size) { s1 with heap := s1.heap.push { cls := .type ty,data := .fields #[.str z t,.int 0 0] } } := fun {ty} hty => by
  refine ⟨s1.heap.objs.size,[s1.heap.objs.size],_,_,H1,rfl,I1.kept (t' := s1.toks) fun b o e => Heap.get?_push_of_some _ e,turn_str _ z t hty,⟨_,Heap.get?_push_size _ rfl,rfl,rfl⟩,fun b hb => ?_,q⟩
  have e : b = s1.heap.objs.size := by simpa using hb
  subst e
  exact I1.fpOk (Nat.le_refl _) (I1.hok.fresh (Nat.le_refl _))
 cases ha : z.cps.all (· < 128)
 · exact wpAny_pyIter_wide ha (fin (.inr rfl))
 · exact wpAny_pyIter_ascii ha (fin (.inl rfl))
theorem comp_list {K : PySem.W.Frag} {a : Addr} {xs : List V} {caps : List Nat} {tc : TT} {te : TE} {σ : St} {H : Hp} {Q : VK} (Pv : Nat → List V → Hp → Prop) (h0 : Pv 0 [] H) (hx : xs.length < sizeLine) (hy : ∀ i ys H,Pv i ys H → ys.length ≤ i)
 (hl : ∀ i ys H,i ≤ xs.length → Pv i ys H → SqL K H a xs)
 (hs : ∀ i x ys H,xs[i]? = some x → Pv i ys H → tc (blkSt caps σ (some x)) H fun b H2 => if b = true then te (blkSt caps σ (some x)) H2 fun y H3 => Pv (i + 1) (ys ++ [y]) H3 else Pv (i + 1) ys H2)
 (hd : ∀ ys H,Pv xs.length ys H → ∀ p,H p = none → Q (.ref p) (upd H p (.lst ys))) : wComp (Itl K a) caps tc te σ H Q := by
 refine ⟨fun i m ys H => m = xs.length - i ∧ i ≤ xs.length ∧ Pv i ys H,⟨xs.length,by simp,Nat.zero_le _,h0⟩,?_⟩
 rintro i m ys H ⟨rfl,hi,p⟩
 have q := hl i ys H hi p
 by_cases hlt : i < xs.length
 · refine .inr ⟨⟨xs,xs[i],q,by simp [hlt]⟩,Nat.lt_of_le_of_lt (Nat.le_trans (hy i ys H p) hi) hx,Pv (i + 1),fun ys' H' p' => ⟨xs.length - (i + 1),by omega,rfl,hlt,p'⟩,fun x H' y => ?_⟩
   obtain ⟨e,y⟩ := y
   subst e
   exact hs i x ys _ (y xs q) p
 · have e : i = xs.length := by omega
   subst e
   exact .inl ⟨⟨xs,q,Nat.le_refl _⟩,hd ys H p⟩
theorem comp_str {x : Str} {caps : List Nat} {tc : TT} {te : TE} {σ : St} {H : Hp} {Q : VK} (Pv : Nat → List V → Hp → Prop) (h0 : Pv 0 [] H) (hx : x.cps.size < sizeLine) (hy : ∀ i ys H,Pv i ys H → ys.length ≤ i)
 (hs : ∀ i c ys H,x.cps[i]? = some c → Pv i ys H → tc (blkSt caps σ (some (.str ⟨#[c]⟩))) H fun b H2 => if b = true then te (blkSt caps σ (some (.str ⟨#[c]⟩))) H2 fun y H3 => Pv (i + 1) (ys ++ [y]) H3 else Pv (i + 1) ys H2)
 (hd : ∀ ys H,Pv x.cps.size ys H → ∀ p,H p = none → Q (.ref p) (upd H p (.lst ys))) : wComp (Its x) caps tc te σ H Q := by
 refine ⟨fun i m ys H => m = x.cps.size - i ∧ i ≤ x.cps.size ∧ Pv i ys H,⟨x.cps.size,by simp,Nat.zero_le _,h0⟩,?_⟩
 rintro i m ys H ⟨rfl,hi,p⟩
 by_cases hlt : i < x.cps.size
 · refine .inr ⟨hlt,Nat.lt_of_le_of_lt (Nat.le_trans (hy i ys H p) hi) hx,Pv (i + 1),fun ys' H' p' => ⟨x.cps.size - (i + 1),by omega,rfl,hlt,p'⟩,fun v H' y => ?_⟩
   obtain ⟨e,c,ec,ev⟩ := y
   subst e ev
   exact hs i c ys _ ec p
 · have e : i = x.cps.size := by omega
   subst e
   exact .inl ⟨rfl,hd ys H p⟩
section
variable {X : Cx}
noncomputable def rSlS : V → Option Int → Option Int → Hp → VK → Prop := fun x lo hi H Q => ∃ z,x = .str z ∧ z.length ≤ sizeLine ∧ Q (.str (Txt.slice z lo hi)) H
theorem sl_str : SlR X rSlS := by
 intro pins s σ H x v vl vu lo hi sl Q I rx hs pl pu h
 obtain ⟨z,rfl,hz,q⟩ := h
 obtain ⟨t,rfl⟩ := rx
 refine ⟨"str",_,F.slot_str_getitem.lookup,typeIs_str _ _ _,?_⟩
 have fin : ∀ t' k,EP X pins σ Q (.str (Txt.slice z lo hi) t') { s with toks := k } := fun t' k => ⟨.str _,H,I.tok _,⟨_,rfl⟩,q⟩
 cases pl with
 | none =>
  cases pu with
  | none => exact wpAny_getItem_str_slice (l := none) (u := none) (st := none) hs rfl (post_val_or_str ⟨Nat.le_trans (Txt.slice_le z _ _) hz,fin⟩)
  | int j uj => exact wpAny_getItem_str_slice (l := none) (u := some (j,uj)) (st := none) hs rfl (post_val_or_str ⟨Nat.le_trans (Txt.slice_le z _ _) hz,fin⟩)
 | int i ui =>
  cases pu with
  | none => exact wpAny_getItem_str_slice (l := some (i,ui)) (u := none) (st := none) hs rfl (post_val_or_str ⟨Nat.le_trans (Txt.slice_le z _ _) hz,fin⟩)
  | int j uj => exact wpAny_getItem_str_slice (l := some (i,ui)) (u := some (j,uj)) (st := none) hs rfl (post_val_or_str ⟨Nat.le_trans (Txt.slice_le z _ _) hz,fin⟩)
theorem op_le_str : OpR X (compareOp .LtE) (fun x y H Q => ∃ i j,x = .str i ∧ y = .str j ∧ Q (.bl (!decide (j.cps.toList < i.cps.toList))) H) := by
 intro pins s σ H x y v u Q I rx ry h
 obtain ⟨i,j,rfl,rfl,q⟩ := h
 obtain ⟨t,rfl⟩ := rx
 obtain ⟨t',rfl⟩ := ry
 exact PySem.P.le_str ⟨.bl _,H,I,rfl,q⟩
theorem strsAre_of {ys : List Str} : ∀ {us : List Value},Vals (ys.map V.str) us → StrsAre us ys := by
 induction ys with
 | nil => intro us r; cases r; exact .nil
 | cons y ys ih =>
  intro us r
  cases r with
  | cons r t =>
   obtain ⟨k,rfl⟩ := r
   exact .cons y k (ih t)
noncomputable def rJoin (K : PySem.W.Frag) : V → List V → Hp → VK → Prop := fun x xs H Q => ∃ sep a ys,x = .str sep ∧ xs = [.ref a] ∧ (SqL K H a (ys.map V.str) ∨ SqT K H a (ys.map V.str)) ∧ (ys.map (·.length)).sum + ys.length * sep.length ≤ 16777216 ∧ Q (.str (Txt.join sep ys)) H
theorem mt_join : MtR X "str.join" (rJoin X.K) := by
 intro pins s σ H x xs v us Q I rx rs h
 obtain ⟨sep,a,ys,rfl,rfl,hq,hok,q⟩ := h
 obtain ⟨t,rfl⟩ := rx
 obtain ⟨u,rfl,ru⟩ := vals1 rs
 cases ru
 rcases hq with hq | hq
 · obtain ⟨its,rv,p,hz⟩ := I.list hq
   exact join_list p.isList (strsAre_of rv) hok fun t' k => ⟨.str _,H,I.tok _,⟨_,rfl⟩,q⟩
 · obtain ⟨its,rv,p,hz⟩ := I.tuple hq
   exact join_tuple p (strsAre_of rv) hok fun t' k => ⟨.str _,H,I.tok _,⟨_,rfl⟩,q⟩
noncomputable def tJs : List TE → Str → TE
 | [],acc => fun _ H Q => acc.length ≤ sizeLine ∧ Q (.str acc) H
 | t :: r,acc => fun σ H Q => t σ H fun v H1 => ∃ y,v = .str y ∧ (acc ++ y).length ≤ sizeLine ∧ tJs r (acc ++ y) σ H1 Q
inductive PEs (X : Cx) : List Expr → List TE → Prop
 | nil : PEs X [] []
 | cons {e : Expr} {t : TE} {es : List Expr} {ts : List TE} : PE X e t → PEs X es ts → PEs X (e :: es) (t :: ts)
theorem pe_parts {pins : List (Addr × Obj)} {σ : St} {Q : VK} {es : List Expr} {ts : List TE} (h : PEs X es ts) : ∀ (acc : Str) (H : Hp) (s : Shared),Inv X pins σ H s → tJs ts acc σ H Q →
 Joins (model X.prog X.w) X.A X.xe (evalEach es X.env) acc (fun out s₁ => out.length ≤ sizeLine ∧ EP X pins σ Q (.str out s₁.toks) { s₁ with toks := s₁.toks + 1 }) s := by
 induction h with
 | nil => intro acc H s I h; exact ⟨h.1,.str acc,H,I.tok _,⟨_,rfl⟩,h.2⟩
 | @cons e t es ts he _ ih =>
  intro acc H s I h
  refine thn (he pins s σ H _ I h) fun v s1 ⟨x,H1,I1,r1,y,ey,hz,q⟩ => ?_
  subst ey
  obtain ⟨t,rfl⟩ := r1
  exact ⟨y,t,rfl,hz,ih _ H1 s1 I1 q⟩
theorem pe_js {e1 e2 : Expr} {es : List Expr} {ts : List TE} {pos : Pos} (h : PEs X (e1 :: e2 :: es) ts) : PE X (.JoinedStr (e1 :: e2 :: es) pos) (tJs ts Str.empty) := by
 intro pins s σ H Q I hw
 exact JoinedStr_many (wpAny_joinPartsRec _ _ _ _ (pe_parts h _ H s I hw))
theorem truthOf_bools {P : Program} {w : World} {A : Around} {bs : List Bool} {its : List Value} (r : Vals (bs.map V.bl) its) : TruthOf P w A (fun i v => its.toArray[i]? = some v) (fun i => bs.getD i false) := fun i v s Q E hv hq => by
 have hv' : its[i]? = some v := by simpa using hv
 have hi : i < its.length := (List.getElem?_eq_some_iff.mp hv').1
 have hb : i < bs.length := by have := r.length; simp at this; omega
 obtain ⟨u,hu,ru⟩ := r.get (i := i) (x := .bl bs[i]) (by simp [hb])
 rw [hv'] at hu; cases hu
 cases ru
 have e : bs.getD i false = bs[i] := by simp [List.getD,hb]
 have hq' : Q (bs.getD i false) s := hq
 rw [e] at hq'
 exact wpAny_truthy_bool hq'
theorem all_range (bs : List Bool) : (List.range bs.length).all (fun i => bs.getD i false) = bs.all id := by
 rw [Bool.eq_iff_iff,List.all_eq_true,List.all_eq_true]
 constructor
 · intro h b hb
   obtain ⟨i,hi,rfl⟩ := List.mem_iff_getElem.mp hb
   have := h i (List.mem_range.mpr hi)
   simpa [List.getD,hi] using this
 · intro h i hi
   have hi := List.mem_range.mp hi
   have := h bs[i] (List.getElem_mem hi)
   simpa [List.getD,hi] using this
theorem any_range (bs : List Bool) : (List.range bs.length).any (fun i => bs.getD i false) = bs.any id := by
 rw [Bool.eq_iff_iff,List.any_eq_true,List.any_eq_true]
 constructor
 · rintro ⟨i,hi,h⟩
   have hi := List.mem_range.mp hi
   exact ⟨bs[i],List.getElem_mem hi,by simpa [List.getD,hi] using h⟩
 · rintro ⟨b,hb,h⟩
   obtain ⟨i,hi,rfl⟩ := List.mem_iff_getElem.mp hb
   exact ⟨i,List.mem_range.mpr hi,by simpa [List.getD,hi] using h⟩
theorem call_all (hc : X.calm = true) : CallR X (.builtin "all") (fun xs H Q => ∃ (a : Addr) (bs : List Bool),xs = [.ref a] ∧ SqL X.K H a (bs.map V.bl) ∧ Q (.bl (bs.all id)) H) := by
 intro pins s σ H xs us Q I r h
 obtain ⟨a,bs,rfl,hq,q⟩ := h
 obtain ⟨u,rfl,ru⟩ := vals1 r
 cases ru
 obtain ⟨its,rv,p,hz⟩ := I.list hq
 have I1 : Inv X pins σ H { s with heap := s.heap.push { cls := .type "list_iterator",data := .fields #[.ref a,.int 0 0] } } := I.kept (t' := s.toks) fun b o e => Heap.get?_push_of_some _ e
 have fp := I.fpOk (b := s.heap.objs.size) (Nat.le_refl _) (I.hok.fresh (Nat.le_refl _))
 have hl := rv.length
 have hlt : a < s.heap.objs.size := by obtain ⟨o,ho,_⟩ := p.isList; exact Heap.lt_size ho
 refine call_all_walk (wpAny_pyIter_list p.isList ⟨s.heap.objs.size,[s.heap.objs.size,a],[s.heap.objs.size],its.toArray.size,_,_,fun i => bs.getD i false,rfl,
  Walks.list (A := X.A.in1) (show X.A.in1.handled = none from I.ok.hd hc) _ _ (Nat.ne_of_lt hlt) its.toArray,⟨⟨_,Heap.get?_push_size _ rfl,rfl,rfl⟩,p.isList.push _⟩,truthOf_bools rv,fun h' tk kk => ?_⟩)
 refine ⟨.bl (bs.all id),H,I1.turned (fun b o hb e => kk b o (by simpa using hb) e) fp.1 fp.2.1 fp.2.2.2.1 fp.2.2.2.2.1 fp.2.2.2.2.2,?_,q⟩
 have e : its.toArray.size = bs.length := by simp at hl ⊢; exact hl.symm
 rw [e,all_range]
 rfl
end
end L2
namespace L2
open PySem PySem.Spec PyProof.Rows
inductive D where
 | non | bl (b : Bool) | int (i : Int) | str (x : Str) | tup (ds : List D) | lst (ds : List D)
mutual
noncomputable def D.eq : D → D → Bool
 | .non,e => match e with | .non => true | _ => false
 | .bl a,e => match e with | .bl b => a == b | .int j => (if a then (1 : Int) else 0) == j | _ => false
 | .int i,e => match e with | .int j => i == j | .bl b => i == (if b then (1 : Int) else 0) | _ => false
 | .str x,e => match e with | .str y => x == y | _ => false
 | .tup ds,e => match e with | .tup es => D.eqs ds es | _ => false
 | .lst ds,e => match e with | .lst es => D.eqs ds es | _ => false
noncomputable def D.eqs : List D → List D → Bool
 | [],es => es.isEmpty
 | d :: ds,es => match es with | [] => false | e :: r => D.eq d e && D.eqs ds r
end
mutual
noncomputable def D.dp : D → Nat
 | .tup ds => D.dps ds + 1
 | .lst ds => D.dps ds + 1
 | _ => 0
noncomputable def D.dps : List D → Nat
 | [] => 0
 | d :: ds => max (D.dp d) (D.dps ds)
end
mutual
noncomputable def D.cl : D → Bool
 | .bl _ => false
 | .tup ds => D.cls ds
 | .lst ds => D.cls ds
 | _ => true
noncomputable def D.cls : List D → Bool
 | [] => true
 | d :: ds => D.cl d && D.cls ds
end
mutual
theorem D.eq_refl : ∀ d : D,D.eq d d = true
 | .non => rfl
 | .bl b => by simp [D.eq]
 | .int i => by simp [D.eq]
 | .str x => by simp [D.eq]
 | .tup ds => by simp only [D.eq]; exact D.eqs_refl ds
 | .lst ds => by simp only [D.eq]; exact D.eqs_refl ds
theorem D.eqs_refl : ∀ ds : List D,D.eqs ds ds = true
 | [] => rfl
 | d :: ds => by simp only [D.eqs,D.eq_refl d,D.eqs_refl ds,Bool.and_self]
end
mutual
theorem D.eq_of : ∀ (d e : D),d.cl = true → e.cl = true → D.eq d e = true → d = e
 | .non,e,_,_,h => by cases e <;> first | rfl | (simp [D.eq] at h)
 | .bl b,e,c,_,_ => by simp [D.cl] at c
 | .int i,e,_,c,h => by cases e <;> first | (exfalso; simp [D.cl] at c; done) | (simp [D.eq] at h; rw [h]; done) | (simp [D.eq] at h)
 | .str x,e,_,_,h => by cases e <;> first | (simp [D.eq] at h; rw [h]) | (simp [D.eq] at h)
 | .tup ds,e,c,c',h => by
  cases e <;> first
   | (rename_i es
      simp only [D.eq] at h
      simp only [D.cl] at c c'
      rw [D.eqs_of ds es c c' h])
   | (simp [D.eq] at h)
 | .lst ds,e,c,c',h => by
  cases e <;> first
   | (rename_i es
      simp only [D.eq] at h
      simp only [D.cl] at c c'
      rw [D.eqs_of ds es c c' h])
   | (simp [D.eq] at h)
theorem D.eqs_of : ∀ (ds es : List D),D.cls ds = true → D.cls es = true → D.eqs ds es = true → ds = es
 | [],es,_,_,h => by cases es <;> first | rfl | (simp [D.eqs] at h)
 | d :: ds,es,c,c',h => by
  cases es with
  | nil => simp [D.eqs] at h
  | cons e r =>
   simp only [D.eqs,Bool.and_eq_true] at h
   simp only [D.cls,Bool.and_eq_true] at c c'
   rw [D.eq_of d e c.1 c'.1 h.1,D.eqs_of ds r c.2 c'.2 h.2]
end
theorem D.eq_iff {d e : D} (c : d.cl = true) (c' : e.cl = true) : D.eq d e = true ↔ d = e := ⟨D.eq_of d e c c',fun h => by rw [h]; exact D.eq_refl e⟩
theorem D.eq_dec {d e : D} {p : Prop} [Decidable p] (c : d.cl = true) (c' : e.cl = true) (h : d = e ↔ p) : D.eq d e = decide p := by
 rw [Bool.eq_iff_iff,D.eq_iff c c',h,decide_eq_true_iff]
theorem D.eqs_length : ∀ {ds es : List D},D.eqs ds es = true → ds.length = es.length
 | [],es,h => by cases es <;> simp_all [D.eqs]
 | d :: ds,es,h => by
  cases es with
  | nil => simp [D.eqs] at h
  | cons e r =>
   simp only [D.eqs,Bool.and_eq_true] at h
   simp [D.eqs_length h.2]
theorem D.eqs_all : ∀ (ds es : List D),(((List.range (min ds.length es.length)).all fun j => D.eq (ds.getD j .non) (es.getD j .non)) && ds.length == es.length) = D.eqs ds es
 | [],es => by cases es <;> simp [D.eqs]
 | d :: ds,es => by
  cases es with
  | nil => simp [D.eqs]
  | cons e r =>
   have ih := D.eqs_all ds r
   have e1 : min (d :: ds).length (e :: r).length = min ds.length r.length + 1 := by simp only [List.length_cons]; omega
   have e2 : ((d :: ds).length == (e :: r).length) = (ds.length == r.length) := by simp
   have e3 : ((List.range (min ds.length r.length + 1)).all fun j => D.eq ((d :: ds).getD j .non) ((e :: r).getD j .non)) = (D.eq d e && (List.range (min ds.length r.length)).all fun j => D.eq (ds.getD j .non) (r.getD j .non)) := by
    rw [List.range_succ_eq_map,List.all_cons,List.all_map]
    rfl
   rw [e1,e2,e3]
   simp only [D.eqs]
   rw [← ih,Bool.and_assoc]
mutual
noncomputable def Dt (H : Hp) : D → V → Prop
 | .non,v => v = .non
 | .bl b,v => v = .bl b
 | .int i,v => v = .int i
 | .str x,v => v = .str x
 | .tup ds,v => ∃ a vs,v = .ref a ∧ H a = some (.tup vs) ∧ Dts H ds vs
 | .lst ds,v => ∃ a vs,v = .ref a ∧ H a = some (.lst vs) ∧ Dts H ds vs
noncomputable def Dts (H : Hp) : List D → List V → Prop
 | [],vs => vs = []
 | d :: ds,vs => ∃ v r,vs = v :: r ∧ Dt H d v ∧ Dts H ds r
end
theorem Dts.length {H : Hp} : ∀ {ds : List D} {vs : List V},Dts H ds vs → vs.length = ds.length
 | [],vs,h => by simp only [Dts] at h; simp [h]
 | d :: ds,vs,h => by
  simp only [Dts] at h
  obtain ⟨v,r,rfl,_,h⟩ := h
  simp [Dts.length h]
theorem Dts.get {H : Hp} : ∀ {ds : List D} {vs : List V} {i : Nat} {d : D},Dts H ds vs → ds[i]? = some d → ∃ v,vs[i]? = some v ∧ Dt H d v
 | [],vs,i,d,_,e => by simp at e
 | d' :: ds,vs,i,d,h,e => by
  simp only [Dts] at h
  obtain ⟨v,r,rfl,h1,h2⟩ := h
  cases i with
  | zero => simp at e; subst e; exact ⟨v,rfl,h1⟩
  | succ i => simpa using Dts.get (i := i) h2 (by simpa using e)
theorem Dts.append {H : Hp} : ∀ {ds es : List D} {vs us : List V},Dts H ds vs → Dts H es us → Dts H (ds ++ es) (vs ++ us)
 | [],es,vs,us,h,h' => by simp only [Dts] at h; subst h; simpa using h'
 | d :: ds,es,vs,us,h,h' => by
  simp only [Dts] at h
  obtain ⟨v,r,rfl,h1,h2⟩ := h
  show Dts H (d :: (ds ++ es)) (v :: (r ++ us))
  simp only [Dts]
  exact ⟨v,r ++ us,rfl,h1,Dts.append h2 h'⟩
theorem Dts.one {H : Hp} {d : D} {v : V} (h : Dt H d v) : Dts H [d] [v] := by
 simp only [Dts]
 exact ⟨v,[],rfl,h,rfl⟩
theorem Dts.nil {H : Hp} : Dts H [] [] := by simp only [Dts]
theorem Dts.cons {H : Hp} {d : D} {v : V} {ds : List D} {vs : List V} (h : Dt H d v) (t : Dts H ds vs) : Dts H (d :: ds) (v :: vs) := by
 simp only [Dts]
 exact ⟨v,vs,rfl,h,t⟩
theorem Dts.take {H : Hp} : ∀ {ds : List D} {vs : List V} (n : Nat),Dts H ds vs → Dts H (ds.take n) (vs.take n)
 | _,_,0,_ => by simp [Dts]
 | [],vs,n + 1,h => by simp only [Dts] at h; subst h; simp [Dts]
 | d :: ds,vs,n + 1,h => by
  simp only [Dts] at h
  obtain ⟨v,r,rfl,h1,h2⟩ := h
  exact Dts.cons h1 (Dts.take n h2)
theorem Dts.drop {H : Hp} : ∀ {ds : List D} {vs : List V} (n : Nat),Dts H ds vs → Dts H (ds.drop n) (vs.drop n)
 | _,_,0,h => h
 | [],vs,n + 1,h => by simp only [Dts] at h; subst h; simp [Dts]
 | d :: ds,vs,n + 1,h => by
  simp only [Dts] at h
  obtain ⟨v,r,rfl,h1,h2⟩ := h
  exact Dts.drop n h2
theorem Dts.set {H : Hp} {d : D} {v : V} (h : Dt H d v) : ∀ {ds : List D} {vs : List V} (n : Nat),Dts H ds vs → Dts H (ds.set n d) (vs.set n v)
 | [],vs,n,h' => by simp only [Dts] at h'; subst h'; simp [Dts]
 | e :: ds,vs,0,h' => by
  simp only [Dts] at h'
  obtain ⟨u,r,rfl,h1,h2⟩ := h'
  exact Dts.cons h h2
 | e :: ds,vs,n + 1,h' => by
  simp only [Dts] at h'
  obtain ⟨u,r,rfl,h1,h2⟩ := h'
  exact Dts.cons h1 (Dts.set h n h2)
mutual
theorem Dt.inj {H : Hp} : ∀ {d e : D} {v : V},Dt H d v → Dt H e v → d = e
 | .non,e,v,h,h' => by simp only [Dt] at h; subst h; cases e <;> simp_all [Dt]
 | .bl b,e,v,h,h' => by simp only [Dt] at h; subst h; cases e <;> simp_all [Dt]
 | .int i,e,v,h,h' => by simp only [Dt] at h; subst h; cases e <;> simp_all [Dt]
 | .str x,e,v,h,h' => by simp only [Dt] at h; subst h; cases e <;> simp_all [Dt]
 | .tup ds,e,v,h,h' => by
  simp only [Dt] at h
  obtain ⟨a,vs,rfl,ea,hs⟩ := h
  cases e with
  | tup es =>
   simp only [Dt] at h'
   obtain ⟨a',vs',q,ea',hs'⟩ := h'
   cases q
   rw [ea] at ea'; cases ea'
   rw [Dts.inj hs hs']
  | lst es =>
   simp only [Dt] at h'
   obtain ⟨a',vs',q,ea',hs'⟩ := h'
   cases q
   rw [ea] at ea'; cases ea'
  | _ => simp [Dt] at h'
 | .lst ds,e,v,h,h' => by
  simp only [Dt] at h
  obtain ⟨a,vs,rfl,ea,hs⟩ := h
  cases e with
  | lst es =>
   simp only [Dt] at h'
   obtain ⟨a',vs',q,ea',hs'⟩ := h'
   cases q
   rw [ea] at ea'; cases ea'
   rw [Dts.inj hs hs']
  | tup es =>
   simp only [Dt] at h'
   obtain ⟨a',vs',q,ea',hs'⟩ := h'
   cases q
   rw [ea] at ea'; cases ea'
  | _ => simp [Dt] at h'
theorem Dts.inj {H : Hp} : ∀ {ds es : List D} {vs : List V},Dts H ds vs → Dts H es vs → ds = es
 | [],es,vs,h,h' => by
  simp only [Dts] at h; subst h
  cases es <;> simp_all [Dts]
 | d :: ds,es,vs,h,h' => by
  simp only [Dts] at h
  obtain ⟨v,r,rfl,h1,h2⟩ := h
  cases es with
  | nil => simp [Dts] at h'
  | cons e es =>
   simp only [Dts] at h'
   obtain ⟨v',r',q,h1',h2'⟩ := h'
   cases q
   rw [Dt.inj h1 h1',Dts.inj h2 h2']
end
mutual
theorem Dt.same {H H' : Hp} (S : Same H H') : ∀ {d : D} {v : V},Dt H d v → Dt H' d v
 | .non,v,h => h
 | .bl b,v,h => h
 | .int i,v,h => h
 | .str x,v,h => h
 | .tup ds,v,h => by
  simp only [Dt] at h ⊢
  obtain ⟨a,vs,rfl,ea,hs⟩ := h
  exact ⟨a,vs,rfl,S _ _ ea,Dts.same S hs⟩
 | .lst ds,v,h => by
  simp only [Dt] at h ⊢
  obtain ⟨a,vs,rfl,ea,hs⟩ := h
  exact ⟨a,vs,rfl,S _ _ ea,Dts.same S hs⟩
theorem Dts.same {H H' : Hp} (S : Same H H') : ∀ {ds : List D} {vs : List V},Dts H ds vs → Dts H' ds vs
 | [],vs,h => h
 | d :: ds,vs,h => by
  simp only [Dts] at h ⊢
  obtain ⟨v,r,rfl,h1,h2⟩ := h
  exact ⟨v,r,rfl,Dt.same S h1,Dts.same S h2⟩
end
mutual
noncomputable def D.nl : D → Bool
 | .lst _ => false
 | .tup ds => D.nls ds
 | _ => true
noncomputable def D.nls : List D → Bool
 | [] => true
 | d :: ds => D.nl d && D.nls ds
end
noncomputable def Tups (H H' : Hp) : Prop := ∀ b xs,H b = some (.tup xs) → H' b = some (.tup xs)
theorem Same.tups {H H' : Hp} (S : Same H H') : Tups H H' := fun b xs h => S b _ h
theorem Tups.trans {H H1 H2 : Hp} (a : Tups H H1) (b : Tups H1 H2) : Tups H H2 := fun c o h => b c o (a c o h)
theorem Tups.refl (H : Hp) : Tups H H := fun _ _ h => h
theorem Tups.lst {H : Hp} {p : Addr} {xs ys : List V} (h : H p = some (.lst xs)) : Tups H (upd H p (.lst ys)) := fun b zs e => by
 rw [upd_ne (ne_of e h (by intro z; cases z))]; exact e
mutual
theorem Dt.tups {H H' : Hp} (S : Tups H H') : ∀ {d : D} {v : V},d.nl = true → Dt H d v → Dt H' d v
 | .non,v,_,h => h
 | .bl b,v,_,h => h
 | .int i,v,_,h => h
 | .str x,v,_,h => h
 | .tup ds,v,n,h => by
  simp only [Dt] at h ⊢
  obtain ⟨a,vs,rfl,ea,hs⟩ := h
  simp only [D.nl] at n
  exact ⟨a,vs,rfl,S _ _ ea,Dts.tups S n hs⟩
 | .lst ds,v,n,h => by simp [D.nl] at n
theorem Dts.tups {H H' : Hp} (S : Tups H H') : ∀ {ds : List D} {vs : List V},D.nls ds = true → Dts H ds vs → Dts H' ds vs
 | [],vs,_,h => h
 | d :: ds,vs,n,h => by
  simp only [Dts] at h ⊢
  obtain ⟨v,r,rfl,h1,h2⟩ := h
  simp only [D.nls,Bool.and_eq_true] at n
  exact ⟨v,r,rfl,Dt.tups S n.1 h1,Dts.tups S n.2 h2⟩
end
section
variable {P : Program} {w : World} {H : Hp} {s : Shared}
open PySem.SeqAt
theorem isD_obj (hok : HOk P w H s.heap) {d : D} {v : V} {u : Value} (h : Dt H d v) (r : RelV v u) :
 (∃ ds a vs its,d = .tup ds ∧ v = .ref a ∧ u = .ref a ∧ Dts H ds vs ∧ Vals vs its ∧ s.heap.IsTuple a its.toArray) ∨ (∃ ds a vs its,d = .lst ds ∧ v = .ref a ∧ u = .ref a ∧ Dts H ds vs ∧ Vals vs its ∧ s.heap.IsList a its.toArray) ∨
 (d = .non ∧ u = .none) ∨ (∃ b,d = .bl b ∧ u = .bool b) ∨ (∃ i t,d = .int i ∧ u = .int i t) ∨ ∃ x t,d = .str x ∧ u = .str x t := by
 cases d with
 | non => simp only [Dt] at h; subst h; cases r; exact .inr (.inr (.inl ⟨rfl,rfl⟩))
 | bl b => simp only [Dt] at h; subst h; cases r; exact .inr (.inr (.inr (.inl ⟨b,rfl,rfl⟩)))
 | int i => simp only [Dt] at h; subst h; obtain ⟨t,rfl⟩ := r; exact .inr (.inr (.inr (.inr (.inl ⟨i,t,rfl,rfl⟩))))
 | str x => simp only [Dt] at h; subst h; obtain ⟨t,rfl⟩ := r; exact .inr (.inr (.inr (.inr (.inr ⟨x,t,rfl,rfl⟩))))
 | tup ds =>
  simp only [Dt] at h
  obtain ⟨a,vs,rfl,ea,hs⟩ := h
  cases r
  obtain ⟨_,its,rv,p⟩ := hok a _ ea
  exact .inl ⟨ds,a,vs,its,rfl,rfl,rfl,hs,rv,p⟩
 | lst ds =>
  simp only [Dt] at h
  obtain ⟨a,vs,rfl,ea,hs⟩ := h
  cases r
  obtain ⟨_,its,n,rv,p⟩ := hok a _ ea
  exact .inr (.inl ⟨ds,a,vs,its,rfl,rfl,rfl,hs,rv,⟨_,p,rfl,n,rfl⟩⟩)
theorem in1_units (A : Around) : A.in1.units = A.units + 1 := rfl
mutual
theorem eqAt_D (hok : HOk P w H s.heap) : ∀ (d e : D) {A : Around} {x y : V} {u v : Value},Dt H d x → Dt H e y → RelV x u → RelV y v → A.units + d.dp + 1 < cLine → EqAt A s u v (D.eq d e)
 | .tup ds,e,A,x,y,u,v,hd,he,rx,ry,hu => by
  have hu0 : A.units < cLine := by omega
  rcases isD_obj hok hd rx with ⟨ds',a,vs,its,ed,ex,eu,hs,rv,p⟩ | ⟨_,_,_,_,z,_⟩ | ⟨z,_⟩ | ⟨_,z,_⟩ | ⟨_,_,z,_⟩ | ⟨_,_,z,_⟩ <;> try cases z
  cases ed; subst ex eu
  rcases isD_obj hok he ry with ⟨es,b,us,jts,ee,ey,ev,hs',rv',p'⟩ | ⟨es,b,us,jts,ee,ey,ev,hs',rv',p'⟩ | ⟨ee,ev⟩ | ⟨b,ee,ev⟩ | ⟨i,t,ee,ev⟩ | ⟨z,t,ee,ev⟩ <;> subst ee ev
  · subst ey
    by_cases hab : a = b
    · subst hab
      rw [Dt.inj hd he,D.eq_refl]
      exact EqAt.same _
    · refine EqAt.of_refs hab ?_
      have n1 : its.toArray.size = ds.length := by have := rv.length; have := hs.length; simp; omega
      have n2 : jts.toArray.size = es.length := by have := rv'.length; have := hs'.length; simp; omega
      simp only [D.eq]
      rw [← D.eqs_all,← n1,← n2]
      refine RcAt.tuples p p' hu0 fun j j1 j2 => ?_
      simp only [D.dp] at hu
      have := eqAt_Ds hok ds es (A := A.in1) hs hs' rv rv' (by rw [in1_units]; omega) j (by simpa using j1) (by simpa using j2)
      simpa using this
  · subst ey; exact EqAt.tuple_list p p' hu0
  · exact EqAt.tuple_none p hu0
  · exact EqAt.tuple_bool b p hu0
  · exact EqAt.tuple_int i t p hu0
  · exact EqAt.tuple_str z t p hu0
 | .lst ds,e,A,x,y,u,v,hd,he,rx,ry,hu => by
  have hu0 : A.units < cLine := by omega
  rcases isD_obj hok hd rx with ⟨_,_,_,_,z,_⟩ | ⟨ds',a,vs,its,ed,ex,eu,hs,rv,p⟩ | ⟨z,_⟩ | ⟨_,z,_⟩ | ⟨_,_,z,_⟩ | ⟨_,_,z,_⟩ <;> try cases z
  cases ed; subst ex eu
  rcases isD_obj hok he ry with ⟨es,b,us,jts,ee,ey,ev,hs',rv',p'⟩ | ⟨es,b,us,jts,ee,ey,ev,hs',rv',p'⟩ | ⟨ee,ev⟩ | ⟨b,ee,ev⟩ | ⟨i,t,ee,ev⟩ | ⟨z,t,ee,ev⟩ <;> subst ee ev
  · subst ey; exact EqAt.list_tuple p p' hu0
  · subst ey
    by_cases hab : a = b
    · subst hab
      rw [Dt.inj hd he,D.eq_refl]
      exact EqAt.same _
    · refine EqAt.of_refs hab ?_
      have n1 : its.toArray.size = ds.length := by have := rv.length; have := hs.length; simp; omega
      have n2 : jts.toArray.size = es.length := by have := rv'.length; have := hs'.length; simp; omega
      simp only [D.eq]
      by_cases hsz : its.toArray.size = jts.toArray.size
      · have e := D.eqs_all ds es
        rw [← n1,← n2,← hsz,Nat.min_self,beq_self_eq_true,Bool.and_true] at e
        rw [← e]
        refine RcAt.lists p p' hsz hu0 fun j j1 j2 => ?_
        simp only [D.dp] at hu
        have := eqAt_Ds hok ds es (A := A.in1) hs hs' rv rv' (by rw [in1_units]; omega) j (by simpa using j1) (by simpa using j2)
        simpa using this
      · have e : D.eqs ds es = false := by
         cases h : D.eqs ds es with
         | false => rfl
         | true => exact absurd (D.eqs_length h) (by omega)
        rw [e]
        exact RcAt.lists_lengths p p' (by simpa using hsz) hu0
  · exact EqAt.list_none p hu0
  · exact EqAt.list_bool b p hu0
  · exact EqAt.list_int i t p hu0
  · exact EqAt.list_str z t p hu0
 | .non,e,A,x,y,u,v,hd,he,rx,ry,hu => by
  have hu0 : A.units < cLine := by omega
  simp only [Dt] at hd; subst hd; cases rx
  rcases isD_obj hok he ry with ⟨es,b,us,jts,ee,ey,ev,hs',rv',p'⟩ | ⟨es,b,us,jts,ee,ey,ev,hs',rv',p'⟩ | ⟨ee,ev⟩ | ⟨b,ee,ev⟩ | ⟨i,t,ee,ev⟩ | ⟨z,t,ee,ev⟩ <;> subst ee ev
  · exact EqAt.none_tuple p' hu0
  · exact EqAt.none_list p' hu0
  · exact EqAt.same _
  · exact EqAt.none_bool b
  · exact EqAt.none_int i t
  · exact EqAt.none_str z t
 | .bl c,e,A,x,y,u,v,hd,he,rx,ry,hu => by
  have hu0 : A.units < cLine := by omega
  simp only [Dt] at hd; subst hd; cases rx
  rcases isD_obj hok he ry with ⟨es,b,us,jts,ee,ey,ev,hs',rv',p'⟩ | ⟨es,b,us,jts,ee,ey,ev,hs',rv',p'⟩ | ⟨ee,ev⟩ | ⟨b,ee,ev⟩ | ⟨i,t,ee,ev⟩ | ⟨z,t,ee,ev⟩ <;> subst ee ev
  · exact EqAt.bool_tuple c p' hu0
  · exact EqAt.bool_list c p' hu0
  · exact EqAt.bool_none c
  · exact EqAt.bool_bool c b
  · exact EqAt.bool_int c i t
  · exact EqAt.bool_str c z t
 | .int c,e,A,x,y,u,v,hd,he,rx,ry,hu => by
  have hu0 : A.units < cLine := by omega
  simp only [Dt] at hd; subst hd; obtain ⟨tt,rfl⟩ := rx
  rcases isD_obj hok he ry with ⟨es,b,us,jts,ee,ey,ev,hs',rv',p'⟩ | ⟨es,b,us,jts,ee,ey,ev,hs',rv',p'⟩ | ⟨ee,ev⟩ | ⟨b,ee,ev⟩ | ⟨i,t,ee,ev⟩ | ⟨z,t,ee,ev⟩ <;> subst ee ev
  · exact EqAt.int_tuple c tt p' hu0
  · exact EqAt.int_list c tt p' hu0
  · exact EqAt.int_none c tt
  · exact EqAt.int_bool c tt b
  · exact EqAt.int_int c tt i t
  · exact EqAt.int_str c tt z t
 | .str c,e,A,x,y,u,v,hd,he,rx,ry,hu => by
  have hu0 : A.units < cLine := by omega
  simp only [Dt] at hd; subst hd; obtain ⟨tt,rfl⟩ := rx
  rcases isD_obj hok he ry with ⟨es,b,us,jts,ee,ey,ev,hs',rv',p'⟩ | ⟨es,b,us,jts,ee,ey,ev,hs',rv',p'⟩ | ⟨ee,ev⟩ | ⟨b,ee,ev⟩ | ⟨i,t,ee,ev⟩ | ⟨z,t,ee,ev⟩ <;> subst ee ev
  · exact EqAt.str_tuple c tt p' hu0
  · exact EqAt.str_list c tt p' hu0
  · exact EqAt.str_none c tt
  · exact EqAt.str_bool c tt b
  · exact EqAt.str_int c tt i t
  · exact EqAt.str_str c tt z t
theorem eqAt_Ds (hok : HOk P w H s.heap) : ∀ (ds es : List D) {A : Around} {xs ys : List V} {us vs : List Value},Dts H ds xs → Dts H es ys → Vals xs us → Vals ys vs → A.units + D.dps ds + 1 < cLine →
 ∀ j (h1 : j < us.length) (h2 : j < vs.length),EqAt A s us[j] vs[j] (D.eq (ds.getD j .non) (es.getD j .non))
 | [],es,A,xs,ys,us,vs,hd,he,rx,ry,hu,j,h1,h2 => by
  simp only [Dts] at hd; subst hd; cases rx; simp at h1
 | d :: ds,es,A,xs,ys,us,vs,hd,he,rx,ry,hu,j,h1,h2 => by
  simp only [Dts] at hd
  obtain ⟨x,xr,rfl,hx,hxr⟩ := hd
  cases rx with
  | cons r rt =>
   cases es with
   | nil => simp only [Dts] at he; subst he; cases ry; simp at h2
   | cons e er =>
    simp only [Dts] at he
    obtain ⟨y,yr,rfl,hy,hyr⟩ := he
    cases ry with
    | cons q qt =>
     simp only [D.dps] at hu
     cases j with
     | zero => exact eqAt_D hok d e hx hy r q (by omega)
     | succ j => exact eqAt_Ds hok ds er hxr hyr rt qt (by omega) j (by simpa using h1) (by simpa using h2)
end
end
end L2
namespace L2
open PySem PySem.Spec PyProof.Rows
section
variable {P : Program} {w : World} {H : Hp} {s : Shared}
open PySem.SeqAt
theorem D.eqs_ne {ds es : List D} (h : ds.length ≠ es.length) : D.eqs ds es = false := by
 cases q : D.eqs ds es with
 | false => rfl
 | true => exact absurd (D.eqs_length q) h
theorem rcAt_D (hok : HOk P w H s.heap) {d e : D} {A : Around} {x y : V} {u v : Value} (hd : Dt H d x) (he : Dt H e y) (rx : RelV x u) (ry : RelV y v) (hu : A.units + d.dp + 1 < cLine) : RcAt A s u v (D.eq d e) := by
 have hu0 : A.units < cLine := by omega
 rcases isD_obj hok hd rx with ⟨ds,a,vs,its,ed,ex,eu,hs,rv,p⟩ | ⟨ds,a,vs,its,ed,ex,eu,hs,rv,p⟩ | ⟨ed,eu⟩ | ⟨c,ed,eu⟩ | ⟨c,tt,ed,eu⟩ | ⟨c,tt,ed,eu⟩
 · subst ed eu
   rcases isD_obj hok he ry with ⟨es,b,us,jts,ee,ey,ev,hs',rv',p'⟩ | ⟨es,b,us,jts,ee,ey,ev,hs',rv',p'⟩ | ⟨ee,ev⟩ | ⟨b,ee,ev⟩ | ⟨i,t,ee,ev⟩ | ⟨z,t,ee,ev⟩
   · subst ee ev
     have n1 : its.toArray.size = ds.length := by have := rv.length; have := hs.length; simp; omega
     have n2 : jts.toArray.size = es.length := by have := rv'.length; have := hs'.length; simp; omega
     simp only [D.eq]
     simp only [D.dp] at hu
     have all : ∀ j (j1 : j < its.toArray.size) (j2 : j < jts.toArray.size),EqAt A.in1 s its.toArray[j] jts.toArray[j] (D.eq (ds.getD j .non) (es.getD j .non)) := fun j j1 j2 => by
      have := eqAt_Ds hok ds es (A := A.in1) hs hs' rv rv' (by rw [in1_units]; omega) j (by simpa using j1) (by simpa using j2)
      simpa using this
     rw [← D.eqs_all,← n1,← n2]
     exact RcAt.tuples p p' hu0 all
   · subst ee ev
     exact RcAt.tuple_list p p' hu0
   · subst ee ev
     exact RcAt.tuple_none p hu0
   · subst ee ev
     exact RcAt.tuple_bool b p hu0
   · subst ee ev
     exact RcAt.tuple_int i t p hu0
   · subst ee ev
     exact RcAt.tuple_str z t p hu0
 · subst ed eu
   rcases isD_obj hok he ry with ⟨es,b,us,jts,ee,ey,ev,hs',rv',p'⟩ | ⟨es,b,us,jts,ee,ey,ev,hs',rv',p'⟩ | ⟨ee,ev⟩ | ⟨b,ee,ev⟩ | ⟨i,t,ee,ev⟩ | ⟨z,t,ee,ev⟩
   · subst ee ev
     exact RcAt.list_tuple p p' hu0
   · subst ee ev
     have n1 : its.toArray.size = ds.length := by have := rv.length; have := hs.length; simp; omega
     have n2 : jts.toArray.size = es.length := by have := rv'.length; have := hs'.length; simp; omega
     simp only [D.eq]
     simp only [D.dp] at hu
     have all : ∀ j (j1 : j < its.toArray.size) (j2 : j < jts.toArray.size),EqAt A.in1 s its.toArray[j] jts.toArray[j] (D.eq (ds.getD j .non) (es.getD j .non)) := fun j j1 j2 => by
      have := eqAt_Ds hok ds es (A := A.in1) hs hs' rv rv' (by rw [in1_units]; omega) j (by simpa using j1) (by simpa using j2)
      simpa using this
     by_cases hsz : its.toArray.size = jts.toArray.size
     · have e := D.eqs_all ds es
       rw [← n1,← n2,← hsz,Nat.min_self,beq_self_eq_true,Bool.and_true] at e
       rw [← e]
       exact RcAt.lists p p' hsz hu0 all
     · rw [D.eqs_ne (by omega)]
       exact RcAt.lists_lengths p p' (by simpa using hsz) hu0
   · subst ee ev
     exact RcAt.list_none p hu0
   · subst ee ev
     exact RcAt.list_bool b p hu0
   · subst ee ev
     exact RcAt.list_int i t p hu0
   · subst ee ev
     exact RcAt.list_str z t p hu0
 · subst ed eu
   rcases isD_obj hok he ry with ⟨es,b,us,jts,ee,ey,ev,hs',rv',p'⟩ | ⟨es,b,us,jts,ee,ey,ev,hs',rv',p'⟩ | ⟨ee,ev⟩ | ⟨b,ee,ev⟩ | ⟨i,t,ee,ev⟩ | ⟨z,t,ee,ev⟩
   · subst ee ev
     exact RcAt.none_tuple p' hu0
   · subst ee ev
     exact RcAt.none_list p' hu0
   · subst ee ev
     exact RcAt.none_none 
   · subst ee ev
     exact RcAt.none_bool b
   · subst ee ev
     exact RcAt.none_int i t
   · subst ee ev
     exact RcAt.none_str z t
 · subst ed eu
   rcases isD_obj hok he ry with ⟨es,b,us,jts,ee,ey,ev,hs',rv',p'⟩ | ⟨es,b,us,jts,ee,ey,ev,hs',rv',p'⟩ | ⟨ee,ev⟩ | ⟨b,ee,ev⟩ | ⟨i,t,ee,ev⟩ | ⟨z,t,ee,ev⟩
   · subst ee ev
     exact RcAt.bool_tuple c p' hu0
   · subst ee ev
     exact RcAt.bool_list c p' hu0
   · subst ee ev
     exact RcAt.bool_none c
   · subst ee ev
     exact RcAt.bool_bool c b
   · subst ee ev
     exact RcAt.bool_int c i t
   · subst ee ev
     exact RcAt.bool_str c z t
 · subst ed eu
   rcases isD_obj hok he ry with ⟨es,b,us,jts,ee,ey,ev,hs',rv',p'⟩ | ⟨es,b,us,jts,ee,ey,ev,hs',rv',p'⟩ | ⟨ee,ev⟩ | ⟨b,ee,ev⟩ | ⟨i,t,ee,ev⟩ | ⟨z,t,ee,ev⟩
   · subst ee ev
     exact RcAt.int_tuple c tt p' hu0
   · subst ee ev
     exact RcAt.int_list c tt p' hu0
   · subst ee ev
     exact RcAt.int_none c tt
   · subst ee ev
     exact RcAt.int_bool c tt b
   · subst ee ev
     exact RcAt.int_int c tt i t
   · subst ee ev
     exact RcAt.int_str c tt z t
 · subst ed eu
   rcases isD_obj hok he ry with ⟨es,b,us,jts,ee,ey,ev,hs',rv',p'⟩ | ⟨es,b,us,jts,ee,ey,ev,hs',rv',p'⟩ | ⟨ee,ev⟩ | ⟨b,ee,ev⟩ | ⟨i,t,ee,ev⟩ | ⟨z,t,ee,ev⟩
   · subst ee ev
     exact RcAt.str_tuple c tt p' hu0
   · subst ee ev
     exact RcAt.str_list c tt p' hu0
   · subst ee ev
     exact RcAt.str_none c tt
   · subst ee ev
     exact RcAt.str_bool c tt b
   · subst ee ev
     exact RcAt.str_int c tt i t
   · subst ee ev
     exact RcAt.str_str c tt z t
theorem rcNe_D (hok : HOk P w H s.heap) {d e : D} {A : Around} {x y : V} {u v : Value} (hd : Dt H d x) (he : Dt H e y) (rx : RelV x u) (ry : RelV y v) (hu : A.units + d.dp + 1 < cLine) : RcNeAt A s u v (!D.eq d e) := by
 have hu0 : A.units < cLine := by omega
 rcases isD_obj hok hd rx with ⟨ds,a,vs,its,ed,ex,eu,hs,rv,p⟩ | ⟨ds,a,vs,its,ed,ex,eu,hs,rv,p⟩ | ⟨ed,eu⟩ | ⟨c,ed,eu⟩ | ⟨c,tt,ed,eu⟩ | ⟨c,tt,ed,eu⟩
 · subst ed eu
   rcases isD_obj hok he ry with ⟨es,b,us,jts,ee,ey,ev,hs',rv',p'⟩ | ⟨es,b,us,jts,ee,ey,ev,hs',rv',p'⟩ | ⟨ee,ev⟩ | ⟨b,ee,ev⟩ | ⟨i,t,ee,ev⟩ | ⟨z,t,ee,ev⟩
   · subst ee ev
     have n1 : its.toArray.size = ds.length := by have := rv.length; have := hs.length; simp; omega
     have n2 : jts.toArray.size = es.length := by have := rv'.length; have := hs'.length; simp; omega
     simp only [D.eq]
     simp only [D.dp] at hu
     have all : ∀ j (j1 : j < its.toArray.size) (j2 : j < jts.toArray.size),EqAt A.in1 s its.toArray[j] jts.toArray[j] (D.eq (ds.getD j .non) (es.getD j .non)) := fun j j1 j2 => by
      have := eqAt_Ds hok ds es (A := A.in1) hs hs' rv rv' (by rw [in1_units]; omega) j (by simpa using j1) (by simpa using j2)
      simpa using this
     rw [← D.eqs_all,← n1,← n2]
     exact RcNeAt.tuples p p' hu0 all
   · subst ee ev
     exact RcNeAt.tuple_list p p' hu0
   · subst ee ev
     exact RcNeAt.tuple_none p hu0
   · subst ee ev
     exact RcNeAt.tuple_bool b p hu0
   · subst ee ev
     exact RcNeAt.tuple_int i t p hu0
   · subst ee ev
     exact RcNeAt.tuple_str z t p hu0
 · subst ed eu
   rcases isD_obj hok he ry with ⟨es,b,us,jts,ee,ey,ev,hs',rv',p'⟩ | ⟨es,b,us,jts,ee,ey,ev,hs',rv',p'⟩ | ⟨ee,ev⟩ | ⟨b,ee,ev⟩ | ⟨i,t,ee,ev⟩ | ⟨z,t,ee,ev⟩
   · subst ee ev
     exact RcNeAt.list_tuple p p' hu0
   · subst ee ev
     have n1 : its.toArray.size = ds.length := by have := rv.length; have := hs.length; simp; omega
     have n2 : jts.toArray.size = es.length := by have := rv'.length; have := hs'.length; simp; omega
     simp only [D.eq]
     simp only [D.dp] at hu
     have all : ∀ j (j1 : j < its.toArray.size) (j2 : j < jts.toArray.size),EqAt A.in1 s its.toArray[j] jts.toArray[j] (D.eq (ds.getD j .non) (es.getD j .non)) := fun j j1 j2 => by
      have := eqAt_Ds hok ds es (A := A.in1) hs hs' rv rv' (by rw [in1_units]; omega) j (by simpa using j1) (by simpa using j2)
      simpa using this
     by_cases hsz : its.toArray.size = jts.toArray.size
     · have e := D.eqs_all ds es
       rw [← n1,← n2,← hsz,Nat.min_self,beq_self_eq_true,Bool.and_true] at e
       rw [← e]
       exact RcNeAt.lists p p' hsz hu0 all
     · rw [D.eqs_ne (by omega)]
       exact RcNeAt.lists_lengths p p' (by simpa using hsz) hu0
   · subst ee ev
     exact RcNeAt.list_none p hu0
   · subst ee ev
     exact RcNeAt.list_bool b p hu0
   · subst ee ev
     exact RcNeAt.list_int i t p hu0
   · subst ee ev
     exact RcNeAt.list_str z t p hu0
 · subst ed eu
   rcases isD_obj hok he ry with ⟨es,b,us,jts,ee,ey,ev,hs',rv',p'⟩ | ⟨es,b,us,jts,ee,ey,ev,hs',rv',p'⟩ | ⟨ee,ev⟩ | ⟨b,ee,ev⟩ | ⟨i,t,ee,ev⟩ | ⟨z,t,ee,ev⟩
   · subst ee ev
     exact RcNeAt.none_tuple p' hu0
   · subst ee ev
     exact RcNeAt.none_list p' hu0
   · subst ee ev
     exact RcNeAt.none_none 
   · subst ee ev
     exact RcNeAt.none_bool b
   · subst ee ev
     exact RcNeAt.none_int i t
   · subst ee ev
     exact RcNeAt.none_str z t
 · subst ed eu
   rcases isD_obj hok he ry with ⟨es,b,us,jts,ee,ey,ev,hs',rv',p'⟩ | ⟨es,b,us,jts,ee,ey,ev,hs',rv',p'⟩ | ⟨ee,ev⟩ | ⟨b,ee,ev⟩ | ⟨i,t,ee,ev⟩ | ⟨z,t,ee,ev⟩
   · subst ee ev
     exact RcNeAt.bool_tuple c p' hu0
   · subst ee ev
     exact RcNeAt.bool_list c p' hu0
   · subst ee ev
     exact RcNeAt.bool_none c
   · subst ee ev
     exact RcNeAt.bool_bool c b
   · subst ee ev
     exact RcNeAt.bool_int c i t
   · subst ee ev
     exact RcNeAt.bool_str c z t
 · subst ed eu
   rcases isD_obj hok he ry with ⟨es,b,us,jts,ee,ey,ev,hs',rv',p'⟩ | ⟨es,b,us,jts,ee,ey,ev,hs',rv',p'⟩ | ⟨ee,ev⟩ | ⟨b,ee,ev⟩ | ⟨i,t,ee,ev⟩ | ⟨z,t,ee,ev⟩
   · subst ee ev
     exact RcNeAt.int_tuple c tt p' hu0
   · subst ee ev
     exact RcNeAt.int_list c tt p' hu0
   · subst ee ev
     exact RcNeAt.int_none c tt
   · subst ee ev
     exact RcNeAt.int_bool c tt b
   · subst ee ev
     exact RcNeAt.int_int c tt i t
   · subst ee ev
     exact RcNeAt.int_str c tt z t
 · subst ed eu
   rcases isD_obj hok he ry with ⟨es,b,us,jts,ee,ey,ev,hs',rv',p'⟩ | ⟨es,b,us,jts,ee,ey,ev,hs',rv',p'⟩ | ⟨ee,ev⟩ | ⟨b,ee,ev⟩ | ⟨i,t,ee,ev⟩ | ⟨z,t,ee,ev⟩
   · subst ee ev
     exact RcNeAt.str_tuple c tt p' hu0
   · subst ee ev
     exact RcNeAt.str_list c tt p' hu0
   · subst ee ev
     exact RcNeAt.str_none c tt
   · subst ee ev
     exact RcNeAt.str_bool c tt b
   · subst ee ev
     exact RcNeAt.str_int c tt i t
   · subst ee ev
     exact RcNeAt.str_str c tt z t
end
section
variable {X : Cx} {k : Nat}
noncomputable def rEqD : R2 := fun x y H Q => ∃ d e,Dt H d x ∧ Dt H e y ∧ d.dp ≤ 150 ∧ Q (.bl (D.eq d e)) H
noncomputable def rNeD : R2 := fun x y H Q => ∃ d e,Dt H d x ∧ Dt H e y ∧ d.dp ≤ 150 ∧ Q (.bl (!D.eq d e)) H
theorem op_eqD (hr : Room k X.A) : OpR X (compareOp .Eq) rEqD := by
 intro pins s σ H x y v u Q I rx ry h
 obtain ⟨d,e,hd,he,hp,q⟩ := h
 exact rcAt_D I.hok hd he rx ry (by have := hr.un; omega) _ _ _ _ ⟨.bl _,H,I,rfl,q⟩
theorem op_neD (hr : Room k X.A) : OpR X (compareOp .NotEq) rNeD := by
 intro pins s σ H x y v u Q I rx ry h
 obtain ⟨d,e,hd,he,hp,q⟩ := h
 exact rcNe_D I.hok hd he rx ry (by have := hr.un; omega) _ _ _ _ ⟨.bl _,H,I,rfl,q⟩
noncomputable def rInD (neg : Bool) : R2 := fun x y H Q => ∃ a vs ds e,y = .ref a ∧ (H a = some (.lst vs) ∨ H a = some (.tup vs)) ∧ Dts H ds vs ∧ Dt H e x ∧ D.dps ds ≤ 150 ∧ Q (.bl (if neg then !ds.any (fun d => D.eq d e) else ds.any (fun d => D.eq d e))) H
noncomputable def eU (H : Hp) (e : D) (u : Value) : Bool := @decide (∃ d z,Dt H d z ∧ RelV z u ∧ D.eq d e = true) (Classical.propDecidable _)
theorem eU_of {H : Hp} {d e : D} {z : V} {u : Value} (h : Dt H d z) (r : RelV z u) : eU H e u = D.eq d e := by
 unfold eU
 cases q : D.eq d e with
 | true => exact @decide_eq_true _ (Classical.propDecidable _) ⟨d,z,h,r,q⟩
 | false =>
  refine @decide_eq_false _ (Classical.propDecidable _) ?_
  rintro ⟨d',z',h',r',q'⟩
  have ez := RelV.inj r r'
  subst ez
  rw [← Dt.inj h h',q] at q'
  cases q'
theorem any_eU {H : Hp} {e : D} : ∀ {ds : List D} {vs : List V} {us : List Value},Dts H ds vs → Vals vs us → us.any (eU H e) = ds.any (fun d => D.eq d e)
 | [],vs,us,h,r => by simp only [Dts] at h; subst h; cases r; rfl
 | d :: ds,vs,us,h,r => by
  simp only [Dts] at h
  obtain ⟨v,vr,rfl,h1,h2⟩ := h
  cases r with
  | cons r rt => rw [List.any_cons,List.any_cons,eU_of h1 r,any_eU h2 rt]
theorem all_eU {P : Program} {w : World} {H : Hp} {s : Shared} {A : Around} (hok : HOk P w H s.heap) {e : D} {x : V} {v : Value} (he : Dt H e x) (rx : RelV x v) : ∀ {ds : List D} {vs : List V} {us : List Value},Dts H ds vs → Vals vs us → A.units + D.dps ds + 1 < cLine →
 ∀ u ∈ us,SeqAt.EqAt A s u v (eU H e u)
 | [],vs,us,h,r,_ => by simp only [Dts] at h; subst h; cases r; intro u z; cases z
 | d :: ds,vs,us,h,r,hu => by
  simp only [Dts] at h
  obtain ⟨v',vr,rfl,h1,h2⟩ := h
  simp only [D.dps] at hu
  cases r with
  | cons r rt =>
   intro u z
   rcases List.mem_cons.mp z with rfl | z
   · rw [eU_of h1 r]; exact eqAt_D hok d e h1 he r rx (by omega)
   · exact all_eU hok he rx h2 rt (by omega) u z
theorem op_inD (hr : Room k X.A) : OpR X (compareOp .In) (rInD false) := by
 intro pins s σ H x y v u Q I rx ry h
 obtain ⟨a,vs,ds,e,rfl,ha,hs,he,hp,q⟩ := h
 cases ry
 have hu : X.A.in1.units + D.dps ds + 1 < cLine := by rw [in1_units]; have := hr.un; omega
 rcases ha with ha | ha
 · obtain ⟨_,its,n,rv,p⟩ := I.hok a _ ha
   refine SeqAt.in_listAt (eU H e) (show s.heap.IsList a its.toArray from ⟨_,p,rfl,n,rfl⟩) (fun y hy => all_eU I.hok he rx hs rv hu y (by simpa using hy)) ?_
   refine ⟨.bl _,H,I,?_,q⟩
   rw [List.any_toArray,any_eU hs rv]; rfl
 · obtain ⟨_,its,rv,p⟩ := I.hok a _ ha
   refine SeqAt.in_tupleAt (eU H e) (show s.heap.IsTuple a its.toArray from p) (fun y hy => all_eU I.hok he rx hs rv hu y (by simpa using hy)) ?_
   refine ⟨.bl _,H,I,?_,q⟩
   rw [List.any_toArray,any_eU hs rv]; rfl
inductive TyN (H : Hp) : V → String → Prop where
 | non : TyN H .non "NoneType"
 | bl (b : Bool) : TyN H (.bl b) "bool"
 | int (i : Int) : TyN H (.int i) "int"
 | str (x : Str) : TyN H (.str x) "str"
 | lst {a : Addr} {xs : List V} (e : H a = some (.lst xs)) : TyN H (.ref a) "list"
 | tup {a : Addr} {xs : List V} (e : H a = some (.tup xs)) : TyN H (.ref a) "tuple"
end
end L2
namespace L2
open PySem PySem.Spec PyProof.Rows
theorem bt_len : bootBuiltins "len" = some (.builtin "len") := by decide +kernel
theorem bt_all : bootBuiltins "all" = some (.builtin "all") := by decide +kernel
theorem bt_any : bootBuiltins "any" = some (.builtin "any") := by decide +kernel
theorem bt_max : bootBuiltins "max" = some (.builtin "max") := by decide +kernel
theorem bt_min : bootBuiltins "min" = some (.builtin "min") := by decide +kernel
theorem bt_int : bootBuiltins "int" = some (.type "int") := by decide +kernel
theorem bt_str : bootBuiltins "str" = some (.type "str") := by decide +kernel
theorem bt_list : bootBuiltins "list" = some (.type "list") := by decide +kernel
theorem bt_tuple : bootBuiltins "tuple" = some (.type "tuple") := by decide +kernel
theorem same_new {H : Hp} {p : Addr} (h : H p = none) (o : HO) : Same H (upd H p o) := fun b u q => by rw [upd_ne (ne_of_none q h)]; exact q
section
variable {X : Cx}
noncomputable def rCatD : R2 := fun x y H Q => ∃ a b xs ys,x = .ref a ∧ y = .ref b ∧ H a = some (.tup xs) ∧ H b = some (.tup ys) ∧ xs.length + ys.length ≤ sizeLine ∧
 ∀ p H',Same H H' → H' p = some (.tup (xs ++ ys)) → Q (.ref p) H'
theorem cat_tup0 {prog : Program} {w : World} {A : Around} {E : Value → Shared → Prop} {s : Shared} {t b : Addr} {ws : List Value} {Q : Value → Shared → Prop} (ht : IsTup s.heap t ([] : List Value).toArray) (hb : IsTup s.heap b ws.toArray) (h : Q (.ref b) s) :
 wpAny (model prog w) A (binaryOp .Add (.ref t) (.ref b)) Q E s := by
 obtain ⟨⟨cls,dd,data,sl⟩,ho,hc,n,hd⟩ := id ht
 obtain ⟨⟨cls2,dd2,data2,sl2⟩,ho2,hc2,n2,hd2⟩ := id hb
 simp only at hc hd hc2 hd2
 subst hc hd hc2 hd2
 exact concat_meets ⟨_,ho,rfl⟩ ⟨_,ho2,rfl⟩ noFill_tuple_add seq_tuple_add PySem.F.slot_tuple_add PySem.F.entry_tuple_add (PySem.F.args_tuple_add_2 _ _)
  (tuple_addW0 t b _ ws.toArray n n2 dd dd2 sl sl2 (by rfl)) ⟨ho,ho2,h⟩
theorem op_catD : OpR X (binaryOp .Add) rCatD := by
 intro pins s σ H x y v u Q I rx ry h
 obtain ⟨a,b,xs,ys,rfl,rfl,ha,hb,hz,q⟩ := h
 by_cases hx : xs = []
 · subst hx
   cases rx
   cases ry
   obtain ⟨_,its,r1,p1⟩ := I.hok a _ ha
   obtain ⟨_,its2,r2,p2⟩ := I.hok b _ hb
   cases r1
   exact cat_tup0 p1 p2 ⟨.ref b,H,I,rfl,q b H (Same.refl H) hb⟩
 · refine op_catT pins s σ H _ _ v u Q I rx ry ⟨a,b,xs,ys,rfl,rfl,SqT.of ha,SqT.of hb,hx,hz,fun e => ?_,fun _ p hp => q p _ (same_new hp _) upd_same⟩
   subst e
   exact q a H (Same.refl H) (by rw [List.append_nil]; exact ha)
end
noncomputable def RetL (H : Hp) (ds : List D) (Q : VK) : Prop := ∀ p vs H',Same H H' → H p = none → H' p = some (.lst vs) → Dts H' ds vs → Q (.ref p) H'
noncomputable def RetD (H : Hp) (d : D) (Q : VK) : Prop := ∀ v H',Same H H' → Dt H' d v → Q v H'
theorem RetL.d {H : Hp} {ds : List D} {Q : VK} (h : RetD H (.lst ds) Q) : RetL H ds Q := fun p vs H' S _ e d => h _ H' S (by simp only [Dt]; exact ⟨p,vs,rfl,e,d⟩)
end L2
namespace L2
open PySem PySem.Spec PyProof.Rows
noncomputable def itemsOf : Option HO → Option (List V)
 | some (.lst xs) => some xs
 | some (.tup xs) => some xs
 | _ => none
theorem itemsOf_sq {K : PySem.W.Frag} {H : Hp} {a : Addr} {xs : List V} (h : itemsOf (H a) = some xs) : SqL K H a xs ∨ SqT K H a xs := by
 cases e : H a with
 | none => rw [e] at h; cases h
 | some o =>
  rw [e] at h
  cases o with
  | lst ys => cases h; exact .inl (SqL.of e)
  | tup ys => cases h; exact .inr (SqT.of e)
  | _ => cases h
theorem atI_0 {α : Type} {a : α} {r : List α} : atI (a :: r) 0 = some a := atI_nat (j := 0) rfl
theorem atI_1 {α : Type} {a b : α} {r : List α} : atI (a :: b :: r) 1 = some b := atI_nat (j := 1) rfl
theorem atI_2 {α : Type} {a b c : α} {r : List α} : atI (a :: b :: c :: r) 2 = some c := atI_nat (j := 2) rfl
theorem atI_3 {α : Type} {a b c d : α} {r : List α} : atI (a :: b :: c :: d :: r) 3 = some d := atI_nat (j := 3) rfl
theorem atI_4 {α : Type} {a b c d e : α} {r : List α} : atI (a :: b :: c :: d :: e :: r) 4 = some e := atI_nat (j := 4) rfl
section
variable {X : Cx}
noncomputable def rIxF : R2 := fun x y H Q => ∃ p xs i v,x = .ref p ∧ y = .int i ∧ itemsOf (H p) = some xs ∧ atI xs i = some v ∧ Q v H
theorem ixF : IxR X rIxF := by
 intro value slice pins s σ H x y v u Q I rx ry h hs
 obtain ⟨p,xs,i,z,rfl,rfl,e,hz,q⟩ := h
 rcases itemsOf_sq (K := X.K) e with hq | hq
 · exact ix_list value slice pins s σ H _ _ v u Q I rx ry ⟨p,xs,i,z,rfl,rfl,hq,hz,q⟩ hs
 · exact ix_tup value slice pins s σ H _ _ v u Q I rx ry ⟨p,xs,i,z,rfl,rfl,hq,hz,q⟩ hs
theorem lenF : CallR X (.builtin "len") (fun xs H Q => ∃ p ys,xs = [.ref p] ∧ itemsOf (H p) = some ys ∧ Q (.int ys.length) H) := by
 intro pins s σ H xs us Q I r h
 obtain ⟨p,ys,rfl,e,q⟩ := h
 exact call_len_seq pins s σ H _ us Q I r ⟨p,ys,rfl,itemsOf_sq e,q⟩
theorem slLF : SlR X (fun x lo hi H Q => ∃ a xs,x = .ref a ∧ H a = some (.lst xs) ∧ ∀ p,H p = none → Q (.ref p) (upd H p (.lst (cutV xs lo hi)))) := by
 intro pins s σ H x v vl vu lo hi sl Q I rx hs pl pu h
 obtain ⟨a,xs,rfl,e,q⟩ := h
 exact sl_list pins s σ H _ v vl vu lo hi sl Q I rx hs pl pu ⟨a,xs,rfl,SqL.of e,q⟩
end
noncomputable def ForW (J : It) (g : TG) (tb : TS) (D : Ends) (σ : St) (H : Hp) : Prop :=
 ∃ W : Nat → Nat → St → Hp → Prop,(∃ m,W 0 m σ H) ∧ ∀ i m σ H,W i m σ H →
  (J.stop i H ∧ D.nx σ H) ∨ (J.go i H ∧ ∃ N : St → Hp → Prop,(∀ σ' H',N σ' H' → ∃ m',m' < m ∧ W (i + 1) m' σ' H') ∧ ∀ x H',J.yld i H x H' → g x σ H' fun σ2 H2 => tb { D with nx := N,ct := N,bk := D.nx } σ2 H2)
theorem forR {lo : Int} {n : Nat} {g : TG} {tb : TS} {D : Ends} {σ : St} {H : Hp} (Pv : Nat → St → Hp → Prop) (h0 : Pv 0 σ H)
 (hs : ∀ i σ H,i < n → Pv i σ H → g (.int (lo + i)) σ H fun σ2 H2 => tb { D with nx := Pv (i + 1),ct := Pv (i + 1),bk := D.nx } σ2 H2) (hd : ∀ σ H,Pv n σ H → D.nx σ H) : ForW (Itr lo n) g tb D σ H := for_range Pv h0 hs hd
theorem a_tFor {wi : TI} {g : TG} {tb : TS} {D : Ends} {σ : St} {H : Hp} : tFor wi g tb D σ H = wi σ H fun J H1 => ForW J g tb D σ H1 := rfl
theorem Same.new {H0 H : Hp} (S : Same H0 H) {p : Addr} (n : H p = none) (o : HO) : Same H0 (upd H p o) := S.trans (same_new n o)
theorem Same.put {H0 H : Hp} (S : Same H0 H) {p : Addr} (n : H0 p = none) (o : HO) : Same H0 (upd H p o) := fun b u h => by
 rw [upd_ne (ne_of_none h n)]; exact S b u h
theorem Same.old {H0 H : Hp} (S : Same H0 H) {p : Addr} (n : H p = none) : H0 p = none := by
 cases e : H0 p with
 | none => rfl
 | some o => rw [S p o e] at n; cases n
theorem Dt.new {H : Hp} {d : D} {v : V} (h : Dt H d v) {p : Addr} (n : H p = none) (o : HO) : Dt (upd H p o) d v := h.same (same_new n o)
theorem Dt.tup {H : Hp} {ds : List D} {vs : List V} {a : Addr} (e : H a = some (.tup vs)) (h : Dts H ds vs) : Dt H (.tup ds) (.ref a) := by
 simp only [Dt]; exact ⟨a,vs,rfl,e,h⟩
theorem Dt.lst {H : Hp} {ds : List D} {vs : List V} {a : Addr} (e : H a = some (.lst vs)) (h : Dts H ds vs) : Dt H (.lst ds) (.ref a) := by
 simp only [Dt]; exact ⟨a,vs,rfl,e,h⟩
theorem isD_tup {H : Hp} {ds : List D} {v : V} : Dt H (.tup ds) v ↔ ∃ a vs,v = .ref a ∧ H a = some (.tup vs) ∧ Dts H ds vs := by simp only [Dt]
theorem isD_lst {H : Hp} {ds : List D} {v : V} : Dt H (.lst ds) v ↔ ∃ a vs,v = .ref a ∧ H a = some (.lst vs) ∧ Dts H ds vs := by simp only [Dt]
theorem isDs_nil {H : Hp} {vs : List V} : Dts H [] vs ↔ vs = [] := by simp only [Dts]
theorem isDs_cons {H : Hp} {d : D} {ds : List D} {vs : List V} : Dts H (d :: ds) vs ↔ ∃ v r,vs = v :: r ∧ Dt H d v ∧ Dts H ds r := by simp only [Dts]
theorem isD_int {H : Hp} {i : Int} {v : V} : Dt H (.int i) v ↔ v = .int i := by simp only [Dt]
theorem isD_str {H : Hp} {x : Str} {v : V} : Dt H (.str x) v ↔ v = .str x := by simp only [Dt]
theorem isD_bl {H : Hp} {b : Bool} {v : V} : Dt H (.bl b) v ↔ v = .bl b := by simp only [Dt]
theorem isD_non {H : Hp} {v : V} : Dt H .non v ↔ v = .non := by simp only [Dt]
theorem Dts.of_str {H : Hp} : ∀ {ns : List Str} {vs : List V},Dts H (ns.map D.str) vs → vs = ns.map V.str
 | [],vs,h => by simpa only [List.map_nil,Dts] using h
 | n :: r,vs,h => by
  simp only [List.map_cons,Dts] at h
  obtain ⟨v,t,rfl,h1,h2⟩ := h
  rw [isD_str.mp h1,Dts.of_str h2]; rfl
theorem cxOf_K {CX : CXT} {P : Program} {w : World} {K : PySem.W.Frag} {mg : Str → Option Value} {base : Heap} {N : List Str} {qual : Str} {scope : Scope} {f : Addr} {cd : Value} {A : Around} {outer : List Env} {s : Shared} {H : Hp} {E : XK} :
 (cxOf CX P w K mg base N qual scope f cd A outer s H E).K = K := rfl
theorem blk_K {X : Cx} {N : List Str} {scope : Scope} {C : Addr} {s : Shared} {H : Hp} {ex : List Addr} : (blk X N scope C s H ex).K = X.K := rfl
theorem cm_l {i j : Int} (h1 : -18446744073709551616 < i) (h2 : i < 18446744073709551616) : CMul i j := .inl ⟨h1,h2⟩
theorem cm_r {i j : Int} (h1 : -18446744073709551616 < j) (h2 : j < 18446744073709551616) : CMul i j := .inr ⟨h1,h2⟩
theorem ex_len {K : PySem.W.Frag} {H : Hp} {a : Addr} {xs : List V} {R : List V → Prop} (h : SqL K H a xs) (q : R xs) : ∃ x,(SqL K H a x ∨ SqT K H a x) ∧ R x := ⟨xs,.inl h,q⟩
theorem ex_at {K : PySem.W.Frag} {H : Hp} {a : Addr} {xs : List V} {i : Int} {v : V} {R : V → Prop} (h : SqL K H a xs) (e : atI xs i = some v) (q : R v) : ∃ x,SqL K H a x ∧ ∃ y,atI x i = some y ∧ R y := ⟨xs,h,v,e,q⟩
end L2
namespace L2
open PySem PySem.Spec PyProof.Rows
noncomputable def tSet (i : Nat) (te : TE) : TS := fun D σ H => te σ H fun x H1 => D.nx (σ.set i (some x)) H1
theorem ps_let {X : Cx} {i : Nat} {x : Str} {e : Expr} {te : TE} {pos pos' : Pos} (hN : X.N.Nodup) (hi : X.N[i]? = some x) (hx : Loc X.env.scope x) (he : PE X e te) (hs : swapsWith e (some (.Name x pos')) pos.line X.env = pure false := by rfl) (hf : X.fn x = true ∨ X.env.scope.names.lookup x = some .local := by first | exact .inl rfl | exact .inr rfl | assumption) : PS X (.Assign [.Name x pos'] e pos) (tSet i te) := ps_set hN hi hx he hs hf
noncomputable def tSetC (i : Nat) (wi : TI) (caps : List Nat) (tc : TT) (te : TE) : TS := fun D σ H => tComp wi caps tc te σ H fun v H1 => D.nx (σ.set i (some v)) H1
theorem ps_letC {X : Cx} {scope : Scope} {x : Str} {N : List Str} {caps : List Nat} {elt iter : Expr} {px py pos spos : Pos} {ifs : List Expr} {wi : TI} {tc : TT} {te : TE} {y : Str} {i : Nat} (hcalm : X.calm = true) (S : CSc X scope x N caps) (hi : PI X (.Name x px) iter wi)
 (hc : ∀ C s H ex,PIfs (blk X N scope C s H ex) ifs tc) (he : ∀ C s H ex,PE (blk X N scope C s H ex) elt te) (hN : X.N.Nodup) (hy : X.N[i]? = some y) (hx : X.env.scope.names.lookup y = some .local)
 (hsw : swapsWith (.ListComp elt [⟨.Name x px,iter,ifs,0⟩] scope pos) (some (.Name y py)) spos.line X.env = pure true) (hs : ∀ x,foldedSetIterable iter X.env x = pure x := by intro _; rfl) :
 PS X (.Assign [.Name y py] (.ListComp elt [⟨.Name x px,iter,ifs,0⟩] scope pos) spos) (tSetC i wi caps tc te) := ps_comp hcalm S hi hc he hN hy hx hsw hs
theorem a_tSet {i : Nat} {te : TE} {D : Ends} {σ : St} {H : Hp} : tSet i te D σ H = te σ H fun x H1 => D.nx (σ.set i (some x)) H1 := rfl
theorem a_tSetC {i : Nat} {wi : TI} {caps : List Nat} {tc : TT} {te : TE} {D : Ends} {σ : St} {H : Hp} : tSetC i wi caps tc te D σ H = tComp wi caps tc te σ H fun v H1 => D.nx (σ.set i (some v)) H1 := rfl
theorem a_tVar {i : Nat} {σ : St} {H : Hp} {Q : VK} : tVar i σ H Q = (∃ v,σ[i]? = some (some v) ∧ Q v H) := rfl
theorem a_tC {v : V} {σ : St} {H : Hp} {Q : VK} : tC v σ H Q = (Q v H) := rfl
theorem a_tIsN {ta : TE} {σ : St} {H : Hp} {Q : VK} : tIsN ta σ H Q = (ta σ H fun x H1 => Q (.bl (decide (x = .non))) H1) := rfl
theorem a_tB {t : TE} {σ : St} {H : Hp} {Q : Bool → Hp → Prop} : tB t σ H Q = (t σ H fun x H1 => ∃ c,x = .bl c ∧ Q c H1) := rfl
theorem a_tAnd {t u : TT} {σ : St} {H : Hp} {Q : Bool → Hp → Prop} : tAnd t u σ H Q = (t σ H fun c H1 => if c = true then u σ H1 Q else Q false H1) := rfl
theorem a_tOr {t u : TT} {σ : St} {H : Hp} {Q : Bool → Hp → Prop} : tOr t u σ H Q = (t σ H fun c H1 => if c = true then Q true H1 else u σ H1 Q) := rfl
theorem a_tNot {t : TT} {σ : St} {H : Hp} {Q : Bool → Hp → Prop} : tNot t σ H Q = (t σ H fun c H1 => Q (!c) H1) := rfl
theorem a_tAndV {ta tb : TE} {σ : St} {H : Hp} {Q : VK} : tAndV ta tb σ H Q = (ta σ H fun x H1 => ∃ c,x = .bl c ∧ if c = true then tb σ H1 Q else Q (.bl false) H1) := rfl
theorem a_tOrV {ta tb : TE} {σ : St} {H : Hp} {Q : VK} : tOrV ta tb σ H Q = (ta σ H fun x H1 => ∃ c,x = .bl c ∧ if c = true then Q (.bl true) H1 else tb σ H1 Q) := rfl
theorem a_tNotV {ta : TE} {σ : St} {H : Hp} {Q : VK} : tNotV ta σ H Q = (ta σ H fun x H1 => ∃ c,x = .bl c ∧ Q (.bl (!c)) H1) := rfl
theorem a_tIf {t : TT} {ta tb : TE} {σ : St} {H : Hp} {Q : VK} : tIf t ta tb σ H Q = (t σ H fun c H1 => if c = true then ta σ H1 Q else tb σ H1 Q) := rfl
theorem a_tNext {D : Ends} {σ : St} {H : Hp} : tNext  D σ H = (D.nx σ H) := rfl
theorem a_tSeq {t u : TS} {D : Ends} {σ : St} {H : Hp} : tSeq t u D σ H = (t { D with nx := u D } σ H) := rfl
theorem a_tDrop {te : TE} {D : Ends} {σ : St} {H : Hp} : tDrop te D σ H = (te σ H fun _ H1 => D.nx σ H1) := rfl
theorem a_tRet {te : TE} {D : Ends} {σ : St} {H : Hp} : tRet te D σ H = (te σ H D.rt) := rfl
theorem a_tIfS {c : TT} {t u : TS} {D : Ends} {σ : St} {H : Hp} : tIfS c t u D σ H = (c σ H fun b H1 => if b = true then t D σ H1 else u D σ H1) := rfl
theorem a_tNever {D : Ends} {σ : St} {H : Hp} : tNever  D σ H = (False) := rfl
theorem a_gName {i : Nat} {v : V} {σ : St} {H : Hp} {Q : St → Hp → Prop} : gName i v σ H Q = (Q (σ.set i (some v)) H) := rfl
theorem a_gNil {vs : List V} {σ : St} {H : Hp} {Q : St → Hp → Prop} : gNil  vs σ H Q = (vs = [] ∧ Q σ H) := rfl
theorem a_gCons {t : TG} {u : TGs} {vs : List V} {σ : St} {H : Hp} {Q : St → Hp → Prop} : gCons t u vs σ H Q = (∃ v r,vs = v :: r ∧ t v σ H fun σ' H' => u r σ' H' Q) := rfl
theorem a_gTup {K : PySem.W.Frag} {n : Nat} {t : TGs} {v : V} {σ : St} {H : Hp} {Q : St → Hp → Prop} : gTup K n t v σ H Q = (∃ a xs,v = .ref a ∧ SqT K H a xs ∧ xs.length = n ∧ t xs σ H Q) := rfl
theorem a_gSub {to ti : TE} {t : TSet} {v : V} {σ : St} {H : Hp} {Q : St → Hp → Prop} : gSub to ti t v σ H Q = (to σ H fun o H1 => ti σ H1 fun i H2 => t o i v H2 fun H3 => Q σ H3) := rfl
theorem a_tAsg {te : TE} {g : TG} {D : Ends} {σ : St} {H : Hp} : tAsg te g D σ H = (te σ H fun x H1 => g x σ H1 D.nx) := rfl
theorem a_tAug {i : Nat} {te : TE} {ti : TIp} {D : Ends} {σ : St} {H : Hp} : tAug i te ti D σ H = (∃ x,σ[i]? = some (some x) ∧ te σ H fun y H1 => ti x y H1 fun z H2 => D.nx (σ.set i (some z)) H2) := rfl
theorem a_iRng1 {ta : TA} {σ : St} {H : Hp} {R : It → Hp → Prop} : iRng1 ta σ H R = (ta σ H fun vs H1 => ∃ j : Int,vs = [.int j] ∧ -(2 ^ 62) ≤ j ∧ j < 2 ^ 62 ∧ R (Itr 0 j.toNat) H1) := rfl
theorem a_tOp {r : R2} {ta tb : TE} {σ : St} {H : Hp} {Q : VK} : tOp r ta tb σ H Q = (ta σ H fun x H1 => tb σ H1 fun y H2 => r x y H2 Q) := rfl
theorem a_tUn {r : V → Hp → VK → Prop} {ta : TE} {σ : St} {H : Hp} {Q : VK} : tUn r ta σ H Q = (ta σ H fun x H1 => r x H1 Q) := rfl
theorem a_rI {C : Int → Int → Prop} {g : Int → Int → V} {x y : V} {H : Hp} {Q : VK} : rI C g x y H Q = (∃ i j,x = .int i ∧ y = .int j ∧ C i j ∧ Q (g i j) H) := rfl
theorem a_rI0 {g : Int → Int → V} {x y : V} {H : Hp} {Q : VK} : rI0 g x y H Q = (∃ i j,x = .int i ∧ y = .int j ∧ Q (g i j) H) := rfl
theorem a_rU {g : Int → V} {x : V} {H : Hp} {Q : VK} : rU g x H Q = (∃ i,x = .int i ∧ Q (g i) H) := rfl
theorem a_rEq {x y : V} {H : Hp} {Q : VK} : rEq  x y H Q = (scal x y = true ∧ Q (.bl (decide (x = y))) H) := rfl
theorem a_rNe {x y : V} {H : Hp} {Q : VK} : rNe  x y H Q = (scal x y = true ∧ Q (.bl (!decide (x = y))) H) := rfl
theorem a_tTest {t : TE} {σ : St} {H : Hp} {Q : Bool → Hp → Prop} : tTest t σ H Q = (t σ H fun x H' => ∃ k,x = .bl k ∧ Q k H') := rfl
theorem a_tChain {r r' : R2} {ta tb tc : TE} {σ : St} {H : Hp} {Q : VK} : tChain r r' ta tb tc σ H Q = (ta σ H fun x H1 => tb σ H1 fun y H2 => r x y H2 fun z H3 => ∃ k,z = .bl k ∧   (if k = true then tc σ H3 fun w' H4 => r' y w' H4 Q else Q (.bl false) H3)) := rfl
theorem a_tNil {σ : St} {H : Hp} {Q : List V → Hp → Prop} : tNil  σ H Q = (Q [] H) := rfl
theorem a_tCons {ta : TE} {tr : TA} {σ : St} {H : Hp} {Q : List V → Hp → Prop} : tCons ta tr σ H Q = (ta σ H fun x H1 => tr σ H1 fun xs H2 => Q (x :: xs) H2) := rfl
theorem a_tCall {sp : Sp} {dvs : List V} {E : XK} {t : TA} {σ : St} {H : Hp} {Q : VK} : tCall sp dvs E t σ H Q = (t σ H fun vs H1 => sp (vs ++ dvs) H1 Q E) := rfl
theorem a_tCB {r : List V → Hp → VK → Prop} {t : TA} {σ : St} {H : Hp} {Q : VK} : tCB r t σ H Q = (t σ H fun vs H1 => r vs H1 Q) := rfl
theorem a_tNoPart {σ : St} {H : Hp} {Q : Option Int → Hp → Prop} : tNoPart  σ H Q = (Q none H) := rfl
theorem a_tPart {t : TE} {σ : St} {H : Hp} {Q : Option Int → Hp → Prop} : tPart t σ H Q = (t σ H fun x H1 => ∃ i,x = .int i ∧ Q (some i) H1) := rfl
theorem a_tSl {r : V → Option Int → Option Int → Hp → VK → Prop} {te : TE} {tl th : TO} {σ : St} {H : Hp} {Q : VK} : tSl r te tl th σ H Q = (te σ H fun x H1 => tl σ H1 fun l H2 => th σ H2 fun u H3 => r x l u H3 Q) := rfl
theorem a_rIxL {K : PySem.W.Frag} {x y : V} {H : Hp} {Q : VK} : rIxL K x y H Q = (∃ p xs i v,x = .ref p ∧ y = .int i ∧ SqL K H p xs ∧ atI xs i = some v ∧ Q v H) := rfl
theorem a_rIxS {x y : V} {H : Hp} {Q : VK} : rIxS  x y H Q = (∃ z i c,x = .str z ∧ y = .int i ∧ z.length ≤ sizeLine ∧ atI z.cps.toList i = some c ∧ Q (.str ⟨#[c]⟩) H) := rfl
theorem a_tBM {K : PySem.W.Frag} {T : String} {r : V → List V → Hp → VK → Prop} {to : TE} {t : TA} {σ : St} {H : Hp} {Q : VK} : tBM K T r to t σ H Q = (to σ H fun x H1 => tyV K T x H1 ∧ t σ H1 fun xs H2 => r x xs H2 Q) := rfl
theorem a_tDIn {ty td : TE} {σ : St} {H : Hp} {Q : VK} : tDIn ty td σ H Q = (ty σ H fun y H1 => td σ H1 fun x H2 => ∃ a o,x = .ref a ∧ DGet H2 a y o ∧ Q (.bl o.isSome) H2) := rfl
theorem a_sDPut {td ty tv : TE} {D : Ends} {σ : St} {H : Hp} : sDPut td ty tv D σ H = (tv σ H fun v H1 => td σ H1 fun x H2 => ty σ H2 fun y H3 => ∃ a H4,x = .ref a ∧ DPut H3 a y v H4 ∧ D.nx σ H4) := rfl
theorem a_tYes {σ : St} {H : Hp} {Q : Bool → Hp → Prop} : tYes  σ H Q = (Q true H) := rfl
theorem a_tComp {wi : TI} {caps : List Nat} {tc : TT} {te : TE} {σ : St} {H : Hp} {Q : VK} : tComp wi caps tc te σ H Q = (wi σ H fun J H1 => wComp J caps tc te σ H1 Q) := rfl
theorem a_iStr {tl : TE} {σ : St} {H : Hp} {R : It → Hp → Prop} : iStr tl σ H R = (tl σ H fun x H1 => ∃ z,x = .str z ∧ R (Its z) H1) := rfl
theorem a_rSlS {x : V} {lo hi : Option Int} {H : Hp} {Q : VK} : rSlS  x lo hi H Q = (∃ z,x = .str z ∧ z.length ≤ sizeLine ∧ Q (.str (Txt.slice z lo hi)) H) := rfl
theorem a_rJoin {K : PySem.W.Frag} {x : V} {xs : List V} {H : Hp} {Q : VK} : rJoin K x xs H Q = (∃ sep a ys,x = .str sep ∧ xs = [.ref a] ∧ (SqL K H a (ys.map V.str) ∨ SqT K H a (ys.map V.str)) ∧ (ys.map (·.length)).sum + ys.length * sep.length ≤ 16777216 ∧ Q (.str (Txt.join sep ys)) H) := rfl
theorem a_rEqD {x y : V} {H : Hp} {Q : VK} : rEqD  x y H Q = (∃ d e,Dt H d x ∧ Dt H e y ∧ d.dp ≤ 150 ∧ Q (.bl (D.eq d e)) H) := rfl
theorem a_rNeD {x y : V} {H : Hp} {Q : VK} : rNeD  x y H Q = (∃ d e,Dt H d x ∧ Dt H e y ∧ d.dp ≤ 150 ∧ Q (.bl (!D.eq d e)) H) := rfl
theorem a_rInD {neg : Bool} {x y : V} {H : Hp} {Q : VK} : rInD neg x y H Q = (∃ a vs ds e,y = .ref a ∧ (H a = some (.lst vs) ∨ H a = some (.tup vs)) ∧ Dts H ds vs ∧ Dt H e x ∧ D.dps ds ≤ 150 ∧ Q (.bl (if neg then !ds.any (fun d => D.eq d e) else ds.any (fun d => D.eq d e))) H) := rfl
theorem a_rCatD {x y : V} {H : Hp} {Q : VK} : rCatD  x y H Q = (∃ a b xs ys,x = .ref a ∧ y = .ref b ∧ H a = some (.tup xs) ∧ H b = some (.tup ys) ∧ xs.length + ys.length ≤ sizeLine ∧   ∀ p H',Same H H' → H' p = some (.tup (xs ++ ys)) → Q (.ref p) H') := rfl
theorem a_rIxF {x y : V} {H : Hp} {Q : VK} : rIxF  x y H Q = (∃ p xs i v,x = .ref p ∧ y = .int i ∧ itemsOf (H p) = some xs ∧ atI xs i = some v ∧ Q v H) := rfl
theorem scal_ii {i j : Int} : (scal (.int i) (.int j) = true) = True := eq_true rfl
theorem scal_ss {i j : Str} : (scal (.str i) (.str j) = true) = True := eq_true rfl
theorem scal_bb {i j : Bool} : (scal (.bl i) (.bl j) = true) = True := eq_true rfl
end L2
namespace L2
open PySem PySem.Spec PyProof.Rows
noncomputable def NewO (H : Hp) (o : HO) (Q : VK) : Prop := ∀ p,H p = none → Q (.ref p) (upd H p o)
theorem NewO.mk {H : Hp} {o : HO} {Q : VK} (h : ∀ p H',Same H H' → H p = none → H' p = some o → Q (.ref p) H') : NewO H o Q := fun p hp => h p _ (same_new hp o) hp upd_same
noncomputable def PutO (H : Hp) (l : Addr) (o : HO) (R : Hp → Prop) : Prop := R (upd H l o)
theorem PutO.mk {H : Hp} {l : Addr} {o : HO} {R : Hp → Prop} (h : ∀ H',(∀ b,b ≠ l → H' b = H b) → H' l = some o → R H') : PutO H l o R := h _ (fun b hb => upd_ne hb) upd_same
theorem b_tTup {t : TA} {σ : St} {H : Hp} {Q : VK} : tTup t σ H Q = (t σ H fun xs H1 => xs.length ≤ sizeLine ∧ NewO H1 (.tup xs) Q) := rfl
theorem b_tLst {t : TA} {σ : St} {H : Hp} {Q : VK} : tLst t σ H Q = (t σ H fun xs H1 => xs.length ≤ sizeLine ∧ NewO H1 (.lst xs) Q) := rfl
theorem b_rAppend {x : V} {vs : List V} {H : Hp} {Q : VK} : rAppend x vs H Q = (∃ l xs y,x = .ref l ∧ vs = [y] ∧ H l = some (.lst xs) ∧ xs.length < sizeLine ∧ PutO H l (.lst (xs ++ [y])) (Q .non)) := rfl
theorem b_rExtend {x : V} {vs : List V} {H : Hp} {Q : VK} : rExtend x vs H Q = (∃ l b xs zs,x = .ref l ∧ vs = [.ref b] ∧ H l = some (.lst xs) ∧ H b = some (.lst zs) ∧ xs.length + zs.length ≤ sizeLine ∧ PutO H l (.lst (xs ++ zs)) (Q .non)) := rfl
theorem b_rCat {x y : V} {H : Hp} {Q : VK} : rCat x y H Q = (∃ l b xs zs,x = .ref l ∧ y = .ref b ∧ H l = some (.lst xs) ∧ H b = some (.lst zs) ∧ xs.length + zs.length ≤ sizeLine ∧ NewO H (.lst (xs ++ zs)) Q) := rfl
theorem b_rRep {x y : V} {H : Hp} {Q : VK} : rRep x y H Q = (∃ l k xs,x = .ref l ∧ y = .int k ∧ H l = some (.lst xs) ∧ -(2 ^ 63) ≤ k ∧ k < 2 ^ 63 ∧ xs.length * k.toNat ≤ sizeLine ∧ NewO H (.lst (List.replicate k.toNat xs).flatten) Q) := rfl
theorem b_rSetL {o i v : V} {H : Hp} {Q : Hp → Prop} : rSetL o i v H Q = (∃ p xs k j,o = .ref p ∧ i = .int k ∧ H p = some (.lst xs) ∧ ixN xs.length k = some j ∧ PutO H p (.lst (xs.set j v)) Q) := rfl
theorem b_tDNewK {σ : St} {H : Hp} {Q : VK} : tDNewK σ H Q = NewO H (.dK []) Q := rfl
noncomputable def rSlLF : V → Option Int → Option Int → Hp → VK → Prop := fun x lo hi H Q => ∃ a xs,x = .ref a ∧ H a = some (.lst xs) ∧ NewO H (.lst (cutV xs lo hi)) Q
theorem slLG {X : Cx} : SlR X rSlLF := slLF
theorem a_rSlLF {x : V} {lo hi : Option Int} {H : Hp} {Q : VK} : rSlLF x lo hi H Q = (∃ a xs,x = .ref a ∧ H a = some (.lst xs) ∧ NewO H (.lst (cutV xs lo hi)) Q) := rfl
noncomputable def rLenF : List V → Hp → VK → Prop := fun xs H Q => ∃ p ys,xs = [.ref p] ∧ itemsOf (H p) = some ys ∧ Q (.int ys.length) H
theorem lenG {X : Cx} : CallR X (.builtin "len") rLenF := lenF
theorem a_rLenF {xs : List V} {H : Hp} {Q : VK} : rLenF xs H Q = (∃ p ys,xs = [.ref p] ∧ itemsOf (H p) = some ys ∧ Q (.int ys.length) H) := rfl
theorem items_l {H : Hp} {a : Addr} {xs : List V} (h : H a = some (.lst xs)) : itemsOf (H a) = some xs := by rw [h]; rfl
theorem items_t {H : Hp} {a : Addr} {xs : List V} (h : H a = some (.tup xs)) : itemsOf (H a) = some xs := by rw [h]; rfl
theorem Same.put_new {H0 H H' : Hp} {l : Addr} (S : Same H0 H) (n : H0 l = none) (k : ∀ b,b ≠ l → H' b = H b) : Same H0 H' := fun b o e => by
 rw [k b (ne_of_none e n)]; exact S b o e
theorem Dt.of_put {H H' : Hp} {l : Addr} {xs : List V} {d : D} {v : V} (hl : H l = some (.lst xs)) (k : ∀ b,b ≠ l → H' b = H b) (n : d.nl = true) (h : Dt H d v) : Dt H' d v :=
 h.tups (fun b ys e => by rw [k b (ne_of e hl (by intro z; cases z))]; exact e) n
theorem Dts.of_put {H H' : Hp} {l : Addr} {xs : List V} {d : List D} {v : List V} (hl : H l = some (.lst xs)) (k : ∀ b,b ≠ l → H' b = H b) (n : D.nls d = true) (h : Dts H d v) : Dts H' d v :=
 h.tups (fun b ys e => by rw [k b (ne_of e hl (by intro z; cases z))]; exact e) n
noncomputable abbrev Tree := M.Tr Str
noncomputable def dT : Tree → D
 | .leaf x => .tup [.str "leaf",.str x]
 | .knot f l r => .tup [.str "knot",.str f,dT l,dT r]
noncomputable def vP (p : List Nat) : List V := p.map fun (i : Nat) => .int (i : Int)
noncomputable def dP (p : List Nat) : D := .tup (p.map fun (i : Nat) => .int (i : Int))
noncomputable def dO : Option (List Nat) → D
 | none => .non
 | some p => dP p
theorem dT_nl (t : Tree) : (dT t).nl = true := by
 induction t with
 | leaf x => simp [dT,D.nl,D.nls]
 | knot f l r ihl ihr => simp [dT,D.nl,D.nls,ihl,ihr]
theorem ints_nls (p : List Nat) : D.nls (p.map fun (i : Nat) => D.int (i : Int)) = true := by
 induction p with
 | nil => rfl
 | cons i p ih => simp [D.nls,D.nl,ih]
theorem ints_cls (p : List Nat) : D.cls (p.map fun (i : Nat) => D.int (i : Int)) = true := by
 induction p with
 | nil => rfl
 | cons i p ih => simp [D.cls,D.cl,ih]
theorem ints_dps (p : List Nat) : D.dps (p.map fun (i : Nat) => D.int (i : Int)) = 0 := by
 induction p with
 | nil => rfl
 | cons i p ih => simp [D.dps,D.dp,ih]
theorem dP_nl (p : List Nat) : (dP p).nl = true := by simp only [dP,D.nl]; exact ints_nls p
theorem dP_cl (p : List Nat) : (dP p).cl = true := by simp only [dP,D.cl]; exact ints_cls p
theorem dP_dp (p : List Nat) : (dP p).dp = 1 := by simp only [dP,D.dp,ints_dps]
theorem dO_cl (o : Option (List Nat)) : (dO o).cl = true := by cases o <;> simp [dO,dP_cl,D.cl]
theorem dO_nl (o : Option (List Nat)) : (dO o).nl = true := by cases o <;> simp [dO,dP_nl,D.nl]
theorem dO_dp (o : Option (List Nat)) : (dO o).dp ≤ 1 := by cases o <;> simp [dO,dP_dp,D.dp]
theorem ints_inj : ∀ {p q : List Nat},(p.map fun (i : Nat) => D.int (i : Int)) = (q.map fun (i : Nat) => D.int (i : Int)) → p = q
 | [],[],_ => rfl
 | [],_ :: _,h => by simp at h
 | _ :: _,[],h => by simp at h
 | i :: p,j :: q,h => by
  simp only [List.map_cons,List.cons.injEq,D.int.injEq] at h
  rw [ints_inj h.2]
  have : i = j := by omega
  rw [this]
theorem dP_inj {p q : List Nat} (h : dP p = dP q) : p = q := by
 simp only [dP,D.tup.injEq] at h
 exact ints_inj h
theorem dO_inj {p q : Option (List Nat)} (h : dO p = dO q) : p = q := by
 cases p <;> cases q <;> simp only [dO] at h
 · rfl
 · simp [dP] at h
 · simp [dP] at h
 · rw [dP_inj h]
theorem Dts.ints {H : Hp} : ∀ {p : List Nat} {vs : List V},Dts H (p.map fun (i : Nat) => D.int (i : Int)) vs → vs = vP p
 | [],vs,h => by
  simp only [List.map_nil,Dts] at h
  exact h
 | i :: p,vs,h => by
  simp only [List.map_cons,Dts] at h
  obtain ⟨v,r,rfl,h1,h2⟩ := h
  rw [isD_int.mp h1,Dts.ints h2]; rfl
theorem Dts.ofInts {H : Hp} : ∀ {p : List Nat},Dts H (p.map fun (i : Nat) => D.int (i : Int)) (vP p)
 | [] => by simp only [List.map_nil,Dts,vP]
 | i :: p => Dts.cons (isD_int.mpr rfl) Dts.ofInts
theorem dP_of {H : Hp} {p : List Nat} {v : V} (h : Dt H (dP p) v) : ∃ a,v = .ref a ∧ H a = some (.tup (vP p)) := by
 obtain ⟨a,vs,rfl,e,h⟩ := isD_tup.mp h
 rw [Dts.ints h] at e
 exact ⟨a,rfl,e⟩
theorem dP_mk {H : Hp} {p : List Nat} {a : Addr} (e : H a = some (.tup (vP p))) : Dt H (dP p) (.ref a) := Dt.tup e Dts.ofInts
theorem dT_leaf {H : Hp} {x : Str} {v : V} (h : Dt H (dT (.leaf x)) v) : ∃ a,v = .ref a ∧ H a = some (.tup [.str "leaf",.str x]) := by
 simp only [dT] at h
 obtain ⟨a,vs,rfl,e,h⟩ := isD_tup.mp h
 obtain ⟨v1,r,rfl,h1,h⟩ := isDs_cons.mp h
 obtain ⟨v2,r,rfl,h2,h⟩ := isDs_cons.mp h
 rw [isDs_nil.mp h,isD_str.mp h1,isD_str.mp h2] at e
 exact ⟨a,rfl,e⟩
theorem dT_knot {H : Hp} {f : Str} {l r : Tree} {v : V} (h : Dt H (dT (.knot f l r)) v) : ∃ a vl vr,v = .ref a ∧ H a = some (.tup [.str "knot",.str f,vl,vr]) ∧ Dt H (dT l) vl ∧ Dt H (dT r) vr := by
 simp only [dT] at h
 obtain ⟨a,vs,rfl,e,h⟩ := isD_tup.mp h
 obtain ⟨v1,r1,rfl,h1,h⟩ := isDs_cons.mp h
 obtain ⟨v2,r2,rfl,h2,h⟩ := isDs_cons.mp h
 obtain ⟨v3,r3,rfl,h3,h⟩ := isDs_cons.mp h
 obtain ⟨v4,r4,rfl,h4,h⟩ := isDs_cons.mp h
 rw [isDs_nil.mp h,isD_str.mp h1,isD_str.mp h2] at e
 exact ⟨a,v3,v4,rfl,e,h3,h4⟩
theorem leaf_mk {H : Hp} {x : Str} {a : Addr} (e : H a = some (.tup [.str "leaf",.str x])) : Dt H (dT (.leaf x)) (.ref a) := Dt.tup e (.cons (isD_str.mpr rfl) (.cons (isD_str.mpr rfl) .nil))
theorem knot_mk {H : Hp} {f : Str} {l r : Tree} {a : Addr} {vl vr : V} (e : H a = some (.tup [.str "knot",.str f,vl,vr])) (hl : Dt H (dT l) vl) (hr : Dt H (dT r) vr) : Dt H (dT (.knot f l r)) (.ref a) :=
 Dt.tup e (.cons (isD_str.mpr rfl) (.cons (isD_str.mpr rfl) (.cons hl (.cons hr .nil))))
theorem dT_any {H : Hp} {t : Tree} {v : V} (h : Dt H (dT t) v) : ∃ a r,v = .ref a ∧ H a = some (.tup (.str (if t.isL then "leaf" else "knot") :: .str t.name :: r)) := by
 cases t with
 | leaf x => obtain ⟨a,rfl,e⟩ := dT_leaf h; exact ⟨a,_,rfl,e⟩
 | knot f l r => obtain ⟨a,vl,vr,rfl,e,_⟩ := dT_knot h; exact ⟨a,_,rfl,e⟩
theorem Dts.map_of {α : Type} {H : Hp} {f : α → D} : ∀ {l : List α} {vs : List V} {i : Nat} {x : α},Dts H (l.map f) vs → l[i]? = some x → ∃ v,vs[i]? = some v ∧ Dt H (f x) v := fun h e => h.get (by rw [List.getElem?_map,e]; rfl)
noncomputable def nmS (c : Int) (many k : Nat) : Str := ⟨(M.nm c many k).toArray⟩
theorem sign_cat (a : List Nat) (b : List Nat) : (Str.mk a.toArray) ++ (Str.mk b.toArray) = Str.mk (a ++ b).toArray := by
 show Str.append _ _ = _
 simp [Str.append]
theorem join_signs : ∀ l : List Nat,Str.join (⟨#[]⟩ : Str) (l.map fun c => (⟨#[c]⟩ : Str)) = ⟨l.toArray⟩
 | [] => rfl
 | [c] => rfl
 | c :: d :: l => by
  have ih := join_signs (d :: l)
  show (⟨#[c]⟩ : Str) ++ (⟨#[]⟩ : Str) ++ Str.join ⟨#[]⟩ ((d :: l).map fun c => (⟨#[c]⟩ : Str)) = _
  rw [ih]
  have e : (⟨#[c]⟩ : Str) ++ (⟨#[]⟩ : Str) = Str.mk [c].toArray := by show Str.append _ _ = _; simp [Str.append]
  rw [e,sign_cat]; rfl
theorem join_signs' (l : List Nat) : Txt.join (Str.ofString "") (l.map fun c => (⟨#[c]⟩ : Str)) = ⟨l.toArray⟩ := by
 show Builtin.Str.glued _ _ = _
 rw [StrLaws.glued_eq_join]
 have : Str.ofString "" = (⟨#[]⟩ : Str) := by decide +kernel
 rw [this]; exact join_signs l
noncomputable def isName (l : List Nat) : Bool := decide (1 ≤ l.length) && (decide (l.length ≤ 8) && l.all fun c => decide (97 ≤ c) && decide (c ≤ 122))
theorem isName_good {l : List Nat} (h : M.good l) : isName l = true := by
 obtain ⟨h1,h2,h3⟩ := h
 unfold isName
 simp only [Bool.and_eq_true,decide_eq_true_eq,List.all_eq_true]
 exact ⟨h1,h2,h3⟩
noncomputable def nameOk (x : Str) : Bool := isName x.cps.toList
structure TreeOf (many : Nat) (t : Tree) (c c' : Int) : Prop where
 perm : t.lv.Perm ((List.range many).map (nmS c many))
 kn : ∀ f ∈ t.kn,f ∈ (List.range 3).map (nmS c' 3)
 dp : t.dp ≤ 24
theorem nmS_inj {c : Int} {many i j : Nat} (hm : many ≤ 32) (hi : i < many) (hj : j < many) (h : nmS c many i = nmS c many j) : i = j := by
 unfold nmS at h
 simp only [Str.mk.injEq,Array.mk.injEq] at h
 exact M.nm_inj hm hi hj (by simpa using h)
theorem nmS_ok {c : Int} {many k : Nat} (h : k < many) : nameOk (nmS c many k) = true := isName_good (M.nm_good h)
namespace TreeOf
variable {many : Nat} {t : Tree} {c c' : Int}
theorem len (h : TreeOf many t c c') : t.lv.length = many := by rw [h.perm.length_eq]; simp
theorem nodup (h : TreeOf many t c c') (hm : many ≤ 32) : t.lv.Nodup := h.perm.nodup_iff.mpr (M.range_map_nodup fun _ _ hi hj e => nmS_inj hm hi hj e)
theorem lvOk (h : TreeOf many t c c') : ∀ x ∈ t.lv,nameOk x = true := fun x hx => by
 obtain ⟨k,hk,rfl⟩ := List.mem_map.mp (h.perm.mem_iff.mp hx)
 exact nmS_ok (List.mem_range.mp hk)
theorem knOk (h : TreeOf many t c c') : ∀ x ∈ t.kn,nameOk x = true := fun x hx => by
 obtain ⟨k,hk,rfl⟩ := List.mem_map.mp (h.kn x hx)
 exact nmS_ok (List.mem_range.mp hk)
end TreeOf
theorem atI_int {α : Type} {xs : List α} {i : Int} {v : α} (h0 : 0 ≤ i) (h : xs[i.toNat]? = some v) : atI xs i = some v := by
 have e : i = ((i.toNat : Nat) : Int) := by omega
 rw [e]; exact atI_nat h
theorem ixN_int {n : Nat} {i : Int} (h0 : 0 ≤ i) (h : i < n) : ixN n i = some i.toNat := by unfold ixN; rw [if_pos h0,if_pos h]
theorem cutV_to {xs : List V} {p : Nat} (h : p ≤ xs.length) : cutV xs none (some (p : Int)) = xs.take p := by
 have e1 : HT.sIx xs.length 0 none = 0 := rfl
 have e2 : HT.sIx xs.length xs.length (some (p : Int)) = p := by rw [HT.sIx_nat]; omega
 unfold cutV
 rw [e1,e2]; simp
theorem cutV_from {xs : List V} {p : Nat} (h : p ≤ xs.length) : cutV xs (some (p : Int)) none = xs.drop p := by
 have e1 : HT.sIx xs.length xs.length none = xs.length := rfl
 have e2 : HT.sIx xs.length 0 (some (p : Int)) = p := by rw [HT.sIx_nat]; omega
 unfold cutV
 rw [e1,e2,List.take_of_length_le (by simp)]
noncomputable def rIntB : List V → Hp → VK → Prop := fun xs H Q => ∃ k,xs = [.bl k] ∧ Q (.int (if k then 1 else 0)) H
theorem call_intB {X : Cx} : CallR X (.type "int") rIntB := fun pins s σ H xs us Q I r h => call_int1 pins s σ H xs us Q I r (.inr h)
theorem a_rIntB {xs : List V} {H : Hp} {Q : VK} : rIntB xs H Q = (∃ k,xs = [.bl k] ∧ Q (.int (if k then 1 else 0)) H) := rfl
noncomputable abbrev LETT : Str := Str.ofString "abcdefghijklmnopqrstuvwxyz"
theorem lett_list : LETT.cps.toList = (List.range 26).map (97 + ·) := by decide +kernel
theorem lett_at {i : Int} (h0 : 0 ≤ i) (h : i < 26) : atI LETT.cps.toList i = some (97 + i.toNat) := by
 refine atI_int h0 ?_
 rw [lett_list,List.getElem?_map,List.getElem?_range (by omega)]; rfl
theorem lett_big : LETT.length ≤ sizeLine := by
 have : LETT.length = 26 := by
  have e := congrArg List.length lett_list
  simpa [Str.length] using e
 rw [this]; decide
theorem lett_c (c : Int) : atI LETT.cps.toList (c % 26) = some (M.let26 c) := lett_at (by omega) (by omega)
theorem rep_one {α : Type} (n : Nat) (x : α) : (List.replicate n [x]).flatten = List.replicate n x := by
 induction n with
 | zero => rfl
 | succ n ih => simp [List.replicate_succ,ih]
theorem ty_str {K : PySem.W.Frag} {z : Str} {H : Hp} : (tyV K "str" (.str z) H) = True := eq_true rfl
theorem ty_lst {K : PySem.W.Frag} {H : Hp} {p : Addr} {xs : List V} (e : H p = some (.lst xs)) : tyV K "list" (.ref p) H := .inl ⟨rfl,_,SqL.of e⟩
theorem small_size {n : Nat} (h : n ≤ 100000) : n < sizeLine := Nat.lt_of_le_of_lt h (by decide)
theorem small_le {n : Nat} (h : n ≤ 100000) : n ≤ sizeLine := Nat.le_of_lt (small_size h)
theorem sum_ones : ∀ l : List Nat,((l.map fun c => (⟨#[c]⟩ : Str)).map (fun x => x.length)).sum = l.length
 | [] => rfl
 | c :: l => by simp only [List.map_cons,List.sum_cons,sum_ones l,List.length_cons]; show 1 + l.length = _; omega
theorem app_join {K : PySem.W.Frag} {H : Hp} {p2 p5 : Addr} {xs : List V} {l : List Nat} {R : Hp → Prop} (e2 : H p2 = some (.lst xs)) (e5 : H p5 = some (.lst (l.map fun x => V.str ⟨#[x]⟩))) (hx : xs.length ≤ 1000) (hl : l.length ≤ 1000)
 (q : ∀ H',(∀ b,b ≠ p2 → H' b = H b) → H' p2 = some (.lst (xs ++ [.str ⟨l.toArray⟩])) → R H') :
 tyV K "list" (.ref p2) H ∧ ∃ x,(SqL K H p5 (x.map V.str) ∨ SqT K H p5 (x.map V.str)) ∧ (x.map (fun x => x.length)).sum + x.length * (Str.ofString "").length ≤ 16777216 ∧
  ∃ x_1,H p2 = some (.lst x_1) ∧ x_1.length < sizeLine ∧ PutO H p2 (.lst (x_1 ++ [.str (Txt.join (Str.ofString "") x)])) R := by
 refine ⟨ty_lst e2,l.map fun c => (⟨#[c]⟩ : Str),.inl (SqL.of (by rw [e5,List.map_map]; rfl)),?_,xs,e2,small_size (by omega),PutO.mk fun H' k e => q H' k ?_⟩
 · rw [sum_ones,List.length_map]
   have : (Str.ofString "").length = 0 := by decide +kernel
   rw [this]; omega
 · rw [e,join_signs']
noncomputable def WalkL (K : PySem.W.Frag) (x : V) (H : Hp) (R : It → Hp → Prop) : Prop := ∃ a,x = .ref a ∧ (∃ xs,H a = some (.lst xs)) ∧ R (Itl K a) H
noncomputable def WalkT (K : PySem.W.Frag) (x : V) (H : Hp) (R : It → Hp → Prop) : Prop := ∃ a,x = .ref a ∧ (∃ xs,H a = some (.tup xs)) ∧ R (Itt K a) H
noncomputable def iL (K : PySem.W.Frag) (tl : TE) : TI := fun σ H R => tl σ H fun x H1 => WalkL K x H1 R
noncomputable def iT (K : PySem.W.Frag) (tl : TE) : TI := fun σ H R => tl σ H fun x H1 => WalkT K x H1 R
theorem a_iL {K : PySem.W.Frag} {tl : TE} {σ : St} {H : Hp} {R : It → Hp → Prop} : iL K tl σ H R = tl σ H fun x H1 => WalkL K x H1 R := rfl
theorem a_iT {K : PySem.W.Frag} {tl : TE} {σ : St} {H : Hp} {R : It → Hp → Prop} : iT K tl σ H R = tl σ H fun x H1 => WalkT K x H1 R := rfl
theorem piL {X : Cx} {tg l : Expr} {tl : TE} (hl : PE X l tl) : PI X tg l (iL X.K tl) := by
 intro pins s σ H R I h
 refine thn (hl pins s σ H _ I h) fun v s1 ⟨x,H1,I1,r1,q1⟩ => ?_
 obtain ⟨a,rfl,⟨xs,ha⟩,q⟩ := q1
 cases r1
 have fp : ∀ b ∈ [s1.heap.objs.size],FpOk X pins H1 b := fun b hb => by
  have e : b = s1.heap.objs.size := by simpa using hb
  rw [e]
  exact I1.fpOk (Nat.le_refl _) (I1.hok.fresh (Nat.le_refl _))
 obtain ⟨its,rv,p,hz⟩ := I1.list (SqL.of ha)
 exact wpAny_pyIter_list p.isList ⟨_,_,_,_,H1,rfl,I1.kept (t' := s1.toks) fun b o e => Heap.get?_push_of_some _ e,turn_list a _,⟨_,Heap.get?_push_size _ rfl,rfl,rfl⟩,fp,q⟩
theorem piT {X : Cx} {tg l : Expr} {tl : TE} (hl : PE X l tl) : PI X tg l (iT X.K tl) := by
 intro pins s σ H R I h
 refine thn (hl pins s σ H _ I h) fun v s1 ⟨x,H1,I1,r1,q1⟩ => ?_
 obtain ⟨a,rfl,⟨xs,ha⟩,q⟩ := q1
 cases r1
 have fp : ∀ b ∈ [s1.heap.objs.size],FpOk X pins H1 b := fun b hb => by
  have e : b = s1.heap.objs.size := by simpa using hb
  rw [e]
  exact I1.fpOk (Nat.le_refl _) (I1.hok.fresh (Nat.le_refl _))
 obtain ⟨its,rv,p,hz⟩ := I1.tuple (SqT.of ha)
 exact wpAny_pyIter_tuple (show s1.heap.IsTuple a its.toArray from p) ⟨_,_,_,_,H1,rfl,I1.kept (t' := s1.toks) fun b o e => Heap.get?_push_of_some _ e,turn_tuple a _,⟨_,Heap.get?_push_size _ rfl,rfl,rfl⟩,fp,q⟩
theorem WalkL.for {K : PySem.W.Frag} {a : Addr} {xs : List V} {g : TG} {tb : TS} {D : Ends} {σ : St} {H : Hp} (e : H a = some (.lst xs)) (Pv : Nat → St → Hp → Prop) (h0 : Pv 0 σ H) (hl : ∀ i σ H,i ≤ xs.length → Pv i σ H → H a = some (.lst xs))
 (hs : ∀ i x σ H,xs[i]? = some x → Pv i σ H → g x σ H fun σ2 H2 => tb { D with nx := Pv (i + 1),ct := Pv (i + 1),bk := D.nx } σ2 H2) (hd : ∀ σ H,Pv xs.length σ H → D.nx σ H) : WalkL K (.ref a) H fun J H1 => ForW J g tb D σ H1 :=
 ⟨a,rfl,⟨xs,e⟩,for_list Pv h0 (fun i σ H h p => SqL.of (hl i σ H h p)) hs hd⟩
theorem WalkT.for {K : PySem.W.Frag} {a : Addr} {xs : List V} {g : TG} {tb : TS} {D : Ends} {σ : St} {H : Hp} (e : H a = some (.tup xs)) (Pv : Nat → St → Hp → Prop) (h0 : Pv 0 σ H) (hl : ∀ i σ H,i ≤ xs.length → Pv i σ H → H a = some (.tup xs))
 (hs : ∀ i x σ H,xs[i]? = some x → Pv i σ H → g x σ H fun σ2 H2 => tb { D with nx := Pv (i + 1),ct := Pv (i + 1),bk := D.nx } σ2 H2) (hd : ∀ σ H,Pv xs.length σ H → D.nx σ H) : WalkT K (.ref a) H fun J H1 => ForW J g tb D σ H1 :=
 ⟨a,rfl,⟨xs,e⟩,for_tup Pv h0 (fun i σ H h p => SqT.of (hl i σ H h p)) hs hd⟩
theorem WalkL.comp {K : PySem.W.Frag} {a : Addr} {xs : List V} {caps : List Nat} {tc : TT} {te : TE} {σ : St} {H : Hp} {Q : VK} (e : H a = some (.lst xs)) (Pv : Nat → List V → Hp → Prop) (h0 : Pv 0 [] H) (hx : xs.length ≤ 100000)
 (hy : ∀ i ys H',Pv i ys H' → ys.length ≤ i)
 (hs : ∀ i x ys H',xs[i]? = some x → Same H H' → Pv i ys H' → tc (blkSt caps σ (some x)) H' fun b H2 => if b = true then te (blkSt caps σ (some x)) H2 fun y H3 => Same H H3 ∧ Pv (i + 1) (ys ++ [y]) H3 else Same H H2 ∧ Pv (i + 1) ys H2)
 (hd : ∀ p ys H1 H2,Same H H1 → Same H1 H2 → Pv xs.length ys H1 → H1 p = none → H2 p = some (.lst ys) → Q (.ref p) H2) : WalkL K (.ref a) H fun J H1 => wComp J caps tc te σ H1 Q :=
 ⟨a,rfl,⟨xs,e⟩,comp_list (fun i ys H' => Same H H' ∧ Pv i ys H') ⟨Same.refl H,h0⟩ (small_size hx) (fun i ys H' p => hy i ys H' p.2) (fun i ys H' _ p => SqL.of (p.1 _ _ e)) (fun i x ys H' ex p => hs i x ys H' ex p.1 p.2) fun ys H' p q n => hd q ys H' _ p.1 (same_new n _) p.2 n upd_same⟩
theorem nls_map {α : Type} {f : α → D} (h : ∀ a,(f a).nl = true) : ∀ l : List α,D.nls (l.map f) = true
 | [] => rfl
 | a :: l => by simp only [List.map_cons,D.nls,h a,nls_map h l,Bool.and_self]
end L2
namespace L2
open PySem PySem.Spec PyProof.Rows
theorem str_ext {x y : Str} (h : x.cps.toList = y.cps.toList) : x = y := by
 obtain ⟨⟨a⟩⟩ := x
 obtain ⟨⟨b⟩⟩ := y
 simp only at h
 rw [h]
theorem cps_append (x y : Str) : (x ++ y).cps.toList = x.cps.toList ++ y.cps.toList := by
 show (Str.append x y).cps.toList = _
 simp [Str.append]
theorem cps_mk (l : List Nat) : (Str.mk l.toArray).cps.toList = l := by simp
theorem len_cps (x : Str) : x.length = x.cps.toList.length := by simp [Str.length]
theorem slice_nat (x : Str) {a b : Nat} (hab : a ≤ b) (hb : b ≤ x.length) : (Txt.slice x (some (a : Int)) (some (b : Int))).cps.toList = (x.cps.toList.drop a).take (b - a) := by
 have : Txt.slice x (some (a : Int)) (some (b : Int)) = StrLaws.sliceText x (some (a : Int)) (some (b : Int)) := rfl
 rw [this,StrLaws.sliceText_nat x hab hb]
theorem slice_clamp (x : Str) (a : Option Int) {b : Nat} (hb : x.length ≤ b) : Txt.slice x a (some (b : Int)) = Txt.slice x a (some (x.length : Int)) := by
 have h1 : ¬ ((b : Int) < 0) := by omega
 have h2 : ¬ ((x.length : Int) < 0) := by omega
 have e : Builtin.Str.strSliceIndices a (some (b : Int)) 1 x.length = Builtin.Str.strSliceIndices a (some (x.length : Int)) 1 x.length := by
  simp only [Builtin.Str.strSliceIndices,h1,h2,if_false,show (1 : Int) > 0 by decide,if_true]
  have e1 : min (b : Int) (x.length : Int) = (x.length : Int) := by omega
  have e2 : min (x.length : Int) (x.length : Int) = (x.length : Int) := by omega
  rw [e1,e2]
 unfold Txt.slice
 rw [e]
theorem slice_one (x : Str) {e : Nat} (he : e ≤ x.length) : (Txt.slice x (some (e : Int)) (some ((e : Int) + 1))).cps.toList = (x.cps.toList.drop e).take 1 := by
 have e1 : (e : Int) + 1 = ((e + 1 : Nat) : Int) := by omega
 rw [e1]
 by_cases h : e + 1 ≤ x.length
 · rw [slice_nat x (by omega) h]; congr 1; omega
 · have e2 : e = x.length := by omega
   rw [slice_clamp x _ (by omega),slice_nat x he (Nat.le_refl _),e2]
   have : x.cps.toList.drop x.length = [] := by rw [len_cps]; simp
   rw [this]; simp
theorem slice_is (x : Str) {e c : Nat} (he : e ≤ x.length) : decide (V.str (Txt.slice x (some (e : Int)) (some ((e : Int) + 1))) = V.str ⟨#[c]⟩) = decide (x.cps.toList[e]? = some c) := by
 rw [Bool.eq_iff_iff]
 simp only [decide_eq_true_eq,V.str.injEq]
 have s := slice_one x he
 have hd : (x.cps.toList.drop e).take 1 = [c] ↔ x.cps.toList[e]? = some c := by
  cases h : x.cps.toList[e]? with
  | none =>
   have : x.cps.toList.drop e = [] := List.drop_eq_nil_of_le (List.getElem?_eq_none_iff.mp h)
   rw [this]; simp
  | some d =>
   obtain ⟨hi,e2⟩ := List.getElem?_eq_some_iff.mp h
   rw [List.drop_eq_getElem_cons hi,e2]; simp
 rw [← hd,← s]
 constructor
 · intro h; rw [h]
 · intro h; exact str_ext h
noncomputable def isSign (c : Nat) : Bool := c == 40 || c == 32 || c == 41
noncomputable def nameEnd (l : List Nat) (s : Nat) : Nat := s + ((l.drop s).takeWhile fun c => !isSign c).length
theorem nameEnd_le {l : List Nat} {s : Nat} (h : s ≤ l.length) : nameEnd l s ≤ l.length := by
 unfold nameEnd
 have := (List.takeWhile_prefix (fun c => !isSign c) (l := l.drop s)).length_le
 simp at this; omega
theorem nameEnd_ge (l : List Nat) (s : Nat) : s ≤ nameEnd l s := by unfold nameEnd; omega
noncomputable def tf (l : List Nat) : Nat → Nat → Option (Tree × Nat)
 | 0,_ => none
 | n + 1,s =>
  if l[nameEnd l s]? = some 40 then
   match tf l n (nameEnd l s + 1) with
   | none => none
   | some (a,m) => if l[m]? = some 32 then (match tf l n (m + 1) with
    | none => none
    | some (b,z) => if l[z]? = some 41 then some (.knot ⟨((l.drop s).take (nameEnd l s - s)).toArray⟩ a b,z + 1) else none) else none
  else some (.leaf ⟨((l.drop s).take (nameEnd l s - s)).toArray⟩,nameEnd l s)
noncomputable def txL : Tree → List Nat
 | .leaf x => x.cps.toList
 | .knot f l r => f.cps.toList ++ (40 :: (txL l ++ (32 :: (txL r ++ [41]))))
theorem nameEnd_of {pre nm post : List Nat} (h : ∀ c ∈ nm,isSign c = false) (hp : post = [] ∨ ∃ c r,post = c :: r ∧ isSign c = true) : nameEnd (pre ++ (nm ++ post)) pre.length = pre.length + nm.length := by
 unfold nameEnd
 rw [List.drop_left]
 congr 1
 have e : (nm ++ post).takeWhile (fun c => !isSign c) = nm := by
  rw [List.takeWhile_append_of_pos (by intro c hc; simp [h c hc])]
  rcases hp with rfl | ⟨c,r,rfl,hc⟩
  · simp
  · simp [List.takeWhile_cons,hc]
 rw [e]
theorem tf_text : ∀ (t : Tree) (n : Nat) (pre post : List Nat),t.dp ≤ n → (∀ x ∈ t.lv,∀ c ∈ x.cps.toList,isSign c = false) → (∀ x ∈ t.kn,∀ c ∈ x.cps.toList,isSign c = false) →
 (post = [] ∨ ∃ c r,post = c :: r ∧ (c = 32 ∨ c = 41)) → tf (pre ++ (txL t ++ post)) n pre.length = some (t,pre.length + (txL t).length) := by
 intro t
 have nm : ∀ (pre x post : List Nat),((pre ++ (x ++ post)).drop pre.length).take (pre.length + x.length - pre.length) = x := fun pre x post => by
  rw [List.drop_left,show pre.length + x.length - pre.length = x.length by omega,List.take_left]
 have st : ∀ (x : Str),(⟨x.cps.toList.toArray⟩ : Str) = x := fun x => str_ext (by simp)
 induction t with
 | leaf x =>
  intro n pre post hd hl hk hp
  obtain ⟨n,rfl⟩ : ∃ m,n = m + 1 := ⟨n - 1,by simp [M.Tr.dp] at hd; omega⟩
  have e : nameEnd (pre ++ (x.cps.toList ++ post)) pre.length = pre.length + x.cps.toList.length := by
   refine nameEnd_of (hl x (by simp [M.Tr.lv])) ?_
   rcases hp with h | ⟨c,r,h,hc⟩
   · exact .inl h
   · exact .inr ⟨c,r,h,by rcases hc with rfl | rfl <;> rfl⟩
  have g : (pre ++ (x.cps.toList ++ post))[pre.length + x.cps.toList.length]? = post[0]? := by
   rw [List.getElem?_append_right (by omega),List.getElem?_append_right (by omega)]; congr 1; omega
  have ne : ¬ (pre ++ (x.cps.toList ++ post))[pre.length + x.cps.toList.length]? = some 40 := by
   rw [g]
   rcases hp with rfl | ⟨c,r,rfl,hc⟩
   · simp
   · rcases hc with rfl | rfl <;> simp
  show tf (pre ++ (x.cps.toList ++ post)) (n + 1) pre.length = some (.leaf x,pre.length + x.cps.toList.length)
  rw [tf,e,if_neg ne,nm,st]
 | knot f l r ihl ihr =>
  intro n pre post hd hl hk hp
  obtain ⟨n,rfl⟩ : ∃ m,n = m + 1 := ⟨n - 1,by simp [M.Tr.dp] at hd; omega⟩
  simp only [M.Tr.dp] at hd
  simp only [M.Tr.lv,List.mem_append] at hl
  simp only [M.Tr.kn,List.mem_cons,List.mem_append] at hk
  have c1 : pre ++ (txL (.knot f l r) ++ post) = pre ++ (f.cps.toList ++ (40 :: (txL l ++ (32 :: (txL r ++ (41 :: post)))))) := by simp [txL]
  have c2 : pre ++ (txL (.knot f l r) ++ post) = (pre ++ f.cps.toList ++ [40]) ++ (txL l ++ (32 :: (txL r ++ (41 :: post)))) := by simp [txL]
  have c3 : pre ++ (txL (.knot f l r) ++ post) = (pre ++ f.cps.toList ++ [40] ++ txL l ++ [32]) ++ (txL r ++ (41 :: post)) := by simp [txL]
  have e : nameEnd (pre ++ (txL (.knot f l r) ++ post)) pre.length = pre.length + f.cps.toList.length := by
   rw [c1]
   exact nameEnd_of (hk f (.inl rfl)) (.inr ⟨40,_,rfl,rfl⟩)
  have g1 : (pre ++ (txL (.knot f l r) ++ post))[pre.length + f.cps.toList.length]? = some 40 := by
   rw [c1,List.getElem?_append_right (by omega),List.getElem?_append_right (by omega)]
   simp
  have t1 := ihl n (pre ++ f.cps.toList ++ [40]) (32 :: (txL r ++ (41 :: post))) (by omega) (fun x h => hl x (.inl h)) (fun x h => hk x (.inr (.inl h))) (.inr ⟨32,_,rfl,.inl rfl⟩)
  have t2 := ihr n (pre ++ f.cps.toList ++ [40] ++ txL l ++ [32]) (41 :: post) (by omega) (fun x h => hl x (.inr h)) (fun x h => hk x (.inr (.inr h))) (.inr ⟨41,_,rfl,.inr rfl⟩)
  rw [← c2] at t1
  rw [← c3] at t2
  have l1 : (pre ++ f.cps.toList ++ [40]).length = pre.length + f.cps.toList.length + 1 := by simp; omega
  have l2 : (pre ++ f.cps.toList ++ [40] ++ txL l ++ [32]).length = pre.length + f.cps.toList.length + 1 + (txL l).length + 1 := by simp; omega
  rw [l1] at t1
  rw [l2] at t2
  have g2 : (pre ++ (txL (.knot f l r) ++ post))[pre.length + f.cps.toList.length + 1 + (txL l).length]? = some 32 := by
   rw [c2,List.getElem?_append_right (by simp; omega),List.getElem?_append_right (by simp; omega)]
   simp
   rw [show pre.length + f.cps.size + 1 + (txL l).length - (pre.length + (f.cps.size + 1)) - (txL l).length = 0 by omega]
   rfl
  have g3 : (pre ++ (txL (.knot f l r) ++ post))[pre.length + f.cps.toList.length + 1 + (txL l).length + 1 + (txL r).length]? = some 41 := by
   rw [c3,List.getElem?_append_right (by simp; omega),List.getElem?_append_right (by simp; omega)]
   simp
   rw [show pre.length + f.cps.size + 1 + (txL l).length + 1 + (txL r).length - (pre.length + (f.cps.size + ((txL l).length + 1 + 1))) - (txL r).length = 0 by omega]
   rfl
  have nmk : ((pre ++ (txL (.knot f l r) ++ post)).drop pre.length).take (pre.length + f.cps.toList.length - pre.length) = f.cps.toList := by rw [c1]; exact nm _ _ _
  have ln : (txL (.knot f l r)).length = f.cps.toList.length + 1 + (txL l).length + 1 + (txL r).length + 1 := by simp [txL]; omega
  rw [tf,e,if_pos g1,t1]
  dsimp only
  rw [if_pos g2,t2]
  dsimp only
  rw [if_pos g3,nmk,st,ln]
  congr 2
  omega
theorem txL_len : ∀ t : Tree,(∀ x ∈ t.lv,x.cps.toList.length ≤ 8) → (∀ x ∈ t.kn,x.cps.toList.length ≤ 8) → (txL t).length + 11 ≤ 19 * t.lv.length := by
 intro t
 induction t with
 | leaf x => intro hl _; have := hl x (by simp [M.Tr.lv]); simp only [txL,M.Tr.lv,List.length_singleton]; omega
 | knot f l r ihl ihr =>
  intro hl hk
  simp only [M.Tr.lv,List.mem_append] at hl
  simp only [M.Tr.kn,List.mem_cons,List.mem_append] at hk
  have h1 := ihl (fun x h => hl x (.inl h)) (fun x h => hk x (.inr (.inl h)))
  have h2 := ihr (fun x h => hl x (.inr h)) (fun x h => hk x (.inr (.inr h)))
  have h3 := hk f (.inl rfl)
  simp only [txL,M.Tr.lv,List.length_append,List.length_cons,List.length_nil]
  omega
theorem nameOk_len {x : Str} (h : nameOk x = true) : x.cps.toList.length ≤ 8 := by
 unfold nameOk isName at h
 simp only [Bool.and_eq_true,decide_eq_true_eq] at h
 exact h.2.1
theorem nameOk_sign {x : Str} (h : nameOk x = true) : ∀ c ∈ x.cps.toList,isSign c = false := fun c hc => by
 unfold nameOk isName at h
 simp only [Bool.and_eq_true,List.all_eq_true,decide_eq_true_eq] at h
 have := h.2.2 c hc
 unfold isSign
 simp only [Bool.or_eq_false_iff,beq_eq_false_iff_ne]
 omega
section
variable {X : Cx}
noncomputable def tFmtS (te : TE) : TE := fun σ H Q => te σ H fun v H1 => ∃ y,v = .str y ∧ y.length ≤ sizeLine ∧ Q (.str y) H1
theorem pe_fmtS {e : Expr} {te : TE} {pos : Pos} (h : PE X e te) : PE X (.FormattedValue e (-1) none pos) (tFmtS te) := by
 intro pins s σ H Q I hw
 refine wpAny_FormattedValue_plain (thn (h pins s σ H _ I hw) fun v s1 ⟨x,H1,I1,r1,q1⟩ => ?_)
 obtain ⟨y,rfl,hy,q⟩ := q1
 obtain ⟨t,rfl⟩ := r1
 exact wpAny_formatField_str ⟨.str y,H1,I1,⟨_,rfl⟩,q⟩ ⟨.str y,H1,I1.tok _,⟨_,rfl⟩,q⟩ hy
theorem a_tFmtS {te : TE} {σ : St} {H : Hp} {Q : VK} : tFmtS te σ H Q = (te σ H fun v H1 => ∃ y,v = .str y ∧ y.length ≤ sizeLine ∧ Q (.str y) H1) := rfl
theorem ps_tryN {body : List Stmt} {h₀ : ExceptHandler} {hs : List ExceptHandler} {pos : Pos} {tb : TS} (hb : PSs X.nox body tb) : PS X (.Try body (h₀ :: hs) [] [] pos) tb := by
 intro pins s σ H D I h
 refine wpAny_Try_except (wpAny_mono (hb pins s σ H D (I.wish _) h) (fun f s1 q => ?_) fun _ _ z => False.elim z)
 have q := q.unwish
 cases f with
 | next => exact wpAny_execs_nil q
 | _ => exact q
end
theorem a_ipI {f : Int → Int → Int} {x y : V} {H : Hp} {Q : VK} : ipI f x y H Q = (∃ i j,x = .int i ∧ y = .int j ∧ Q (.int (f i j)) H) := rfl
theorem sign_in (c : Nat) : (!(Builtin.Str.occurrences (Str.ofString "( )") ⟨#[c]⟩ 0 (Str.ofString "( )").length 1).isEmpty) = isSign c := by
 rw [PySem.StrLaws.found_one,show (Str.ofString "( )").cps.toList = [40,32,41] by decide +kernel,Bool.eq_iff_iff]
 unfold isSign
 simp
 omega
theorem slice_is' (x : Str) {e c : Nat} (he : e ≤ x.length) : decide (Txt.slice x (some (e : Int)) (some ((e : Int) + 1)) = (⟨#[c]⟩ : Str)) = decide (x.cps.toList[e]? = some c) := by
 rw [← slice_is x he]; simp only [V.str.injEq]
theorem s_op : Str.ofString "(" = (⟨#[40]⟩ : Str) := by decide +kernel
theorem s_bl : Str.ofString " " = (⟨#[32]⟩ : Str) := by decide +kernel
theorem s_cl : Str.ofString ")" = (⟨#[41]⟩ : Str) := by decide +kernel
theorem slice_mk (x : Str) {a b : Nat} (hab : a ≤ b) (hb : b ≤ x.length) : Txt.slice x (some (a : Int)) (some (b : Int)) = ⟨((x.cps.toList.drop a).take (b - a)).toArray⟩ := str_ext (by rw [slice_nat x hab hb])
end L2
namespace L2
open PySem PySem.Spec PyProof.Rows
open PySem.W (hideAll hideAll_get hideAll_none of_hideAll funFrames_hide fresh_of_stays)
theorem objOk_get {P : Program} {w : World} {H : Hp} {h : Heap} {a : Addr} : ∀ {o : HO},ObjOk P w H h a o → ∃ ob,h.get? a = some ob
 | .lst _,x => by obtain ⟨_,_,_,_,e⟩ := x; exact ⟨_,e⟩
 | .tup _,x => by obtain ⟨_,_,_,o,e,_⟩ := x; exact ⟨_,e⟩
 | .dK _,x => by obtain ⟨_,_,_,_,o,_,_,e,_⟩ := x; exact ⟨_,e⟩
 | .dT _,x => by obtain ⟨_,_,_,_,o,_,_,e,_⟩ := x; exact ⟨_,e⟩
 | .set _ _,x => by obtain ⟨o,_,_,_,e,_⟩ := x; exact ⟨_,e⟩
 | .ins _ _ _,x => by obtain ⟨_,_,_,e,_⟩ := x; exact ⟨_,e⟩
 | .own _,x => x
 | .xd _,x => by obtain ⟨_,⟨o,_,_,e,_⟩,_⟩ := x; exact ⟨_,e⟩
 | .met _ _,x => ⟨_,x⟩
 | .rng _ _,x => by obtain ⟨_,_,_,e⟩ := x; exact ⟨_,e⟩
 | .frz _ _,x => ⟨_,x.1⟩
 | .tbl _,x => ⟨_,x⟩
 | .ext _,x => x.2.1
noncomputable def Flies (l : List Env) (e C T : Addr) (h : Heap) : Prop := ∃ a0,Heap.FlyingW (hideAll h (e :: T :: frs l)) l e (.ref C) a0 h
noncomputable def CXE (P : Program) (w : World) : CXT := fun outer H s E x s' => ∃ (e C T : Addr) (H' : Hp),x = .ref e ∧ Flies outer e C T s'.heap ∧ (H' e = none ∧ H' T = none ∧ s.heap.get? e = none ∧ s.heap.get? T = none) ∧
 s'.os = s.os ∧ AllBare s'.gens ∧ Un (frs outer) [] H H' s.heap s'.heap ∧ HOk P w H' s'.heap ∧ E (.ref C) none H'
theorem mem_frs {l : List Env} {env : Env} {a : Addr} (h : env ∈ l) (e : env.frame = some a) : a ∈ frs l := List.mem_filterMap.mpr ⟨env,h,e⟩
theorem Flies.mk {B h : Heap} {l : List Env} {e C : Addr} {a0 : Value} (f : Heap.FlyingW B l e (.ref C) a0 h) : ∃ T,B.get? T = none ∧ Flies l e C T h ∧ ∃ oT ts,h.get? T = some oT ∧ oT.data = .fields ts := by
 obtain ⟨f1,f2,f3,oe,vs,T,oT,ts,a1,a2,a3,a4,a5,a6,a7,a8,a9⟩ := f
 exact ⟨T,a5,⟨a0,fun b o q => of_hideAll _ q,hideAll_none _ (by simp),funFrames_hide f3 (fun env he a ha => by simp [mem_frs he ha]),oe,vs,T,oT,ts,a1,a2,a3,a4,hideAll_none _ (by simp),a6,a7,a8,a9⟩,oT,ts,a7,a8⟩
structure Left (l : List Env) (hid : List Addr) (h h' : Heap) : Prop where
 keep : ∀ b o,h.get? b = some o → b ∉ hid → b ∉ frs l → h'.get? b = some o
 slot : ∀ b o,h.get? b = some o → b ∈ frs l → ∃ sl,h'.get? b = some { o with slots := sl }
section
variable {X : Cx} {pins : List (Addr × Obj)} {σ : St} {H : Hp} {s : Shared}
theorem Inv.fr_there (I : Inv X pins σ H s) {b : Addr} (hb : b ∈ frs X.stack) : ∃ o,s.heap.get? b = some o ∧ ∀ vs,o.data ≠ .fields vs := by
 obtain ⟨_,o,ho,hn⟩ := I.stack.mem hb
 exact ⟨o,ho,hn⟩
structure Lv (X : Cx) (E : XK) : Prop where
 stk : X.stack = X.env :: X.outer
 fr : X.env.frame = some X.env.locals
 ex : X.ex = []
 xe : ∀ x s',wpAny (model X.prog X.w) X.A (leaving X.env x) (fun _ s'' => CXE X.prog X.w X.outer X.H₀ X.s₀ E x s'') (fun _ _ => False) s' → X.xe x s'
theorem left_ok (L : Lv X E) {H' : Hp} {h1 h' : Heap} {s1 : Shared} {e C T0 : Addr} {a0 : Value} (I : Inv X pins σ H s) (un : Un (frs X.stack) [] H H' s.heap h1) (hok : HOk X.prog X.w H' h1)
 (ne : H' e = none) (nT : H' T0 = none) (ge : s.heap.get? e = none) (gT : s.heap.get? T0 = none) (fl : Heap.FlyingW (hideAll h1 (e :: T0 :: frs X.stack)) X.outer e (.ref C) a0 h')
 (sm : h1.UpToSlots h') (os : s1.os = s.os) (bare : AllBare s1.gens) (q : E (.ref C) none H') : CXE X.prog X.w X.outer X.H₀ X.s₀ E (.ref e) { s1 with heap := h' } := by
 have ex := L.ex
 have hstk := L.stk
 have fs : frs X.stack = X.env.locals :: X.fs := by rw [hstk]; show List.filterMap _ _ = _; rw [List.filterMap_cons_some L.fr]; rfl
 have stay : ∀ b o,h1.get? b = some o → b ≠ e → b ≠ T0 → b ∉ frs X.stack → h'.get? b = some o := fun b o q n1 n2 n3 => fl.1 b o (hideAll_get _ q (by simp [n1,n2,n3]))
 have frd : ∀ b ∈ frs X.stack,∃ o,h1.get? b = some o ∧ ∀ vs,o.data ≠ .fields vs := fun b hb => by
  obtain ⟨o,ho,hn⟩ := I.fr_there hb
  obtain ⟨sl,e1⟩ := un.any ho (I.stkFree b hb) (by simp)
  exact ⟨_,e1,hn⟩
 have frn : ∀ b ∈ frs X.stack,H' b = none := fun b hb => by
  obtain ⟨o,ho,hn⟩ := I.fr_there hb
  exact un.free b o ho (I.stkFree b hb) (by simp)
 obtain ⟨T,hB,F,oT,ts,hT,dT⟩ := Flies.mk fl
 have old : ∀ b o,X.s₀.heap.get? b = some o → ∃ o',s.heap.get? b = some o' := fun b o q => I.base.there b o q (by rw [ex]; simp)
 have T_hid : ∀ o,h1.get? T = some o → T = e ∨ T = T0 ∨ T ∈ frs X.stack := fun o ho => by
  by_cases h1e : T = e
  · exact .inl h1e
  by_cases h2e : T = T0
  · exact .inr (.inl h2e)
  by_cases h3e : T ∈ frs X.stack
  · exact .inr (.inr h3e)
  · rw [hideAll_get _ ho (by simp [h1e,h2e,h3e])] at hB; cases hB
 have T_fr : ¬ T ∈ frs X.stack := fun hb => by
  obtain ⟨o,ho,hn⟩ := frd T hb
  obtain ⟨sl,e1⟩ := sm T o ho hn
  rw [hT] at e1
  cases e1
  exact hn _ dT
 refine ⟨e,C,T,H',rfl,F,⟨ne,?_,?_,?_⟩,?_,bare,?_,?_,q⟩
 · cases hh : H' T with
   | none => rfl
   | some o =>
    obtain ⟨ob,hob⟩ := objOk_get (hok T o hh)
    rcases T_hid ob hob with z | z | z
    · rw [z,ne] at hh; cases hh
    · rw [z,nT] at hh; cases hh
    · exact absurd z T_fr
 · cases hh : X.s₀.heap.get? e with
   | none => rfl
   | some o => obtain ⟨o',h2⟩ := old e o hh; rw [ge] at h2; cases h2
 · cases hh : X.s₀.heap.get? T with
   | none => rfl
   | some o =>
    obtain ⟨o',h2⟩ := old T o hh
    obtain ⟨o2,h3⟩ := un.there T o' h2 (by simp)
    rcases T_hid o2 h3 with z | z | z
    · rw [z,ge] at h2; cases h2
    · rw [z,gT] at h2; cases h2
    · exact absurd z T_fr
 · exact os.trans I.os
 · have nl : ∀ b o,X.s₀.heap.get? b = some o → b ≠ X.env.locals := fun b o q z => by
    have h1 := Heap.lt_size q
    have h2 := I.ok.above
    exact absurd (Nat.lt_of_lt_of_le h1 h2) (by rw [z]; exact Nat.lt_irrefl _)
   refine ⟨fun b o q n hb _ => ?_,fun b o q n hb _ => ?_,fun b o q n _ => ?_,fun b o q _ => ?_,fun b xs q => un.tups b xs (I.base.tups b xs q),fun b o u q => un.frzs b o u (I.base.frzs b o u q),fun b ps q => ?_⟩
   · have k1 := I.base.keep b o q n hb (by rw [ex]; simp)
     have n1 := I.base.free b o q n (by rw [ex]; simp)
     have hb' : b ∉ frs X.stack := by rw [fs]; simp [nl b o q]; exact hb
     have k2 := un.keep b o k1 n1 hb' (by simp)
     exact stay b o k2 (fun z => by rw [z,ge] at k1; cases k1) (fun z => by rw [z,gT] at k1; cases k1) hb'
   · obtain ⟨sl,k1⟩ := I.base.slot b o q n hb (by rw [ex]; simp)
     have n1 := I.base.free b o q n (by rw [ex]; simp)
     have hb' : b ∈ frs X.stack := by rw [fs]; exact List.mem_cons_of_mem _ hb
     obtain ⟨sl2,k2⟩ := un.slot b _ k1 n1 hb' (by simp)
     obtain ⟨o',ho',hn'⟩ := frd b hb'
     rw [k2] at ho'
     cases ho'
     obtain ⟨sl3,k3⟩ := sm b _ k2 hn'
     exact ⟨sl3,k3⟩
   · obtain ⟨o',h2⟩ := old b o q
     exact un.free b o' h2 (I.base.free b o q n (by rw [ex]; simp)) (by simp)
   · obtain ⟨o',h2⟩ := old b o q
     obtain ⟨o2,h3⟩ := un.there b o' h2 (by simp)
     by_cases hb : b ∈ frs X.stack
     · obtain ⟨o3,ho3,hn3⟩ := frd b hb
       obtain ⟨sl,k⟩ := sm b o3 ho3 hn3
       exact ⟨_,k⟩
     · exact ⟨o2,stay b o2 h3 (fun z => by rw [z,ge] at h2; cases h2) (fun z => by rw [z,gT] at h2; cases h2) hb⟩
   · obtain ⟨m1,e1⟩ := I.base.tbls b ps q
     obtain ⟨m2,e2⟩ := un.tbls b _ e1
     exact ⟨m1 ++ m2,by rw [e2,Array.append_assoc]⟩
 · intro a o ho
   refine (hok a o ho).stay (fun b u hb q => ?_) (fun _ z => z) fun _ _ z => z
   have hb' : H' b ≠ none := by
    rcases hb with z | z
    · rw [z,ho]; simp
    · rw [z]; simp
   exact stay b u q (fun z => hb' (by rw [z]; exact ne)) (fun z => hb' (by rw [z]; exact nT)) fun z => hb' (frn b z)
theorem passE (L : Lv X E) : Passes (CXE X.prog X.w) X E := by
 intro pins σ H s x s' I h
 obtain ⟨e,C,T,H',rfl,⟨a0,fl⟩,⟨n1,n2,g1,g2⟩,os,bare,un,hok,q⟩ := h
 refine L.xe _ _ ?_
 have fl' := fl
 rw [L.stk] at fl'
 refine wpAny_leaves_onW (by rw [I.ok.frames,L.stk]) L.fr fl' fun h' fl2 sm => ?_
 rw [← L.stk] at fl2
 exact left_ok L I un hok n1 n2 g1 g2 fl2 sm os bare q
end
end L2
namespace L2
open PySem PySem.Spec PyProof.Rows
open PySem.W (hideAll hideAll_get hideAll_none of_hideAll funFrames_hide fresh_of_stays flyingW_base)
abbrev bmV : List Value := [.type "ValueError",.type "Exception",.type "BaseException",.type "object"]
noncomputable def ErrAt (K : PySem.W.Frag) (C : Addr) : Prop := PySem.W.excIn K C bmV "ValueError.__new__" = true
noncomputable def subOf (K : PySem.W.Frag) (C F : Addr) : Bool := match K.lookup C with
 | some ⟨_,_,.cls cd,_⟩ => cd.mro.contains (.ref F)
 | _ => false
theorem ErrAt.obj {K : PySem.W.Frag} {h : Heap} {C : Addr} (q : ErrAt K C) (X : K.In h) : ∃ bm N nm q bs hdct sn sub ab col dd k0 k1 k2 k3 k5 mN,h.get? C = some (excClassObj nm q C N bs bm hdct sn sub ab col dd k0 k1 k2 k3 k5 "ValueError.__new__") ∧ h.Ns N mN ∧ mN "__init__" = none ∧ OwnTail h bmV bm ∧
 ∀ F,subOf K C F = (Value.ref C :: bm).contains (.ref F) := by
 have q : PySem.W.excIn K C bmV "ValueError.__new__" = true := q
 unfold PySem.W.excIn at q
 split at q
 · rename_i dd cd sl lk
   split at q
   · rename_i C' bm k0 k1 k2 k3 nid k5 em es
     simp only [beq_iff_eq,Bool.and_eq_true,Bool.not_eq_true'] at q
     obtain ⟨⟨⟨⟨⟨q1,q2⟩,q3⟩,q4⟩,q5⟩,q6⟩ := q
     cases q1
     cases q2
     cases cd with
     | mk nm bs mro ns qn hd sn sub ab col del =>
      simp only at em q3 q5 q6
      cases em
      cases q3
      have hs : sl = #[k0,k1,k2,k3,some (.builtin "ValueError.__new__"),k5] := by
       cases sl with
       | mk l => simp only at es; rw [es]
      cases hs
      exact ⟨bm,ns,nm,qn,bs,hd,sn,sub,ab,col,dd,k0,k1,k2,k3,k5,_,X _ _ lk,Heap.Ns.of_isNs (PySem.W.isNs_of_in X q5),PySem.W.nsMap_none_of_in X q5 q6,PySem.W.tail_of_in X q4,fun F => by unfold subOf; rw [lk]⟩
   · cases q
 · cases q
theorem ErrAt.own {K : PySem.W.Frag} {h : Heap} {mg : Str → Option Value} {x : Str} {C : Addr} (q : ErrAt K C) (X : K.In h) (e : mg x = some (.ref C)) : OwnCls x C bmV "ValueError.__new__" mg h := by
 obtain ⟨bm,N,nm,qn,bs,hdct,sn,sub,ab,col,dd,k0,k1,k2,k3,k5,mN,hC,hN,hni,TL,_⟩ := q.obj X
 exact ⟨e,bm,N,nm,qn,bs,hdct,sn,sub,ab,col,dd,k0,k1,k2,k3,k5,mN,hC,hN,hni,TL⟩
section
variable {X : Cx} {E : XK}
theorem gone {P : Program} {w : World} {H : Hp} {h : Heap} {a : Addr} (hok : HOk P w H h) (e : h.get? a = none) : H a = none := by
 cases q : H a with
 | none => rfl
 | some o => obtain ⟨ob,hb⟩ := objOk_get (hok a o q); rw [e] at hb; cases hb
theorem hide_less {h : Heap} {xs ys : List Addr} (s : ∀ a ∈ ys,a ∈ xs) : (hideAll h xs).StaysIn (hideAll h ys) := fun b o q => by
 have hb : b ∉ xs := fun z => by rw [hideAll_none _ z] at q; cases q
 exact hideAll_get _ (of_hideAll _ q) fun z => hb (s b z)
noncomputable def tRaise (C : Addr) (E : XK) (ta : TA) : TS := fun _ σ H => ta σ H fun vs H1 => vs.length ≤ sizeLine ∧ E (.ref C) none H1
theorem a_tRaise {C : Addr} {E : XK} {ta : TA} {D : Ends} {σ : St} {H : Hp} : tRaise C E ta D σ H = (ta σ H fun vs H1 => vs.length ≤ sizeLine ∧ E (.ref C) none H1) := rfl
theorem ps_raise {x : Str} {C : Addr} {e0 : Expr} {es : List Expr} {ta : TA} {np cpos pos : Pos} (L : Lv X E) (hg : Gl X x) (hm : X.mg x = some (.ref C)) (q : ErrAt X.K C) (hc : X.calm = true) (ha : PA X (e0 :: es) ta)
 (hdb : (x == ("__debug__" : Str)) = false := by decide) (he : starEach (e0 :: es) X.env = (false,eval e0 X.env) :: starEach es X.env := by rfl) (hpl : (backTo cpos (starEach es X.env)).any (·.1) = false := by rfl) :
 PS X (.Raise (some (.Call (.Name x np) (e0 :: es) [] cpos)) none pos) (tRaise C E ta) := by
 intro pins s σ H D I h
 have O := q.own I.ok.mod.kin hm
 obtain ⟨bm,N,nm,qn,bs,hdct,sn,sub,ab,col,dd,k0,k1,k2,k3,k5,mN,hC,hN,hni,TL⟩ := O.obj
 refine wpAny_Raise_call_subT (C := C) (nm := nm) (q := qn) (N := N) (bs := bs) (bm := bm) (hdct := hdct) (sn := sn) (sub := sub) (ab := ab) (col := col) (dd := dd) (k0 := k0) (k1 := k1) (k2 := k2) (k3 := k3) (k5 := k5)
  PySem.F.excBase_ValueError (mN := mN) (TL.hasType PySem.F.excBase_ValueError.hasBase) (I.ok.hd hc) (by rw [he]; show (false || (backTo cpos (starEach es X.env)).any (·.1)) = false; rw [hpl]; rfl) hni (ld_glob I hg hm ⟨rfl,?_⟩ hdb)
 have z := ha cpos pins s σ H _ I h
 rw [he] at z ⊢
 refine Calls.evalArgs_plain (wpAny_mono z (fun us s2 ⟨vs,H2,I2,r,hl,qE⟩ => ⟨rfl,by rw [← r.length]; exact hl,I2.bk _ _ hC,hN.keeps I2.bk,TL.keeps I2.bk,fun h' e hx => ?_⟩) fun _ _ y => y)
 refine L.xe _ _ ?_
 have hin : ∀ env ∈ X.env :: X.outer,∀ a,env.frame = some a → a ∈ frs X.stack := fun env he a ha => by rw [L.stk]; exact mem_frs he ha
 have fun2 : s2.heap.FunFrames (hideAll s2.heap (frs X.stack)) (X.env :: X.outer) := funFrames_hide (L.stk ▸ I2.stack) hin
 refine wpAny_leaves_madeW (base := hideAll s2.heap (frs X.stack)) (h := s2.heap) (by rw [I2.ok.frames,L.stk]) L.fr (fun b o q => of_hideAll _ q) fun2 hx fun h2 t fl _ _ sm => ?_
 have ne := gone I2.hok hx.new
 exact left_ok (s1 := s2) L I2 Un.refl I2.hok ne ne hx.new hx.new (flyingW_base (hide_less (by intro a ha; simp [ha])) fl) ((Heap.UpToSlots.of_keeps hx.keeps).trans sm) rfl I2.bare qE
end
section
variable {P : Program} {w : World} {K : PySem.W.Frag} {mg : Str → Option Value} {base : Heap}
theorem Fun.okE {x qual : Str} {st : Stmt} {f : Addr} {fd : FuncData} {N ps : List Str} {k : Nat} {sp : Sp} (F : Fun K x qual st f fd) (S : FnScope N ps (defScope st)) (len : ∀ vs H Q E,sp vs H Q E → vs.length = ps.length)
 (hbody : ∀ (cdv : Value) (A : Around) (outer : List Env) (s : Shared) (H : Hp) (vs : List V) (Q : VK) (E : XK),Room k (A.deeper (envOfC qual (defScope st) s.heap.objs.size f cdv)) → sp vs H Q E →
   Lv (cxOf (CXE P w) P w K mg base N qual (defScope st) f cdv A outer s H E) E →
   ∃ t,PSs (cxOf (CXE P w) P w K mg base N qual (defScope st) f cdv A outer s H E) (defBody st) t ∧ t { nx := fun _ H' => Q .non H',rt := Q } (start N vs) H) : FnOk P w K mg base (CXE P w) (k + 1) f fd ps sp := by
 obtain ⟨oc,od,kV,doc,pm,an,cdv,ct,osl,rfl,lk,hcd⟩ := F.ex
 refine fn_of lk hcd S len fun A outer s H vs Q E hr hsp => hbody cdv A outer s H vs Q E hr hsp ⟨rfl,rfl,rfl,fun x s' h => wpAny_mono h (fun _ _ z => z) fun _ _ z => z.elim⟩
end
end L2
namespace L2
open PySem PySem.Spec PyProof.Rows
open PySem.W (hideAll hideAll_get hideAll_none of_hideAll funFrames_hide fresh_of_stays flyingW_base)
section
variable {X : Cx} {CX : CXT} {k : Nat} {f : Addr} {fd : FuncData} {ps : List Str} {sp : Sp} {dvs : List V} {ds : List Value} {E : XK} {x : Str} {p pos : Pos} {e : Expr} {es : List Expr} {t : TA} {J : St → Prop}
end
section
variable {X : Cx} {pins pn : List (Addr × Obj)} {σ : St} {H : Hp} {s : Shared} {E : XK}
noncomputable abbrev Cx.pinned (X : Cx) (pn : List (Addr × Obj)) : Cx := { X with pn := X.pn ++ pn }
theorem Cx.Ok.pinned (ok : X.Ok) (pn : List (Addr × Obj)) : (X.pinned pn).Ok :=
 ⟨ok.mod,ok.kind,ok.glob,ok.blt,ok.above,ok.inj,ok.has,ok.cab,ok.hd,ok.frames,ok.stk,ok.exf,ok.bs,ok.bsz,ok.noex,ok.exfs,ok.funs,ok.frf⟩
theorem Cx.Ok.unpinned (ok : (X.pinned pn).Ok) : X.Ok :=
 ⟨ok.mod,ok.kind,ok.glob,ok.blt,ok.above,ok.inj,ok.has,ok.cab,ok.hd,ok.frames,ok.stk,ok.exf,ok.bs,ok.bsz,ok.noex,ok.exfs,ok.funs,ok.frf⟩
noncomputable abbrev Cx.hnd (X : Cx) (e : Addr) : Cx := { X with A := X.A.mark (some (.ref e)),calm := false,xe := fun _ _ => False }
theorem Cx.Ok.hnd (ok : X.Ok) (e : Addr) : (X.hnd e).Ok :=
 ⟨ok.mod,ok.kind,ok.glob,ok.blt,ok.above,ok.inj,ok.has,ok.cab,fun z => (Bool.false_ne_true z).elim,ok.frames,ok.stk,ok.exf,ok.bs,ok.bsz,ok.noex,ok.exfs,ok.funs,ok.frf⟩
theorem Inv.hnd (I : Inv X pins σ H s) (e : Addr) : Inv (X.hnd e) pins σ H s := ⟨I.ok.hnd e,I.os,I.bare,I.base,I.loc,I.cell,I.free,I.freeC,I.pin,I.hok,I.len⟩
end
end L2
namespace L2
open PySem PySem.Spec PyProof.Rows
open PySem.W (hideAll hideAll_get hideAll_none of_hideAll funFrames_hide fresh_of_stays flyingW_base)
section
variable {X : Cx} {pins : List (Addr × Obj)} {σ : St} {H : Hp} {s : Shared}
end
end L2
namespace L2
open PySem PySem.Spec PyProof.Rows PySem.Builtin PySem.Builtin.ObjectAttr PySem.Builtin.Getset_descriptor
structure ErrIs (K : PySem.W.Frag) (C : Addr) : Prop where
 at_ : ErrAt K C
 ga : PySem.W.findIn K (.ref C) "__getattribute__" = some (some (.builtin "BaseException.__getattribute__"))
 gx : PySem.W.findIn K (.ref C) "__getattr__" = some none
 cl : PySem.W.findIn K (.ref C) "__class__" = some (some (.builtin "object.__class__"))
 sp : PySem.W.specialIn K (.builtin "object.__class__") "__get__" = some (some (.builtin "getset_descriptor.__get__"))
 tk : PySem.W.takesIn K (.builtin "object.__class__") = some true
 mr : PySem.W.mroIn K C (.type "object") = some true
 cs : (PySem.W.clsIn K C).isSome = true
section
variable {prog : Program} {w : World} {A : Around} {E : Value → Shared → Prop} {s : Shared} {K : PySem.W.Frag} {e C : Addr} {ob : Obj}
end
section
variable {X : Cx}
end
end L2
namespace L2
open PySem PySem.Spec PyProof.Rows
mutual
noncomputable def D.py : D → PyData
 | .non => .none
 | .bl b => .bool b
 | .int i => .int i
 | .str x => .str x
 | .tup ds => .tuple (D.pys ds)
 | .lst ds => .list (D.pys ds)
noncomputable def D.pys : List D → List PyData
 | [] => []
 | d :: ds => D.py d :: D.pys ds
end
mutual
noncomputable def D.wd : D → Nat
 | .non => 4
 | .bl _ => 5
 | .int _ => 1921
 | .str x => 10 * x.length + 2
 | .tup ds => D.wds ds + 3
 | .lst ds => D.wds ds + 3
noncomputable def D.wds : List D → Nat
 | [] => 0
 | d :: ds => D.wd d + 2 + D.wds ds
end
mutual
noncomputable def D.shw : D → Prop
 | .int i => i.natAbs.log2 < 1920
 | .str x => ∀ c ∈ x.cps.toList,c < 16 ^ 8
 | .tup ds => D.shws ds
 | .lst ds => D.shws ds
 | _ => True
noncomputable def D.shws : List D → Prop
 | [] => True
 | d :: ds => D.shw d ∧ D.shws ds
end
mutual
theorem D.py_depth : ∀ d : D,d.py.depth = d.dp
 | .non => rfl
 | .bl _ => rfl
 | .int _ => rfl
 | .str _ => rfl
 | .tup ds => by simp only [D.py,PyData.depth,D.dp,D.pys_depth ds]
 | .lst ds => by simp only [D.py,PyData.depth,D.dp,D.pys_depth ds]
theorem D.pys_depth : ∀ ds : List D,PyData.depthAll (D.pys ds) = D.dps ds
 | [] => rfl
 | d :: ds => by simp only [D.pys,PyData.depthAll,D.dps,D.py_depth d,D.pys_depth ds]
end
mutual
theorem D.py_show : ∀ d : D,d.shw → d.py.showable = true
 | .non,_ => rfl
 | .bl _,_ => rfl
 | .int i,h => by simp only [D.shw] at h; simp only [D.py,PyData.showable]; exact decide_eq_true h
 | .str _,_ => rfl
 | .tup ds,h => by simp only [D.shw] at h; simp only [D.py,PyData.showable]; exact D.pys_show ds h
 | .lst ds,h => by simp only [D.shw] at h; simp only [D.py,PyData.showable]; exact D.pys_show ds h
theorem D.pys_show : ∀ ds : List D,D.shws ds → PyData.showableAll (D.pys ds) = true
 | [],_ => rfl
 | d :: ds,h => by simp only [D.shws] at h; simp only [D.pys,PyData.showableAll,D.py_show d h.1,D.pys_show ds h.2,Bool.and_self]
end
mutual
theorem D.py_dict : ∀ d : D,d.py.hasDict = false
 | .non => rfl
 | .bl _ => rfl
 | .int _ => rfl
 | .str _ => rfl
 | .tup ds => by simp only [D.py,PyData.hasDict,D.pys_dict ds]
 | .lst ds => by simp only [D.py,PyData.hasDict,D.pys_dict ds]
theorem D.pys_dict : ∀ ds : List D,PyData.hasDictAll (D.pys ds) = false
 | [] => rfl
 | d :: ds => by simp only [D.pys,PyData.hasDictAll,D.py_dict d,D.pys_dict ds,Bool.or_self]
end
mutual
theorem D.py_len : ∀ d : D,d.shw → d.py.shown.length ≤ d.wd
 | .non,_ => by show (Str.ofString "None").length ≤ 4; decide +kernel
 | .bl b,_ => by cases b <;> (simp only [D.py,PyData.shown,D.wd]; decide +kernel)
 | .int i,h => by simp only [D.shw] at h; simp only [D.py,PyData.shown,D.wd]; exact int_text_len_1921 h
 | .str x,h => by simp only [D.shw] at h; simp only [D.py,PyData.shown,D.wd]; exact StrLaws.reprText_len x h
 | .tup ds,h => by
  simp only [D.shw] at h
  simp only [D.py,PyData.shown,D.wd]
  have h1 := tupleText_len_le (PyData.shownAll (D.pys ds))
  have h2 := D.pys_len ds h
  omega
 | .lst ds,h => by
  simp only [D.shw] at h
  simp only [D.py,PyData.shown,D.wd]
  have h1 := listText_len_le (PyData.shownAll (D.pys ds))
  have h2 := D.pys_len ds h
  omega
theorem D.pys_len : ∀ ds : List D,D.shws ds → ((PyData.shownAll (D.pys ds)).map (·.length)).sum + 2 * (PyData.shownAll (D.pys ds)).length ≤ D.wds ds
 | [],_ => by simp [D.pys,PyData.shownAll,D.wds]
 | d :: ds,h => by
  simp only [D.shws] at h
  have h1 := D.py_len d h.1
  have h2 := D.pys_len ds h.2
  simp only [D.pys,PyData.shownAll,D.wds,List.map_cons,List.sum_cons,List.length_cons]
  omega
end
section
variable {P : Program} {w : World} {H : Hp} {h : Heap}
mutual
theorem reads_of (hok : HOk P w H h) : ∀ (d : D) {v : V} {u : Value},Dt H d v → RelV v u → ∃ as,Reads h u d.py as
 | .non,v,u,hd,r => by simp only [Dt] at hd; subst hd; cases r; exact ⟨_,.none⟩
 | .bl b,v,u,hd,r => by simp only [Dt] at hd; subst hd; cases r; exact ⟨_,.bool b⟩
 | .int i,v,u,hd,r => by simp only [Dt] at hd; subst hd; obtain ⟨t,rfl⟩ := r; exact ⟨_,.int i t⟩
 | .str x,v,u,hd,r => by simp only [Dt] at hd; subst hd; obtain ⟨t,rfl⟩ := r; exact ⟨_,.str x t⟩
 | .tup ds,v,u,hd,r => by
  simp only [Dt] at hd
  obtain ⟨a,vs,rfl,ea,hs⟩ := hd
  cases r
  obtain ⟨_,its,rv,o,ho,hc,n,hdt⟩ := hok a _ ea
  obtain ⟨as,ra⟩ := readss_of hok ds hs rv
  exact ⟨_,.tuple ho hc hdt (by simpa using ra)⟩
 | .lst ds,v,u,hd,r => by
  simp only [Dt] at hd
  obtain ⟨a,vs,rfl,ea,hs⟩ := hd
  cases r
  obtain ⟨_,its,n,rv,ho⟩ := hok a _ ea
  obtain ⟨as,ra⟩ := readss_of hok ds hs rv
  exact ⟨_,.list ho rfl rfl (by simpa using ra)⟩
theorem readss_of (hok : HOk P w H h) : ∀ (ds : List D) {vs : List V} {us : List Value},Dts H ds vs → Vals vs us → ∃ as,ReadsAll h us (D.pys ds) as
 | [],vs,us,hd,r => by simp only [Dts] at hd; subst hd; cases r; exact ⟨_,.nil⟩
 | d :: ds,vs,us,hd,r => by
  simp only [Dts] at hd
  obtain ⟨v,vr,rfl,h1,h2⟩ := hd
  cases r with
  | cons r rt =>
   obtain ⟨as,ra⟩ := reads_of hok d h1 r
   obtain ⟨bs,rb⟩ := readss_of hok ds h2 rt
   exact ⟨_,.cons ra rb⟩
end
end
section
variable {X : Cx} {k : Nat}
noncomputable def tFmtD (te : TE) : TE := fun σ H Q => te σ H fun v H1 => ∃ a d,v = .ref a ∧ Dt H1 d v ∧ d.shw ∧ d.dp ≤ 150 ∧ d.wd ≤ 1000000 ∧ ∀ z : Str,z.length ≤ d.wd → Q (.str z) H1
noncomputable def tFmtRD (te : TE) : TE := tFmtD te
theorem pe_fmtRD {e : Expr} {te : TE} {pos : Pos} (hr : Room k X.A) (h : PE X e te) : PE X (.FormattedValue e 114 none pos) (tFmtRD te) := by
 intro pins s σ H Q I hw
 refine wpAny_FormattedValue_repr (thn (h pins s σ H _ I hw) fun v s1 ⟨x,H1,I1,r1,q1⟩ => ?_)
 obtain ⟨a,d,rfl,hd,hs,hp,hwd,q⟩ := q1
 obtain ⟨as,ra⟩ := reads_of I1.hok d hd r1
 cases r1
 have hl := D.py_len d hs
 have hz : d.py.shown.length ≤ sizeLine := Nat.le_trans (Nat.le_trans hl hwd) (by decide)
 refine pyReprObj_of_reads ra (D.py_show d hs) (fun z => by rw [D.py_dict d] at z; cases z) hr.gd (by rw [D.py_depth]; have := hr.un; omega) (fun b o e => e) (fun h' u tk hk => ?_) hz
 have I2 := I1.kept (t' := tk) hk
 exact wpAny_formatField_str ⟨.str _,H1,I2,⟨_,rfl⟩,q _ hl⟩ ⟨.str _,H1,I2.tok _,⟨_,rfl⟩,q _ hl⟩ hz
noncomputable def tFmtI (te : TE) : TE := fun σ H Q => te σ H fun v H1 => ∃ i,v = .int i ∧ i.natAbs.log2 < 1920 ∧ ∀ z : Str,z.length ≤ 1921 → Q (.str z) H1
theorem pe_fmtI {e : Expr} {te : TE} {pos : Pos} (h : PE X e te) : PE X (.FormattedValue e (-1) none pos) (tFmtI te) := by
 intro pins s σ H Q I hw
 refine wpAny_FormattedValue_plain (thn (h pins s σ H _ I hw) fun v s1 ⟨x,H1,I1,r1,q1⟩ => ?_)
 obtain ⟨i,rfl,hi,q⟩ := q1
 obtain ⟨t,rfl⟩ := r1
 exact wpAny_formatField_int hi ⟨.str _,H1,I1.tok _,⟨_,rfl⟩,q _ (int_text_len_1921 hi)⟩
theorem a_tFmtD {te : TE} {σ : St} {H : Hp} {Q : VK} : tFmtD te σ H Q = (te σ H fun v H1 => ∃ a d,v = .ref a ∧ Dt H1 d v ∧ d.shw ∧ d.dp ≤ 150 ∧ d.wd ≤ 1000000 ∧ ∀ z : Str,z.length ≤ d.wd → Q (.str z) H1) := rfl
theorem a_tFmtRD {te : TE} {σ : St} {H : Hp} {Q : VK} : tFmtRD te σ H Q = (te σ H fun v H1 => ∃ a d,v = .ref a ∧ Dt H1 d v ∧ d.shw ∧ d.dp ≤ 150 ∧ d.wd ≤ 1000000 ∧ ∀ z : Str,z.length ≤ d.wd → Q (.str z) H1) := rfl
theorem a_tFmtI {te : TE} {σ : St} {H : Hp} {Q : VK} : tFmtI te σ H Q = (te σ H fun v H1 => ∃ i,v = .int i ∧ i.natAbs.log2 < 1920 ∧ ∀ z : Str,z.length ≤ 1921 → Q (.str z) H1) := rfl
theorem b_rSlT {K : PySem.W.Frag} {x : V} {lo hi : Option Int} {H : Hp} {Q : VK} : rSlT K x lo hi H Q = (∃ a xs,x = .ref a ∧ SqT K H a xs ∧ ¬ (HT.sIx xs.length 0 lo = 0 ∧ HT.sIx xs.length xs.length hi = xs.length) ∧ NewO H (.tup (cutV xs lo hi)) Q) := rfl
end
end L2
namespace L2
open PySem PySem.Spec PyProof.Rows
theorem ints_items : ∀ {is : List Int} {us : List Value},Vals (is.map V.int) us → ∃ xs : List (Int × Tok),us = xs.map (fun p => Value.int p.1 p.2) ∧ xs.map (·.1) = is
 | [],us,r => by cases r; exact ⟨[],rfl,rfl⟩
 | i :: is,us,r => by
  cases r with
  | cons r rt =>
   obtain ⟨t,rfl⟩ := r
   obtain ⟨xs,rfl,e⟩ := ints_items rt
   exact ⟨(i,t) :: xs,rfl,by simp [e]⟩
theorem num_at {xs : List (Int × Tok)} {i : Nat} (h : i < xs.length) : numAt xs.toArray i ∈ xs.map (·.1) := by
 have : numAt xs.toArray i = (xs[i]).1 := by simp [numAt,h]
 rw [this]
 exact List.mem_map.mpr ⟨xs[i],List.getElem_mem h,rfl⟩
theorem num_of {xs : List (Int × Tok)} {j : Int} (h : j ∈ xs.map (·.1)) : ∃ i,i < xs.length ∧ numAt xs.toArray i = j := by
 obtain ⟨p,hp,rfl⟩ := List.mem_map.mp h
 obtain ⟨i,hi,e⟩ := List.mem_iff_getElem.mp hp
 exact ⟨i,hi,by simp [numAt,hi,e]⟩
section
variable {X : Cx}
noncomputable def rMaxS : List V → Hp → VK → Prop := fun xs H Q => ∃ p is,xs = [.ref p] ∧ itemsOf (H p) = some (is.map V.int) ∧ is ≠ [] ∧ ∀ m,m ∈ is → (∀ j ∈ is,j ≤ m) → Q (.int m) H
noncomputable def rMinS : List V → Hp → VK → Prop := fun xs H Q => ∃ p is,xs = [.ref p] ∧ itemsOf (H p) = some (is.map V.int) ∧ is ≠ [] ∧ ∀ m,m ∈ is → (∀ j ∈ is,m ≤ j) → Q (.int m) H
theorem a_rMaxS {xs : List V} {H : Hp} {Q : VK} : rMaxS xs H Q = (∃ p is,xs = [.ref p] ∧ itemsOf (H p) = some (is.map V.int) ∧ is ≠ [] ∧ ∀ m,m ∈ is → (∀ j ∈ is,j ≤ m) → Q (.int m) H) := rfl
theorem a_rMinS {xs : List V} {H : Hp} {Q : VK} : rMinS xs H Q = (∃ p is,xs = [.ref p] ∧ itemsOf (H p) = some (is.map V.int) ∧ is ≠ [] ∧ ∀ m,m ∈ is → (∀ j ∈ is,m ≤ j) → Q (.int m) H) := rfl
theorem tup_walk {M : Program} {w : World} {A : Around} {E : Value → Shared → Prop} {s : Shared} {a : Addr} {items : Array Value} {R : Value → Shared → Prop} (hh : A.handled = none) (ht : s.heap.IsTuple a items)
 (h : ∀ I s2,Walks M w A I [I,a] [I] items.size (fun i v => items[i]? = some v) (fun i h => h.IsTupleIter I a i ∧ h.IsTuple a items) → (s2.heap.IsTupleIter I a 0 ∧ s2.heap.IsTuple a items) → (∀ b ∈ [I,a],b < s2.heap.objs.size) →
   (∀ h' tk,(∀ b o,b ∉ [I] → s2.heap.get? b = some o → h'.get? b = some o) → (∀ b o,s.heap.get? b = some o → h'.get? b = some o) ∧ ({ s2 with heap := h',toks := tk } : Shared) = { s with heap := h',toks := tk }) → R (.ref I) s2) :
 wpAny (model M w) A (pyIter (.ref a)) R E s := by
 have hlt : a < s.heap.objs.size := by obtain ⟨_,e,_⟩ := ht; exact Heap.lt_size e
 refine wpAny_pyIter_tuple ht (h _ _ (Walks.tuple hh _ a (Nat.ne_of_lt hlt) items) ⟨⟨_,Heap.get?_push_size _ rfl,rfl,rfl⟩,ht.push _⟩ (fun b hb => ?_) fun h' tk hk => ⟨fun b o e => ?_,rfl⟩)
 · show b < (s.heap.push _).objs.size
   rw [Heap.size_push]
   simp only [List.mem_cons,List.not_mem_nil,or_false] at hb
   rcases hb with rfl | rfl
   · exact Nat.lt_succ_self _
   · exact Nat.lt_succ_of_lt hlt
 · refine hk b o (fun hm => ?_) (Heap.get?_push_of_some _ e)
   have := Heap.lt_size e
   rw [List.mem_singleton.mp hm] at this
   exact Nat.lt_irrefl _ this
theorem call_maxS (hc : X.calm = true) : CallR X (.builtin "max") rMaxS := by
 intro pins s σ H xs us Q I r h
 obtain ⟨p,is,rfl,e,hne,q⟩ := h
 obtain ⟨u,rfl,ru⟩ := vals1 r
 cases ru
 have done : ∀ {zs : List (Int × Tok)} {v : Value} {h' : Heap} {tk : Nat},zs.map (·.1) = is → (intItems zs.toArray)[argBest (fun i j => decide (numAt zs.toArray i > numAt zs.toArray j)) (zs.toArray.size - 1)]? = some v → (∀ b o,s.heap.get? b = some o → h'.get? b = some o) →
  EP X pins σ Q v { s with heap := h',toks := tk } := fun {zs v h' tk} ez hv hk => by
  obtain ⟨t,rfl⟩ := intItems_at hv
  obtain ⟨h1,h2⟩ := argBest_gt (numAt zs.toArray) (zs.toArray.size - 1)
  have hz : 0 < zs.length := by rw [← List.length_map (f := (·.1)),ez]; exact List.length_pos_iff.mpr hne
  simp only [List.size_toArray] at h1 h2
  refine ⟨.int _,H,I.kept hk,⟨t,rfl⟩,q _ ?_ fun j hj => ?_⟩
  · rw [← ez]; exact num_at (by simp only [List.size_toArray]; omega)
  · rw [← ez] at hj
    obtain ⟨i,hi,rfl⟩ := num_of hj
    exact h2 i (by omega)
 cases ho : H p with
 | none => rw [ho] at e; cases e
 | some o =>
  rw [ho] at e
  cases o with
  | lst vs =>
   cases e
   obtain ⟨_,its,n,rv,hl⟩ := I.hok p _ ho
   obtain ⟨zs,rfl,ez⟩ := ints_items rv
   refine max_intList (xs := zs.toArray) (I.ok.hd hc) ⟨_,hl,rfl,n,by simp [intItems]⟩ ?_ fun v h' tk hv hk => done ez hv hk
   simp only [List.size_toArray]
   rw [← List.length_map (f := (·.1)),ez]; exact List.length_pos_iff.mpr hne
  | tup vs =>
   cases e
   obtain ⟨_,its,rv,o,hl,hcl,n,hdt⟩ := I.hok p _ ho
   obtain ⟨zs,rfl,ez⟩ := ints_items rv
   have ht : s.heap.IsTuple p (intItems zs.toArray) := ⟨o,hl,hcl,n,by rw [hdt]; simp [intItems]⟩
   refine call_max_walk (tup_walk (I.ok.hd hc) ht fun Ia s2 W st hfp hk => ⟨Ia,_,_,_,_,_,_,rfl,W,st,hfp,?_,CmpOf.ints_gt (numAt zs.toArray) (fun _ _ => intItems_at),fun v h' tk hv hk2 => ?_⟩)
   · simp only [intItems,Array.size_map,List.size_toArray]
     rw [← List.length_map (f := (·.1)),ez]; exact List.length_pos_iff.mpr hne
   · obtain ⟨k1,k2⟩ := hk h' tk hk2
     rw [k2]
     exact done ez (by simpa [intItems] using hv) k1
  | _ => cases e
theorem call_minS (hc : X.calm = true) : CallR X (.builtin "min") rMinS := by
 intro pins s σ H xs us Q I r h
 obtain ⟨p,is,rfl,e,hne,q⟩ := h
 obtain ⟨u,rfl,ru⟩ := vals1 r
 cases ru
 have done : ∀ {zs : List (Int × Tok)} {v : Value} {h' : Heap} {tk : Nat},zs.map (·.1) = is → (intItems zs.toArray)[argBest (fun i j => decide (numAt zs.toArray i < numAt zs.toArray j)) (zs.toArray.size - 1)]? = some v → (∀ b o,s.heap.get? b = some o → h'.get? b = some o) →
  EP X pins σ Q v { s with heap := h',toks := tk } := fun {zs v h' tk} ez hv hk => by
  obtain ⟨t,rfl⟩ := intItems_at hv
  obtain ⟨h1,h2⟩ := argBest_lt (numAt zs.toArray) (zs.toArray.size - 1)
  have hz : 0 < zs.length := by rw [← List.length_map (f := (·.1)),ez]; exact List.length_pos_iff.mpr hne
  simp only [List.size_toArray] at h1 h2
  refine ⟨.int _,H,I.kept hk,⟨t,rfl⟩,q _ ?_ fun j hj => ?_⟩
  · rw [← ez]; exact num_at (by simp only [List.size_toArray]; omega)
  · rw [← ez] at hj
    obtain ⟨i,hi,rfl⟩ := num_of hj
    exact h2 i (by omega)
 cases ho : H p with
 | none => rw [ho] at e; cases e
 | some o =>
  rw [ho] at e
  cases o with
  | lst vs =>
   cases e
   obtain ⟨_,its,n,rv,hl⟩ := I.hok p _ ho
   obtain ⟨zs,rfl,ez⟩ := ints_items rv
   refine min_intList (xs := zs.toArray) (I.ok.hd hc) ⟨_,hl,rfl,n,by simp [intItems]⟩ ?_ fun v h' tk hv hk => done ez hv hk
   simp only [List.size_toArray]
   rw [← List.length_map (f := (·.1)),ez]; exact List.length_pos_iff.mpr hne
  | tup vs =>
   cases e
   obtain ⟨_,its,rv,o,hl,hcl,n,hdt⟩ := I.hok p _ ho
   obtain ⟨zs,rfl,ez⟩ := ints_items rv
   have ht : s.heap.IsTuple p (intItems zs.toArray) := ⟨o,hl,hcl,n,by rw [hdt]; simp [intItems]⟩
   refine call_min_walk (tup_walk (I.ok.hd hc) ht fun Ia s2 W st hfp hk => ⟨Ia,_,_,_,_,_,_,rfl,W,st,hfp,?_,CmpOf.ints_lt (numAt zs.toArray) (fun _ _ => intItems_at),fun v h' tk hv hk2 => ?_⟩)
   · simp only [intItems,Array.size_map,List.size_toArray]
     rw [← List.length_map (f := (·.1)),ez]; exact List.length_pos_iff.mpr hne
   · obtain ⟨k1,k2⟩ := hk h' tk hk2
     rw [k2]
     exact done ez (by simpa [intItems] using hv) k1
  | _ => cases e
end
theorem comp_tup {K : PySem.W.Frag} {a : Addr} {xs : List V} {caps : List Nat} {tc : TT} {te : TE} {σ : St} {H : Hp} {Q : VK} (Pv : Nat → List V → Hp → Prop) (h0 : Pv 0 [] H) (hx : xs.length < sizeLine) (hy : ∀ i ys H,Pv i ys H → ys.length ≤ i)
 (hl : ∀ i ys H,i ≤ xs.length → Pv i ys H → SqT K H a xs)
 (hs : ∀ i x ys H,xs[i]? = some x → Pv i ys H → tc (blkSt caps σ (some x)) H fun b H2 => if b = true then te (blkSt caps σ (some x)) H2 fun y H3 => Pv (i + 1) (ys ++ [y]) H3 else Pv (i + 1) ys H2)
 (hd : ∀ ys H,Pv xs.length ys H → ∀ p,H p = none → Q (.ref p) (upd H p (.lst ys))) : wComp (Itt K a) caps tc te σ H Q := by
 refine ⟨fun i m ys H => m = xs.length - i ∧ i ≤ xs.length ∧ Pv i ys H,⟨xs.length,by simp,Nat.zero_le _,h0⟩,?_⟩
 rintro i m ys H ⟨rfl,hi,p⟩
 have q := hl i ys H hi p
 by_cases hlt : i < xs.length
 · refine .inr ⟨⟨xs,xs[i],q,by simp [hlt]⟩,Nat.lt_of_le_of_lt (Nat.le_trans (hy i ys H p) hi) hx,Pv (i + 1),fun ys' H' p' => ⟨xs.length - (i + 1),by omega,rfl,hlt,p'⟩,fun x H' y => ?_⟩
   obtain ⟨e,y⟩ := y
   subst e
   exact hs i x ys _ (y xs q) p
 · have e : i = xs.length := by omega
   subst e
   exact .inl ⟨⟨xs,q,Nat.le_refl _⟩,hd ys H p⟩
theorem WalkT.comp {K : PySem.W.Frag} {a : Addr} {xs : List V} {caps : List Nat} {tc : TT} {te : TE} {σ : St} {H : Hp} {Q : VK} (e : H a = some (.tup xs)) (Pv : Nat → List V → Hp → Prop) (h0 : Pv 0 [] H) (hx : xs.length ≤ 100000)
 (hy : ∀ i ys H',Pv i ys H' → ys.length ≤ i)
 (hs : ∀ i x ys H',xs[i]? = some x → Same H H' → Pv i ys H' → tc (blkSt caps σ (some x)) H' fun b H2 => if b = true then te (blkSt caps σ (some x)) H2 fun y H3 => Same H H3 ∧ Pv (i + 1) (ys ++ [y]) H3 else Same H H2 ∧ Pv (i + 1) ys H2)
 (hd : ∀ p ys H1 H2,Same H H1 → Same H1 H2 → Pv xs.length ys H1 → H1 p = none → H2 p = some (.lst ys) → Q (.ref p) H2) : WalkT K (.ref a) H fun J H1 => wComp J caps tc te σ H1 Q :=
 ⟨a,rfl,⟨xs,e⟩,comp_tup (fun i ys H' => Same H H' ∧ Pv i ys H') ⟨Same.refl H,h0⟩ (small_size hx) (fun i ys H' p => hy i ys H' p.2) (fun i ys H' _ p => SqT.of (p.1 _ _ e)) (fun i x ys H' ex p => hs i x ys H' ex p.1 p.2) fun ys H' p q n => hd q ys H' _ p.1 (same_new n _) p.2 n upd_same⟩
end L2
namespace L2
open PySem PySem.Spec PyProof.Rows
theorem slen (a b : Str) : (a ++ b).length = a.length + b.length := by simp only [len_cps,cps_append,List.length_append]
theorem len_nil : Str.empty.length = 0 := by decide +kernel
noncomputable def isK (t : Tree) : Bool := !t.isL
noncomputable abbrev Deed := M.Deed Str
noncomputable def vDeed : Deed → List V
 | .take x i => [.str (Str.ofString "take"),.str x,.int i]
 | .join f i j h => [.str (Str.ofString "join"),.str f,.int i,.int j,.int h]
 | .put i s => [.str (Str.ofString "put"),.int i,.int s]
 | .fetch s i => [.str (Str.ofString "fetch"),.int s,.int i]
noncomputable def dDeed : Deed → D
 | .take x i => .tup [.str (Str.ofString "take"),.str x,.int i]
 | .join f i j h => .tup [.str (Str.ofString "join"),.str f,.int i,.int j,.int h]
 | .put i s => .tup [.str (Str.ofString "put"),.int i,.int s]
 | .fetch s i => .tup [.str (Str.ofString "fetch"),.int s,.int i]
theorem deed_of {H : Hp} {d : Deed} {v : V} (h : Dt H (dDeed d) v) : ∃ a,v = .ref a ∧ H a = some (.tup (vDeed d)) := by
 cases d <;> (obtain ⟨a,vs,rfl,e,h⟩ := isD_tup.mp h; refine ⟨a,rfl,?_⟩; simp only [isDs_cons,isD_str,isD_int,isDs_nil] at h)
 · obtain ⟨_,_,rfl,rfl,_,_,rfl,rfl,_,_,rfl,rfl,rfl⟩ := h; exact e
 · obtain ⟨_,_,rfl,rfl,_,_,rfl,rfl,_,_,rfl,rfl,_,_,rfl,rfl,_,_,rfl,rfl,rfl⟩ := h; exact e
 · obtain ⟨_,_,rfl,rfl,_,_,rfl,rfl,_,_,rfl,rfl,rfl⟩ := h; exact e
 · obtain ⟨_,_,rfl,rfl,_,_,rfl,rfl,_,_,rfl,rfl,rfl⟩ := h; exact e
theorem deed_mk {H : Hp} {d : Deed} {a : Addr} (e : H a = some (.tup (vDeed d))) : Dt H (dDeed d) (.ref a) := by
 cases d
 · exact Dt.tup e (.cons (isD_str.mpr rfl) (.cons (isD_str.mpr rfl) (.cons (isD_int.mpr rfl) .nil)))
 · exact Dt.tup e (.cons (isD_str.mpr rfl) (.cons (isD_str.mpr rfl) (.cons (isD_int.mpr rfl) (.cons (isD_int.mpr rfl) (.cons (isD_int.mpr rfl) .nil)))))
 · exact Dt.tup e (.cons (isD_str.mpr rfl) (.cons (isD_int.mpr rfl) (.cons (isD_int.mpr rfl) .nil)))
 · exact Dt.tup e (.cons (isD_str.mpr rfl) (.cons (isD_int.mpr rfl) (.cons (isD_int.mpr rfl) .nil)))
theorem dDeed_dp (d : Deed) : (dDeed d).dp ≤ 1 := by cases d <;> exact Nat.le_refl 1
theorem w_tj : (Str.ofString "take" == Str.ofString "join") = false := by decide +kernel
theorem w_tp : (Str.ofString "take" == Str.ofString "put") = false := by decide +kernel
theorem w_tf : (Str.ofString "take" == Str.ofString "fetch") = false := by decide +kernel
theorem w_jt : (Str.ofString "join" == Str.ofString "take") = false := by decide +kernel
theorem w_jp : (Str.ofString "join" == Str.ofString "put") = false := by decide +kernel
theorem w_jf : (Str.ofString "join" == Str.ofString "fetch") = false := by decide +kernel
theorem w_pt : (Str.ofString "put" == Str.ofString "take") = false := by decide +kernel
theorem w_pj : (Str.ofString "put" == Str.ofString "join") = false := by decide +kernel
theorem w_ft : (Str.ofString "fetch" == Str.ofString "take") = false := by decide +kernel
theorem w_fj : (Str.ofString "fetch" == Str.ofString "join") = false := by decide +kernel
theorem w_fp : (Str.ofString "fetch" == Str.ofString "put") = false := by decide +kernel
theorem w_no {x y : Str} (h : (x == y) = false) : decide (V.str x = V.str y) = false := decide_eq_false fun z => by
 have := V.str.inj z
 rw [this] at h
 simp at h
theorem w_yes {x : Str} : decide (V.str x = V.str x) = true := decide_eq_true rfl
noncomputable def rListF : List V → Hp → VK → Prop := fun xs H Q => ∃ p ys,xs = [.ref p] ∧ itemsOf (H p) = some ys ∧ NewO H (.lst ys) Q
theorem call_listF {X : Cx} : CallR X (.type "list") rListF := fun pins s σ H xs us Q I r h => by
 obtain ⟨p,ys,e,h,q⟩ := h
 exact call_list_of pins s σ H xs us Q I r ⟨p,ys,e,itemsOf_sq h,q⟩
theorem a_rListF {xs : List V} {H : Hp} {Q : VK} : rListF xs H Q = (∃ p ys,xs = [.ref p] ∧ itemsOf (H p) = some ys ∧ NewO H (.lst ys) Q) := rfl
noncomputable def rTupF : List V → Hp → VK → Prop := fun xs H Q => ∃ p ys,xs = [.ref p] ∧ H p = some (.lst ys) ∧ NewO H (.tup ys) Q
theorem call_tupF {X : Cx} : CallR X (.type "tuple") rTupF := fun pins s σ H xs us Q I r h => by
 obtain ⟨p,ys,e,h,q⟩ := h
 exact call_tuple_of pins s σ H xs us Q I r ⟨p,ys,e,.inl ⟨SqL.of h,q⟩⟩
theorem a_rTupF {xs : List V} {H : Hp} {Q : VK} : rTupF xs H Q = (∃ p ys,xs = [.ref p] ∧ H p = some (.lst ys) ∧ NewO H (.tup ys) Q) := rfl
noncomputable def rSlU (K : PySem.W.Frag) : V → Option Int → Option Int → Hp → VK → Prop := fun x lo hi H Q => ∃ a xs,x = .ref a ∧ H a = some (.tup xs) ∧
 ((HT.sIx xs.length 0 lo = 0 ∧ HT.sIx xs.length xs.length hi = xs.length) → Q (.ref a) H) ∧ (¬ (HT.sIx xs.length 0 lo = 0 ∧ HT.sIx xs.length xs.length hi = xs.length) → NewO H (.tup (cutV xs lo hi)) Q)
theorem a_rSlU {K : PySem.W.Frag} {x : V} {lo hi : Option Int} {H : Hp} {Q : VK} : rSlU K x lo hi H Q = (∃ a xs,x = .ref a ∧ H a = some (.tup xs) ∧
 ((HT.sIx xs.length 0 lo = 0 ∧ HT.sIx xs.length xs.length hi = xs.length) → Q (.ref a) H) ∧ (¬ (HT.sIx xs.length 0 lo = 0 ∧ HT.sIx xs.length xs.length hi = xs.length) → NewO H (.tup (cutV xs lo hi)) Q)) := rfl
open HT in
theorem item_whole {P : Program} {w : World} {AA : Around} {EE : Value → Shared → Prop} {s : Shared} {t sl : Addr} {its : Array Value} {vl vu : Value} {lo hi : Option Int} {Q : Value → Shared → Prop} (ht : IsTup s.heap t its) (hs : s.heap.IsSliceOf sl vl vu .none) (pl : IsPart vl lo) (pu : IsPart vu hi)
 (hw : sIx its.size 0 lo = 0 ∧ sIx its.size its.size hi = its.size) (h : Q (.ref t) s) : wpAny (model P w) AA (getItem (.ref t) (.ref sl)) Q EE s := by
 obtain ⟨os,a1,a2,a3⟩ := id hs
 unfold getItem
 try with_reducible refine wpAny_holding ?_
 first | refine wpAny_bind (wpAny_pure ?_) | skip
 refine wpAny_bind (wpAny_sequenceKey ht.typeIs (by decide) ?_)
 have kind : s.TypeIs (.ref sl) "slice" := ⟨os,a1,a2⟩
 refine wpAny_bind (wpAny_callSpecial?_slot (name := Str.ofString "__getitem__") ht.typeIs PyProof.Rows.slot_tuple_getitem
  (wpAny_call_entry PyProof.Rows.slot_tuple_getitem ht.typeIs entry_tuple_getitem ?_ (args_tuple_getitem _ _)))
 show wpAny _ _ (Builtin.Tuple.tupleItemsOf (.ref t) >>= _) _ _ s
 refine wpAny_bind (tupleItemsOf_ ht ?_)
 refine wpAny_bind (wpAny_typeOf kind ?_)
 rw [if_pos (by decide)]
 refine wpAny_bind (sliceApplied_gen hs pl pu ?_)
 have yes : (((sIx its.size 0 lo : Nat) : Int) == 0 && (1 : Int) == 1 && (sIx its.size its.size hi - sIx its.size 0 lo) == its.size) = true := by
  rw [hw.1,hw.2]; simp
 show wpAny _ _ (if (((sIx its.size 0 lo : Nat) : Int) == 0 && (1 : Int) == 1 && (sIx its.size its.size hi - sIx its.size 0 lo) == its.size) = true then _ else _) _ _ s
 rw [if_pos yes]
 refine wpAny_bind (wpAny_bind (m := typeOf _) (wpAny_typeOf ht.typeIs (wpAny_pure ?_)))
 rw [if_pos (by decide)]
 first
  | exact wpAny_bind (wpAny_pure (wpAny_pure ⟨_,rfl,wpAny_pure h⟩))
  | exact wpAny_pure ⟨_,rfl,wpAny_pure h⟩
  | exact wpAny_bind (wpAny_rule (wpAny_pure ⟨_,rfl,wpAny_pure h⟩))
theorem sl_tupU {X : Cx} : SlR X (rSlU X.K) := by
 intro pins s σ H x v vl vu lo hi sl Q I rx hs pl pu h
 obtain ⟨a,xs,rfl,hx,h1,h2⟩ := h
 by_cases hw : HT.sIx xs.length 0 lo = 0 ∧ HT.sIx xs.length xs.length hi = xs.length
 · cases rx
   obtain ⟨its,r,ht,hz⟩ := I.tuple (SqT.of (K := X.K) hx)
   have hlen : its.toArray.size = xs.length := by rw [List.size_toArray]; exact r.length.symm
   exact ⟨"tuple",_,PyProof.Rows.slot_tuple_getitem.lookup,ht.typeIs,item_whole ht hs pl pu (by rw [hlen]; exact hw) ⟨.ref a,_,I,rfl,h1 hw⟩⟩
 · exact sl_tup pins s σ H (.ref a) v vl vu lo hi sl Q I rx hs pl pu ⟨a,xs,rfl,SqT.of hx,hw,h2 hw⟩
theorem st_of {H : Hp} {B S : List D} {v : V} (h : Dt H (.tup [.lst B,.lst S]) v) : ∃ p b s vs us,v = .ref p ∧ H p = some (.tup [.ref b,.ref s]) ∧ H b = some (.lst vs) ∧ H s = some (.lst us) ∧ Dts H B vs ∧ Dts H S us := by
 obtain ⟨p,vs,rfl,e,g1⟩ := isD_tup.mp h
 obtain ⟨v1,r1,e1,h1,g2⟩ := isDs_cons.mp g1
 obtain ⟨v2,r2,e2,h2,g3⟩ := isDs_cons.mp g2
 obtain ⟨b,us,e3,eb,db⟩ := isD_lst.mp h1
 obtain ⟨s,ws,e4,es,ds⟩ := isD_lst.mp h2
 rw [e1,e2,isDs_nil.mp g3,e3,e4] at e
 exact ⟨p,b,s,us,ws,rfl,e,eb,es,db,ds⟩
theorem st_mk {H : Hp} {B S : List D} {p b s : Addr} {vs us : List V} (e : H p = some (.tup [.ref b,.ref s])) (eb : H b = some (.lst vs)) (es : H s = some (.lst us)) (db : Dts H B vs) (ds : Dts H S us) : Dt H (.tup [.lst B,.lst S]) (.ref p) :=
 Dt.tup e (.cons (Dt.lst eb db) (.cons (Dt.lst es ds) .nil))
noncomputable def RetS (H : Hp) (st : List D × List D) (Q : VK) : Prop := ∀ p b s vs us H',Same H H' → H' p = some (.tup [.ref b,.ref s]) → H b = none → H s = none → b ≠ s → H' b = some (.lst vs) → H' s = some (.lst us) → Dts H' st.1 vs → Dts H' st.2 us → Q (.ref p) H'
theorem RetS.d {H : Hp} {B S : List D} {Q : VK} (h : RetD H (.tup [.lst B,.lst S]) Q) : RetS H (B,S) Q := fun p b s vs us H' S' e _ _ _ eb es db ds => h _ _ S' (st_mk e eb es db ds)
theorem Dts.len {H : Hp} {B : List D} {vs : List V} (h : Dts H B vs) : vs.length = B.length := h.length
theorem getD_at {H : Hp} {B : List D} {vs : List V} {i : Int} (h : Dts H B vs) (hi : M.inN B.length i) : ∃ v,atI vs i = some v ∧ Dt H (B.getD i.toNat .non) v := by
 have hlt : i.toNat < B.length := by have := hi.1; have := hi.2; omega
 obtain ⟨v,e,d⟩ := h.get (List.getElem?_eq_getElem hlt)
 refine ⟨v,atI_int hi.1 e,?_⟩
 rw [List.getD_eq_getElem?_getD,List.getElem?_eq_getElem hlt]
 exact d
end L2
namespace L2
open PySem PySem.Spec PyProof.Rows
section
variable {D : Ends} {σ : St} {H : Hp} {a b c d e f g h i j k l B : TS}
end
section
variable {D : Ends} {σ : St} {H : Hp} {a b c d e f B : TS}
theorem cutC1 (q : ∀ C : St → Hp → Prop,C = B D → tSeq a (fun _ => C) D σ H) : tSeq a B D σ H := q _ rfl
theorem cutC2 (q : ∀ C : St → Hp → Prop,C = B D → tSeq a (tSeq b fun _ => C) D σ H) : tSeq a (tSeq b B) D σ H := q _ rfl
theorem cutC3 (q : ∀ C : St → Hp → Prop,C = B D → tSeq a (tSeq b (tSeq c fun _ => C)) D σ H) : tSeq a (tSeq b (tSeq c B)) D σ H := q _ rfl
theorem cutC4 (q : ∀ C : St → Hp → Prop,C = B D → tSeq a (tSeq b (tSeq c (tSeq d fun _ => C))) D σ H) : tSeq a (tSeq b (tSeq c (tSeq d B))) D σ H := q _ rfl
end
theorem lst1 {p : List Value → Prop} (h : ∀ a,p [a]) (us : List Value) (hl : us.length = 1) : p us := by
 obtain _ | ⟨a,us⟩ := us
 · cases hl
 obtain _ | ⟨_,_⟩ := us
 · exact h a
 · simp at hl
theorem lst2 {p : List Value → Prop} (h : ∀ a b,p [a,b]) (us : List Value) (hl : us.length = 2) : p us := by
 obtain _ | ⟨a,us⟩ := us
 · cases hl
 obtain _ | ⟨b,us⟩ := us
 · cases hl
 obtain _ | ⟨_,_⟩ := us
 · exact h a b
 · simp at hl
theorem lst3 {p : List Value → Prop} (h : ∀ a b c,p [a,b,c]) (us : List Value) (hl : us.length = 3) : p us := by
 obtain _ | ⟨a,us⟩ := us
 · cases hl
 obtain _ | ⟨b,us⟩ := us
 · cases hl
 obtain _ | ⟨c,us⟩ := us
 · cases hl
 obtain _ | ⟨_,_⟩ := us
 · exact h a b c
 · simp at hl
theorem lst4 {p : List Value → Prop} (h : ∀ a b c d,p [a,b,c,d]) (us : List Value) (hl : us.length = 4) : p us := by
 obtain _ | ⟨a,us⟩ := us
 · cases hl
 obtain _ | ⟨b,us⟩ := us
 · cases hl
 obtain _ | ⟨c,us⟩ := us
 · cases hl
 obtain _ | ⟨d,us⟩ := us
 · cases hl
 obtain _ | ⟨_,_⟩ := us
 · exact h a b c d
 · simp at hl
theorem Fun.binds1 {K : PySem.W.Frag} {x qual : Str} {st : Stmt} {f : Addr} {fd : FuncData} {ps : List Str} (F : Fun K x qual st f fd) (hn : ps.length = 1) (h : ∀ (kV doc pm : Value) (an : Option Addr) (cdv ct : Value) (a : Value),bindArgs (PySem.W.fnOf x qual (defArgs st) (defBody st) (defScope st) .none kV doc pm an cdv ct) ⟨[a],[]⟩ = pure (ps.zip [a])) : Binds K fd ps [] :=
 F.binds fun kV doc pm an cdv ct us hl => lst1 (p := fun us => bindArgs (PySem.W.fnOf x qual (defArgs st) (defBody st) (defScope st) .none kV doc pm an cdv ct) ⟨us,[]⟩ = pure (ps.zip us)) (h kV doc pm an cdv ct) us (hl.trans hn)
theorem Fun.binds2 {K : PySem.W.Frag} {x qual : Str} {st : Stmt} {f : Addr} {fd : FuncData} {ps : List Str} (F : Fun K x qual st f fd) (hn : ps.length = 2) (h : ∀ (kV doc pm : Value) (an : Option Addr) (cdv ct : Value) (a b : Value),bindArgs (PySem.W.fnOf x qual (defArgs st) (defBody st) (defScope st) .none kV doc pm an cdv ct) ⟨[a,b],[]⟩ = pure (ps.zip [a,b])) : Binds K fd ps [] :=
 F.binds fun kV doc pm an cdv ct us hl => lst2 (p := fun us => bindArgs (PySem.W.fnOf x qual (defArgs st) (defBody st) (defScope st) .none kV doc pm an cdv ct) ⟨us,[]⟩ = pure (ps.zip us)) (h kV doc pm an cdv ct) us (hl.trans hn)
theorem Fun.binds3 {K : PySem.W.Frag} {x qual : Str} {st : Stmt} {f : Addr} {fd : FuncData} {ps : List Str} (F : Fun K x qual st f fd) (hn : ps.length = 3) (h : ∀ (kV doc pm : Value) (an : Option Addr) (cdv ct : Value) (a b c : Value),bindArgs (PySem.W.fnOf x qual (defArgs st) (defBody st) (defScope st) .none kV doc pm an cdv ct) ⟨[a,b,c],[]⟩ = pure (ps.zip [a,b,c])) : Binds K fd ps [] :=
 F.binds fun kV doc pm an cdv ct us hl => lst3 (p := fun us => bindArgs (PySem.W.fnOf x qual (defArgs st) (defBody st) (defScope st) .none kV doc pm an cdv ct) ⟨us,[]⟩ = pure (ps.zip us)) (h kV doc pm an cdv ct) us (hl.trans hn)
theorem Fun.binds4 {K : PySem.W.Frag} {x qual : Str} {st : Stmt} {f : Addr} {fd : FuncData} {ps : List Str} (F : Fun K x qual st f fd) (hn : ps.length = 4) (h : ∀ (kV doc pm : Value) (an : Option Addr) (cdv ct : Value) (a b c d : Value),bindArgs (PySem.W.fnOf x qual (defArgs st) (defBody st) (defScope st) .none kV doc pm an cdv ct) ⟨[a,b,c,d],[]⟩ = pure (ps.zip [a,b,c,d])) : Binds K fd ps [] :=
 F.binds fun kV doc pm an cdv ct us hl => lst4 (p := fun us => bindArgs (PySem.W.fnOf x qual (defArgs st) (defBody st) (defScope st) .none kV doc pm an cdv ct) ⟨us,[]⟩ = pure (ps.zip us)) (h kV doc pm an cdv ct) us (hl.trans hn)
theorem Dts.strs {H : Hp} {f : Nat → Str} {n : Nat} {vs : List V} (h : Dts H ((List.range n).map fun k => D.str (f k)) vs) : vs = ((List.range n).map f).map V.str := by
 have : ((List.range n).map fun k => D.str (f k)) = ((List.range n).map f).map D.str := by rw [List.map_map]; rfl
 rw [this] at h
 exact Dts.of_str h
end L2
namespace L2
open PySem PySem.Spec PyProof.Rows
section
variable {X : Cx} {pins : List (Addr × Obj)} {σ : St} {H H' : Hp} {s : Shared} {h' : Heap}
theorem turnedL {fp : List Addr} {t' : Nat} (I : Inv X pins σ H s) (k : ∀ b o,b ∉ fp → s.heap.get? b = some o → h'.get? b = some o) (hf : ∀ b ∈ fp,FpOk X pins H b) : Inv X pins σ H { s with heap := h',toks := t' } := by
 have nit : ∀ b u,H b = some u → b ∉ fp := fun b u e z => by
  have := (hf b z).1
  rw [e] at this; cases this
 have far : ∀ b ∈ fp,b ≠ X.env.locals := fun b z => (hf b z).2.1
 refine I.step (g' := s.gens) (d' := s.drawn) (ch := fp) (fun b hb => ?_) (fun b o _ _ hc e _ => k b o hc e) (fun b o _ _ hc e _ => ⟨o.slots,k b o hc e⟩) (fun _ _ _ _ n => n) (fun b o hc e => ⟨o,k b o hc e⟩) (fun _ _ e => e) (fun _ _ _ e => e) (fun b ps e => ⟨#[],by rw [e]; simp⟩) (fun m hm => ?_) (fun b u e => ?_) I.bare
 · obtain ⟨_,f1,_,f3,f4,f5⟩ := hf b hb
   exact ⟨f3,f1,f4,f5⟩
 · obtain ⟨o,es,ep,ho,r⟩ := hm
   exact ⟨o,es,ep,k _ o (fun z => far _ z rfl) ho,r⟩
 · refine (I.hok b u e).stay (fun c v hc q => k c v ?_ q) (fun _ q => q) fun _ _ q => q
   rcases hc with z | z
   · rw [z]; exact nit b u e
   · exact nit c _ z
theorem pairLaid {fp : List Addr} {t' : Nat} {x y : V} {u v : Value} (I : Inv X pins σ H s) (hx : RelV x u) (hy : RelV y v) (hf : ∀ b ∈ fp,FpOk X pins H b) (ho : ∀ b ∈ fp,∃ o,s.heap.get? b = some o)
 (new : h'.get? s.heap.objs.size = some { cls := .type "tuple",data := .seq #[u,v] }) (k : ∀ b o,b ∉ fp → s.heap.get? b = some o → h'.get? b = some o) :
 Inv X pins σ (upd H s.heap.objs.size (.tup [x,y])) { s with heap := h',toks := t' } ∧ ∀ b ∈ fp,FpOk X pins (upd H s.heap.objs.size (.tup [x,y])) b := by
 have lt : ∀ b ∈ fp,b ≠ s.heap.objs.size := fun b hb => by
  obtain ⟨o,e⟩ := ho b hb
  exact Nat.ne_of_lt (Heap.lt_size e)
 have hf' : ∀ b ∈ fp,FpOk X pins (upd H s.heap.objs.size (.tup [x,y])) b := fun b hb => by
  obtain ⟨f0,r⟩ := hf b hb
  exact ⟨by rw [upd_ne (lt b hb)]; exact f0,r⟩
 refine ⟨?_,hf'⟩
 have I1 : Inv X pins σ (upd H s.heap.objs.size (.tup [x,y])) { s with heap := s.heap.push { cls := .type "tuple",data := .seq #[u,v] } } :=
  I.laid (t' := s.toks) (fun b o q => Heap.get?_push_of_some _ q) (Nat.le_refl _) ⟨show 2 ≤ sizeLine by decide,[u,v],.cons hx (.cons hy .nil),IsTup.new _ _⟩
 refine turnedL (s := { s with heap := s.heap.push { cls := .type "tuple",data := .seq #[u,v] } }) (fp := fp) I1 (fun b o hb e => ?_) hf'
 rcases Heap.get?_push_cases e with ⟨rfl,rfl⟩ | q
 · exact new
 · exact k b o hb q
end
noncomputable def Ite (a : Addr) : It := ⟨fun i H => ∃ xs x,H a = some (.lst xs) ∧ xs[i]? = some x,
 fun i H x H' => ∃ T y,x = .ref T ∧ H T = none ∧ H' = upd H T (.tup [.int (i : Int),y]) ∧ ∀ ys,H a = some (.lst ys) → ys[i]? = some y,
 fun i H => ∃ xs,H a = some (.lst xs) ∧ xs.length ≤ i⟩
noncomputable def WalkE (x : V) (H : Hp) (R : It → Hp → Prop) : Prop := ∃ a,x = .ref a ∧ (∃ xs,H a = some (.lst xs)) ∧ R (Ite a) H
theorem WalkE.for {a : Addr} {xs : List V} {g : TG} {tb : TS} {D : Ends} {σ : St} {H : Hp} (e : H a = some (.lst xs)) (Pv : Nat → St → Hp → Prop) (h0 : Pv 0 σ H) (hl : ∀ i σ H,i ≤ xs.length → Pv i σ H → H a = some (.lst xs))
 (hs : ∀ i x σ H T H',xs[i]? = some x → Pv i σ H → Same H H' → H T = none → H' T = some (.tup [.int (i : Int),x]) → g (.ref T) σ H' fun σ2 H2 => tb { D with nx := Pv (i + 1),ct := Pv (i + 1),bk := D.nx } σ2 H2) (hd : ∀ σ H,Pv xs.length σ H → D.nx σ H) : WalkE (.ref a) H fun J H1 => ForW J g tb D σ H1 := by
 refine ⟨a,rfl,⟨xs,e⟩,fun i m σ H => i + m = xs.length ∧ Pv i σ H,⟨xs.length,by simp,h0⟩,fun i m σ H h => ?_⟩
 obtain ⟨h1,h2⟩ := h
 have ea := hl i σ H (by omega) h2
 by_cases c : m = 0
 · subst c
   have : i = xs.length := by omega
   subst this
   exact .inl ⟨⟨xs,ea,Nat.le_refl _⟩,hd σ H h2⟩
 · have hi : i < xs.length := by omega
   refine .inr ⟨⟨xs,_,ea,List.getElem?_eq_getElem hi⟩,Pv (i + 1),fun σ' H' q => ⟨m - 1,by omega,by omega,q⟩,fun x H' y => ?_⟩
   obtain ⟨T,z,rfl,nT,rfl,hz⟩ := y
   exact hs i z σ H T _ (hz xs ea) h2 (same_new nT _) nT upd_same
noncomputable def Itz (a b : Addr) : It := ⟨fun i H => ∃ xs ys x y,H a = some (.lst xs) ∧ H b = some (.lst ys) ∧ xs[i]? = some x ∧ ys[i]? = some y,
 fun i H x H' => ∃ T y z,x = .ref T ∧ H T = none ∧ H' = upd H T (.tup [y,z]) ∧ (∀ ys,H a = some (.lst ys) → ys[i]? = some y) ∧ ∀ ys,H b = some (.lst ys) → ys[i]? = some z,
 fun i H => ∃ xs ys,H a = some (.lst xs) ∧ H b = some (.lst ys) ∧ (xs.length ≤ i ∨ ys.length ≤ i)⟩
structure Apart5 (z TI TO i1 i2 : Addr) : Prop where
 a : TI ≠ z
 b : TO ≠ z
 c : i1 ≠ z
 d : i2 ≠ z
 e : TI ≠ TO
 f : TI ≠ i1
 g : TI ≠ i2
 h : TO ≠ i1
 i : TO ≠ i2
 j : i1 ≠ i2
theorem ne5 (n : Nat) : Apart5 (n + 4) (n + 2) (n + 3) n (n + 1) := by
 constructor <;> (intro z; have z' : @Eq Nat _ _ := z; omega)
noncomputable def WalkZ (x y : V) (H : Hp) (R : It → Hp → Prop) : Prop := ∃ a b,x = .ref a ∧ y = .ref b ∧ (∃ xs,H a = some (.lst xs)) ∧ (∃ xs,H b = some (.lst xs)) ∧ R (Itz a b) H
theorem boot_zip : bootBuiltins "zip" = some (.type "zip") := by decide +kernel
theorem WalkZ.for {a b : Addr} {xs ys : List V} {g : TG} {tb : TS} {D : Ends} {σ : St} {H : Hp} (e : H a = some (.lst xs)) (e2 : H b = some (.lst ys)) (hxy : xs.length = ys.length) (Pv : Nat → St → Hp → Prop) (h0 : Pv 0 σ H) (hl : ∀ i σ H,i ≤ xs.length → Pv i σ H → H a = some (.lst xs) ∧ H b = some (.lst ys))
 (hs : ∀ i x y σ H T H',xs[i]? = some x → ys[i]? = some y → Pv i σ H → Same H H' → H T = none → H' T = some (.tup [x,y]) → g (.ref T) σ H' fun σ2 H2 => tb { D with nx := Pv (i + 1),ct := Pv (i + 1),bk := D.nx } σ2 H2) (hd : ∀ σ H,Pv xs.length σ H → D.nx σ H) : WalkZ (.ref a) (.ref b) H fun J H1 => ForW J g tb D σ H1 := by
 refine ⟨a,b,rfl,rfl,⟨xs,e⟩,⟨ys,e2⟩,fun i m σ H => i + m = xs.length ∧ Pv i σ H,⟨xs.length,by simp,h0⟩,fun i m σ H h => ?_⟩
 obtain ⟨h1,h2⟩ := h
 obtain ⟨ea,eb⟩ := hl i σ H (by omega) h2
 by_cases c : m = 0
 · subst c
   have : i = xs.length := by omega
   subst this
   exact .inl ⟨⟨xs,ys,ea,eb,.inl (Nat.le_refl _)⟩,hd σ H h2⟩
 · have hi : i < xs.length := by omega
   refine .inr ⟨⟨xs,ys,_,_,ea,eb,List.getElem?_eq_getElem hi,List.getElem?_eq_getElem (by omega)⟩,Pv (i + 1),fun σ' H' q => ⟨m - 1,by omega,by omega,q⟩,fun x H' y => ?_⟩
   obtain ⟨T,z1,z2,rfl,nT,rfl,hz1,hz2⟩ := y
   exact hs i z1 z2 σ H T _ (hz1 xs ea) (hz2 ys eb) h2 (same_new nT _) nT upd_same
end L2
namespace L2
open PySem PySem.Spec PyProof.Rows
noncomputable def GivD (H : Hp) (p : Addr) (giv : Str → Int) (ok : Str → Prop) : Prop := ∃ kvs : List (Key × V),H p = some (.dK kvs) ∧ ∀ x,ok x → valV kvs (.inr x) = some (.int (giv x))
noncomputable abbrev Four := Int × Int × Int × Int
noncomputable def vFour (q : Four) : List V := [.int q.1,.int q.2.1,.int q.2.2.1,.int q.2.2.2]
noncomputable def MeanD (H : Hp) (p : Addr) (mean : Str → Four) (ok : Str → Prop) : Prop := ∃ kvs : List (Key × V),H p = some (.dK kvs) ∧ ∀ f,ok f → ∃ a,valV kvs (.inr f) = some (.ref a) ∧ H a = some (.tup (vFour (mean f)))
theorem GivD.same {H H' : Hp} {p : Addr} {giv : Str → Int} {ok : Str → Prop} (h : GivD H p giv ok) (S : Same H H') : GivD H' p giv ok := by
 obtain ⟨kvs,e,q⟩ := h
 exact ⟨kvs,S _ _ e,q⟩
theorem MeanD.same {H H' : Hp} {p : Addr} {mean : Str → Four} {ok : Str → Prop} (h : MeanD H p mean ok) (S : Same H H') : MeanD H' p mean ok := by
 obtain ⟨kvs,e,q⟩ := h
 exact ⟨kvs,S _ _ e,fun f hf => let ⟨a,h1,h2⟩ := q f hf; ⟨a,h1,S _ _ h2⟩⟩
theorem GivD.get {H : Hp} {p : Addr} {giv : Str → Int} {ok : Str → Prop} {x : Str} (h : GivD H p giv ok) (hx : ok x) : DGet H p (.str x) (some (.int (giv x))) := by
 obtain ⟨kvs,e,q⟩ := h
 exact .inl ⟨kvs,.inr x,Rd.of e,rfl,(q x hx).symm⟩
theorem MeanD.get {H : Hp} {p : Addr} {mean : Str → Four} {ok : Str → Prop} {f : Str} (h : MeanD H p mean ok) (hf : ok f) : ∃ a,DGet H p (.str f) (some (.ref a)) ∧ H a = some (.tup (vFour (mean f))) := by
 obtain ⟨kvs,e,q⟩ := h
 obtain ⟨a,h1,h2⟩ := q f hf
 exact ⟨a,.inl ⟨kvs,.inr f,Rd.of e,rfl,h1.symm⟩,h2⟩
end L2
namespace L2
open PySem PySem.Spec PyProof.Rows
section
variable {X : Cx} {tg : Expr}
end
section
variable {X : Cx}
noncomputable def isInt (m : Int) : Value → Bool | .int i _ => i == m | _ => false
end
theorem Dts.snoc {H : Hp} {ds : List D} {d : D} {us : List V} {v : V} (h : Dts H ds us) (g : Dt H d v) : Dts H (ds ++ [d]) (us ++ [v]) := h.append (.one g)
section
variable {X : Cx}
end
end L2
namespace L2
open PySem PySem.Spec PyProof.Rows
section
variable {X : Cx} {tg : Expr}
end
end L2
namespace L2
open PySem PySem.Spec PyProof.Rows
end L2
namespace L2
open PySem PySem.Spec PyProof.Rows
open PySem.W (hideAll hideAll_get hideAll_none of_hideAll funFrames_hide fresh_of_stays flyingW_base)
section
variable {X : Cx} {pins pn : List (Addr × Obj)} {σ : St} {H : Hp} {s : Shared} {E : XK}
end
end L2
namespace L2
open PySem PySem.Spec PyProof.Rows
section
variable {prog : Program} {w : World} {A : Around} {E : Value → Shared → Prop} {s : Shared}
theorem nextOf_tup {j l : Addr} {i : Nat} {its} {x : Value} {Q : Value → Shared → Prop} (t1 : s.heap.IsTupleIter j l i) (t2 : s.heap.IsTuple l its) (ex : its[i]? = some x)
 (q : ∀ h',h'.IsTupleIter j l (i + 1) → Heap.SameBut j s.heap h' → Q x { s with heap := h' }) : wpAny (model prog w) A (Builtin.SmallTypes.nextOf (.ref j)) Q E s := by
 obtain ⟨ob,g,gc,gd⟩ := id t1
 obtain ⟨ol,gl,_,nl,dl⟩ := t2
 unfold Builtin.SmallTypes.nextOf
 refine wpAny_bind (wpAny_callSpecial?_slot (name := Str.ofString "__next__") t1.typeIs F.slot_tuple_iterator_next (wpAny_call_entry F.slot_tuple_iterator_next t1.typeIs F.entry_tuple_iterator_next ?_ (F.args_tuple_iterator_next_1 _)))
 show wpAny _ _ (field (.ref j) 0 >>= _) _ _ s
 refine wpAny_bind (wpAny_field g gd (x := .ref l) rfl ?_); rw [if_neg (show ¬ ((Value.ref l == Value.none) = true) from Bool.false_ne_true)]
 show wpAny _ _ (field (.ref j) 1 >>= _) _ _ s
 refine wpAny_bind (wpAny_field g gd (x := .int i 0) rfl (show wpAny _ _ (seqItems? (.ref l) >>= _) _ _ s from wpAny_bind (wpAny_seqItems gl dl ?_)))
 simp only [ex,Int.toNat_natCast]
 refine wpAny_bind (wpAny_setField g gd (by simp) (wpAny_pure ⟨x,rfl,wpAny_pure (q _ ⟨_,Heap.get?_update_self _ g (Obj.isFreed_of_fields (Obj.data_mapFields gd _)),(Obj.cls_mapFields ..).trans gc,?_⟩ (Heap.SameBut.update ..))⟩))
 rw [Obj.data_mapFields gd]; simp [rawInt]
theorem nextOf_tup_end {j l : Addr} {i : Nat} {its} {Q : Value → Shared → Prop} (nh : A.handled = none) (t1 : s.heap.IsTupleIter j l i) (t2 : s.heap.IsTuple l its) (ex : its[i]? = none)
 (q : ∀ h' e,Heap.ExtBut j s.heap h' → (∃ o,h'.get? e = some o ∧ o.cls = .type "StopIteration") → E (.ref e) { s with heap := h' }) : wpAny (model prog w) A (Builtin.SmallTypes.nextOf (.ref j)) Q E s := by
 obtain ⟨ob,g,gc,gd⟩ := id t1
 obtain ⟨ol,gl,_,nl,dl⟩ := t2
 unfold Builtin.SmallTypes.nextOf
 refine wpAny_bind (wpAny_callSpecial?_slot (name := Str.ofString "__next__") t1.typeIs F.slot_tuple_iterator_next (wpAny_call_entry F.slot_tuple_iterator_next t1.typeIs F.entry_tuple_iterator_next ?_ (F.args_tuple_iterator_next_1 _)))
 show wpAny _ _ (field (.ref j) 0 >>= _) _ _ s
 refine wpAny_bind (wpAny_field g gd (x := .ref l) rfl ?_); rw [if_neg (show ¬ ((Value.ref l == Value.none) = true) from Bool.false_ne_true)]
 show wpAny _ _ (field (.ref j) 1 >>= _) _ _ s
 refine wpAny_bind (wpAny_field g gd (x := .int i 0) rfl (show wpAny _ _ (seqItems? (.ref l) >>= _) _ _ s from wpAny_bind (wpAny_seqItems gl dl ?_)))
 simp only [ex,Int.toNat_natCast]
 refine wpAny_bind (wpAny_rule (wpAny_bind (wpAny_setField g gd (by simp) (show wpAny _ _ (newExc (.type "StopIteration") [] >>= _) _ _ _ from wpAny_bind ?_))))
 simp only [newTuple,newExc]
 refine wpAny_bind (wpAny_newObj_type (wpAny_bind (m := firstArgMember _ _) (wpAny_of_eq (a := Value.none) (by first | rfl | (simp only [firstArgMember]; rfl)) (wpAny_newObj_type ?_ (by size_fits)))) (by size_fits))
 unfold raiseNew
 refine wpAny_bind (wpAny_handled (by (first | rw [show A.in1.handled = none from nh] | rw [nh]); exact wpAny_bind (wpAny_pure (wpAny_throw (q _ _ (((Heap.SameBut.update ..).extBut.push _).push _) ⟨_,Heap.get?_push_size _ rfl,rfl⟩)))))
end
theorem drawsT {prog : Program} {w : World} {A : Around} (nh : A.handled = none) (j l : Addr) (ne : l ≠ j) (its : Array Value) :
 Draws prog w A j [j,l] its.size (fun i v => its[i]? = some v) (fun i h => h.IsTupleIter j l i ∧ h.IsTuple l its) where
 live := fun _ _ st => let ⟨o,q,_⟩ := st.1; ⟨o,q⟩
 frame := fun _ _ _ st k => ⟨st.1.at fun o e => k j (by simp) o e,let ⟨o,q,r⟩ := st.2; ⟨o,k l (by simp) o q,r⟩⟩
 item := fun i s Q E hi st q => nextOf_tup st.1 st.2 (x := its[i]) (by simp [hi]) fun h' a b => q _ h' s.toks (by simp [hi]) ⟨a,st.2.extBut b.extBut ne⟩ b
 done := fun s Q E st q => nextOf_tup_end nh st.1 st.2 (by simp) q
theorem Draws.map {prog : Program} {w : World} {A : Around} {j : Addr} {fp : List Addr} {n : Nat} {P P' : Nat → Value → Prop} {St : Nat → Heap → Prop} (D : Draws prog w A j fp n P St) (h : ∀ i v,P i v → P' i v) : Draws prog w A j fp n P' St where
 live := D.live
 frame := D.frame
 item := fun i s Q E hi st q => D.item i s Q E hi st fun x h' tk p => q x h' tk (h _ _ p)
 done := D.done
structure ZApart (z TI TO i1 i2 : Addr) (f1 f2 : List Addr) : Prop where
 own : Apart5 z TI TO i1 i2
 m1 : i1 ∈ f1
 m2 : i2 ∈ f2
 z1 : z ∉ f1
 z2 : z ∉ f2
 t1 : TO ∉ f1
 t2 : TO ∉ f2
 x1 : i2 ∉ f1
 x2 : i1 ∉ f2
section
variable {prog : Program} {w : World} {A : Around} {E : Value → Shared → Prop} {s : Shared} {z TI TO i1 i2 : Addr} {f1 f2 : List Addr} {n1 n2 k : Nat} {P1 P2 : Nat → Value → Prop} {S1 S2 : Nat → Heap → Prop} {a b : Value}
theorem fr_but {h h' : Heap} {c : Addr} {f : List Addr} (e : Heap.ExtBut c h h') (n : c ∉ f) : ∀ b ∈ f,∀ o,h.get? b = some o → h'.get? b = some o := fun b hb o q => e b o (fun y => n (y ▸ hb)) q
theorem zipD_item {Q : Value → Shared → Prop} (ap : ZApart z TI TO i1 i2 f1 f2) (D1 : Draws prog w A i1 f1 n1 P1 S1) (D2 : Draws prog w A i2 f2 n2 P2 S2) (qz : IsZip s.heap z TI TO .none) (qI : IsPair s.heap TI (.ref i1) (.ref i2)) (qO : IsPair s.heap TO a b)
 (st1 : S1 k s.heap) (st2 : S2 k s.heap) (l1 : k < n1) (l2 : k < n2)
 (q : ∀ h' tk x y,P1 k x → P2 k y → IsZip h' z TI TO (rawInt s.heap.objs.size) → IsPair h' TO x y → S1 (k + 1) h' → S2 (k + 1) h' → IsPair h' s.heap.objs.size x y →
   (∀ c o,c ≠ z → c ≠ TO → c ≠ i1 → c ≠ i2 → s.heap.get? c = some o → h'.get? c = some o) → Q (.ref s.heap.objs.size) { s with heap := h',toks := tk }) :
 wpAny (model prog w) A (Builtin.«zip.__next__» ⟨[.ref z],[]⟩) (fun fin s' => ∃ v,fin = .done (.ret v) ∧ Q v s') E s := by
 show wpAny _ _ (field (.ref z) 2 >>= _) _ _ _
 refine wpAny_bind (wpAny_field qz rfl (x := .bool false) rfl (show wpAny _ _ (field (.ref z) 3 >>= _) _ _ _ from wpAny_bind (wpAny_field qz rfl (x := .ref TI) rfl (wpAny_bind (wpAny_seqItems qI rfl ?_)))))
 show wpAny _ _ (Builtin.SmallTypes.ownedTupleIsFree (.ref z) >>= _) _ _ _
 unfold Builtin.SmallTypes.ownedTupleIsFree
 refine wpAny_bind (wpAny_bind (wpAny_field qz rfl (x := .none) rfl (wpAny_pure ?_)))
 rw [if_pos rfl]
 refine wpAny_bind (wpAny_rule (wpAny_bind (wpAny_field qz rfl (x := .ref TO) rfl (wpAny_bind (wpAny_setField_rec qz (by simp) fun h₁ z₁ b₁ => wpAny_bind ?_)))))
 replace z₁ : IsZip h₁ z TI TO .ellipsis := z₁
 simp only [List.forIn_nil,List.forIn_cons,List.zipIdx_nil,List.zipIdx_cons]
 refine wpAny_bind (wpAny_bind (wpAny_onRaise (show wpAny _ _ (Builtin.SmallTypes.nextOf (.ref i1) >>= _) _ _ _ from wpAny_bind (D1.item k _ _ _ l1 (D1.frame _ _ _ st1 (fr_but b₁.extBut ap.z1)) fun x h₂ t₂ px s1 b₂ => wpAny_pure ?_))))
 have O₂ : IsPair h₂ TO a b := b₂.extBut _ _ ap.own.h (b₁.extBut _ _ ap.own.b qO)
 refine wpAny_bind (wpAny_seqItems O₂ rfl (wpAny_bind (wpAny_updateSeq_pair O₂ fun h₃ O₃ b₃ => wpAny_bind (wpAny_letGo (wpAny_pure ?_)))))
 replace O₃ : IsPair h₃ TO x b := O₃
 have st2' : S2 k h₃ := D2.frame _ _ _ (D2.frame _ _ _ (D2.frame _ _ _ st2 (fr_but b₁.extBut ap.z2)) (fr_but b₂.extBut ap.x2)) (fr_but b₃.extBut ap.t2)
 refine wpAny_bind (wpAny_bind (wpAny_onRaise (show wpAny _ _ (Builtin.SmallTypes.nextOf (.ref i2) >>= _) _ _ _ from wpAny_bind (D2.item k _ _ _ l2 st2' fun y h₄ t₄ py s2 b₄ => wpAny_pure ?_))))
 have O₄ : IsPair h₄ TO x b := b₄.extBut _ _ ap.own.i O₃
 refine wpAny_bind (wpAny_seqItems O₄ rfl (wpAny_bind (wpAny_updateSeq_pair O₄ fun h₅ O₅ b₅ => wpAny_bind (wpAny_letGo (wpAny_pure (wpAny_pure ?_))))))
 replace O₅ : IsPair h₅ TO x y := O₅
 refine wpAny_bind (wpAny_seqItems O₅ rfl (wpAny_bind (wpAny_newTuple ?_)))
 have sz : h₅.objs.size = s.heap.objs.size := by rw [b₅.1,b₄.1,b₃.1,b₂.1,b₁.1]
 have z₅ : IsZip h₅ z TI TO .ellipsis := b₅.extBut _ _ ap.own.b.symm (b₄.extBut _ _ ap.own.d.symm (b₃.extBut _ _ ap.own.b.symm (b₂.extBut _ _ ap.own.c.symm z₁)))
 have k₅ : ∀ c o,c ≠ z → c ≠ TO → c ≠ i1 → c ≠ i2 → s.heap.get? c = some o → h₅.get? c = some o := fun c o c1 c2 c3 c4 e => b₅.extBut _ _ c2 (b₄.extBut _ _ c4 (b₃.extBut _ _ c2 (b₂.extBut _ _ c3 (b₁.extBut _ _ c1 e))))
 have e1 : S1 (k + 1) h₅ := D1.frame _ _ _ (D1.frame _ _ _ (D1.frame _ _ _ s1 (fr_but b₃.extBut ap.t1)) (fr_but b₄.extBut ap.x1)) (fr_but b₅.extBut ap.t1)
 have e2 : S2 (k + 1) h₅ := D2.frame _ _ _ s2 (fr_but b₅.extBut ap.t2)
 have zl : z < h₅.objs.size := Heap.lt_size z₅
 show wpAny _ _ (Builtin.SmallTypes.ownedTupleHandOut (.ref z) (.ref h₅.objs.size) >>= _) _ _ _
 unfold Builtin.SmallTypes.ownedTupleHandOut
 refine wpAny_bind (wpAny_bind (wpAny_setField_rec (show IsZip (h₅.push { cls := .type "tuple",data := .seq #[x,y] }) z TI TO .ellipsis from Heap.get?_push_of_some _ z₅) (by simp) fun h₇ z₇ b₇ => ?_))
 replace z₇ : IsZip h₇ z TI TO (rawInt h₅.objs.size) := z₇
 refine wpAny_setField_rec z₇ (by simp) fun h₈ z₈ b₈ => wpAny_pure ⟨_,rfl,?_⟩
 replace z₈ : IsZip h₈ z TI TO (rawInt h₅.objs.size) := z₈
 have up : ∀ c o,c ≠ z → h₅.get? c = some o → h₈.get? c = some o := fun c o c1 e => b₈.extBut _ _ c1 (b₇.extBut _ _ c1 (Heap.get?_push_of_some _ e))
 have T₈ : IsPair h₈ h₅.objs.size x y := b₈.extBut _ _ (Nat.ne_of_gt zl) (b₇.extBut _ _ (Nat.ne_of_gt zl) (Heap.get?_push_size _ rfl))
 rw [sz] at z₈ T₈
 show Q (.ref h₅.objs.size) _
 rw [sz]
 exact q h₈ _ x y px py z₈ (up _ _ ap.own.b O₅) (D1.frame _ _ _ e1 fun c hc o e => up c o (fun y => ap.z1 (y ▸ hc)) e) (D2.frame _ _ _ e2 fun c hc o e => up c o (fun y => ap.z2 (y ▸ hc)) e) T₈ fun c o c1 c2 c3 c4 e => up c o c1 (k₅ c o c1 c2 c3 c4 e)
theorem zipD_end {Q : Fin → Shared → Prop} (ap : ZApart z TI TO i1 i2 f1 f2) (D1 : Draws prog w A i1 f1 n1 P1 S1) (D2 : Draws prog w A i2 f2 n2 P2 S2) (qz : IsZip s.heap z TI TO .none) (qI : IsPair s.heap TI (.ref i1) (.ref i2)) (qO : IsPair s.heap TO a b)
 (st1 : S1 k s.heap) (st2 : S2 k s.heap) (fin : n1 = k ∨ k < n1 ∧ n2 = k)
 (q : ∀ h' tk e,(∀ c o,c ≠ z → c ≠ TO → c ≠ i1 → c ≠ i2 → s.heap.get? c = some o → h'.get? c = some o) → (∃ o,h'.get? e = some o ∧ o.cls = .type "StopIteration") → E (.ref e) { s with heap := h',toks := tk }) :
 wpAny (model prog w) A (Builtin.«zip.__next__» ⟨[.ref z],[]⟩) Q E s := by
 show wpAny _ _ (field (.ref z) 2 >>= _) _ _ _
 refine wpAny_bind (wpAny_field qz rfl (x := .bool false) rfl (show wpAny _ _ (field (.ref z) 3 >>= _) _ _ _ from wpAny_bind (wpAny_field qz rfl (x := .ref TI) rfl (wpAny_bind (wpAny_seqItems qI rfl ?_)))))
 show wpAny _ _ (Builtin.SmallTypes.ownedTupleIsFree (.ref z) >>= _) _ _ _
 unfold Builtin.SmallTypes.ownedTupleIsFree
 refine wpAny_bind (wpAny_bind (wpAny_field qz rfl (x := .none) rfl (wpAny_pure ?_)))
 rw [if_pos rfl]
 refine wpAny_bind (wpAny_rule (wpAny_bind (wpAny_field qz rfl (x := .ref TO) rfl (wpAny_bind (wpAny_setField_rec qz (by simp) fun h₁ z₁ b₁ => wpAny_bind ?_)))))
 replace z₁ : IsZip h₁ z TI TO .ellipsis := z₁
 simp only [List.forIn_nil,List.forIn_cons,List.zipIdx_nil,List.zipIdx_cons]
 have st1' : S1 k h₁ := D1.frame _ _ _ st1 (fr_but b₁.extBut ap.z1)
 rcases fin with rfl | ⟨l1,rfl⟩
 · refine wpAny_bind (wpAny_bind (wpAny_onRaise (show wpAny _ _ (Builtin.SmallTypes.nextOf (.ref i1) >>= _) _ _ _ from wpAny_bind (D1.done _ _ _ st1' fun h₂ e b₂ he => ?_))))
   obtain ⟨oe,g1,g2⟩ := he
   have z₂ : IsZip h₂ z TI TO .ellipsis := b₂ _ _ ap.own.c.symm z₁
   have ne : e ≠ z := fun y => by rw [y,z₂] at g1; cases g1; simp at g2
   exact wpAny_setField_rec z₂ (by simp) fun h₃ _ b₃ => q h₃ s.toks e (fun c o c1 _ c3 _ y => b₃.extBut _ _ c1 (b₂ _ _ c3 (b₁.extBut _ _ c1 y))) ⟨oe,b₃.extBut _ _ ne g1,g2⟩
 · refine wpAny_bind (wpAny_bind (wpAny_onRaise (show wpAny _ _ (Builtin.SmallTypes.nextOf (.ref i1) >>= _) _ _ _ from wpAny_bind (D1.item n2 _ _ _ l1 st1' fun x h₂ t₂ px s1 b₂ => wpAny_pure ?_))))
   have O₂ : IsPair h₂ TO a b := b₂.extBut _ _ ap.own.h (b₁.extBut _ _ ap.own.b qO)
   refine wpAny_bind (wpAny_seqItems O₂ rfl (wpAny_bind (wpAny_updateSeq_pair O₂ fun h₃ O₃ b₃ => wpAny_bind (wpAny_letGo (wpAny_pure ?_)))))
   have st2' : S2 n2 h₃ := D2.frame _ _ _ (D2.frame _ _ _ (D2.frame _ _ _ st2 (fr_but b₁.extBut ap.z2)) (fr_but b₂.extBut ap.x2)) (fr_but b₃.extBut ap.t2)
   refine wpAny_bind (wpAny_bind (wpAny_onRaise (show wpAny _ _ (Builtin.SmallTypes.nextOf (.ref i2) >>= _) _ _ _ from wpAny_bind (D2.done _ _ _ st2' fun h₄ e b₄ he => ?_))))
   obtain ⟨oe,g1,g2⟩ := he
   have z₄ : IsZip h₄ z TI TO .ellipsis := b₄ _ _ ap.own.d.symm (b₃.extBut _ _ ap.own.b.symm (b₂.extBut _ _ ap.own.c.symm z₁))
   have ne : e ≠ z := fun y => by rw [y,z₄] at g1; cases g1; simp at g2
   exact wpAny_setField_rec z₄ (by simp) fun h₅ _ b₅ => q h₅ _ e (fun c o c1 c2 c3 c4 y => b₅.extBut _ _ c1 (b₄ _ _ c4 (b₃.extBut _ _ c2 (b₂.extBut _ _ c3 (b₁.extBut _ _ c1 y))))) ⟨oe,b₅.extBut _ _ ne g1,g2⟩
theorem pyNext_zipD {Q : Option Value → Shared → Prop} (ap : ZApart z TI TO i1 i2 f1 f2) (D1 : Draws prog w A.in1 i1 f1 n1 P1 S1) (D2 : Draws prog w A.in1 i2 f2 n2 P2 S2) (qz : IsZip s.heap z TI TO .none) (qI : IsPair s.heap TI (.ref i1) (.ref i2)) (qO : IsPair s.heap TO a b)
 (st1 : S1 k s.heap) (st2 : S2 k s.heap) (l1 : k < n1) (l2 : k < n2)
 (q : ∀ h' tk x y,P1 k x → P2 k y → IsZip h' z TI TO (rawInt s.heap.objs.size) → IsPair h' TO x y → S1 (k + 1) h' → S2 (k + 1) h' → IsPair h' s.heap.objs.size x y →
   (∀ c o,c ≠ z → c ≠ TO → c ≠ i1 → c ≠ i2 → s.heap.get? c = some o → h'.get? c = some o) → Q (some (.ref s.heap.objs.size)) { s with heap := h',toks := tk }) :
 wpAny (model prog w) A (pyNext (.ref z)) Q E s := by
 have ht : s.TypeIs (.ref z) "zip" := ⟨_,qz,rfl⟩
 unfold pyNext
 exact wpAny_bind (wpAny_attempt (wpAny_callSpecial?_slot (name := Str.ofString "__next__") ht F.slot_zip_next (wpAny_call_entry F.slot_zip_next ht F.entry_zip_next (zipD_item ap D1 D2 qz qI qO st1 st2 l1 l2 fun h' tk x y p1 p2 a1 a2 a3 a4 a5 a6 => wpAny_pure (q h' tk x y p1 p2 a1 a2 a3 a4 a5 a6)) (F.args_zip_next_1 _))))
theorem pyNext_zipD_end {Q : Option Value → Shared → Prop} (ap : ZApart z TI TO i1 i2 f1 f2) (D1 : Draws prog w A.in1 i1 f1 n1 P1 S1) (D2 : Draws prog w A.in1 i2 f2 n2 P2 S2) (qz : IsZip s.heap z TI TO .none) (qI : IsPair s.heap TI (.ref i1) (.ref i2)) (qO : IsPair s.heap TO a b)
 (st1 : S1 k s.heap) (st2 : S2 k s.heap) (fin : n1 = k ∨ k < n1 ∧ n2 = k)
 (q : ∀ h' tk,(∀ c o,c ≠ z → c ≠ TO → c ≠ i1 → c ≠ i2 → s.heap.get? c = some o → h'.get? c = some o) → Q none { s with heap := h',toks := tk }) : wpAny (model prog w) A (pyNext (.ref z)) Q E s := by
 have ht : s.TypeIs (.ref z) "zip" := ⟨_,qz,rfl⟩
 unfold pyNext
 refine wpAny_bind (wpAny_attempt (wpAny_callSpecial?_slot (name := Str.ofString "__next__") ht F.slot_zip_next (wpAny_call_entry F.slot_zip_next ht F.entry_zip_next (zipD_end ap D1 D2 qz qI qO st1 st2 fin fun h' tk e hk he => ?_) (F.args_zip_next_1 _))))
 obtain ⟨o,g1,g2⟩ := he
 exact wpAny_bind (wpAny_isInstance (T := "StopIteration") (b := true) ⟨o,g1,g2⟩ isSubtype_stop (wpAny_pure (q _ tk hk)))
end
inductive Kd where
 | l (a : Addr)
 | t (a : Addr)
 | s (x : Str)
noncomputable def Kd.v : Kd → V
 | .l a => .ref a
 | .t a => .ref a
 | .s x => .str x
noncomputable def signsV (x : Str) : List V := x.cps.toList.map fun c => V.str ⟨#[c]⟩
noncomputable def Kd.has (K : PySem.W.Frag) (H : Hp) : Kd → List V → Prop
 | .l a,xs => SqL K H a xs
 | .t a,xs => SqT K H a xs
 | .s x,xs => xs = signsV x
noncomputable def Kd.it (j : Addr) (i : Nat) (h : Heap) : Kd → Prop
 | .l a => h.IsListIter j a i
 | .t a => h.IsTupleIter j a i
 | .s x => ∃ t,h.IsStrIter j (strIterType x) x t i
theorem Kd.it_at {j : Addr} {i : Nat} {h h' : Heap} (p : Kd) (x : p.it j i h) (e : ∀ o,h.get? j = some o → h'.get? j = some o) : p.it j i h' := by
 cases p with
 | l a => exact Heap.IsListIter.at x e
 | t a => exact Heap.IsTupleIter.at x e
 | s z => obtain ⟨t,o,q,r⟩ := x; exact ⟨t,o,e o q,r⟩
theorem Kd.it_obj {j : Addr} {i : Nat} {h : Heap} (p : Kd) (x : p.it j i h) : ∃ o,h.get? j = some o ∧ ∀ v,o.data ≠ .cell v := by
 cases p with
 | l a => obtain ⟨o,q,_,d⟩ := x; exact ⟨o,q,fun v z => by rw [d] at z; cases z⟩
 | t a => obtain ⟨o,q,_,d⟩ := x; exact ⟨o,q,fun v z => by rw [d] at z; cases z⟩
 | s z => obtain ⟨t,o,q,_,d⟩ := x; exact ⟨o,q,fun v z => by rw [d] at z; cases z⟩
theorem kfar {X : Cx} {pins : List (Addr × Obj)} {σ : St} {H : Hp} {s : Shared} {a b : Addr} {o : Obj} (I : Inv X pins σ H s) (hk : X.K.lookup a = some o) (f : FpOk X pins H b) : a ≠ b := fun e => by
 subst e
 have hb := I.ok.mod.kin a o hk
 rcases f.2.2.2.1 with z | z
 · exact I.ok.noex a o hb z
 · exact absurd (Nat.lt_of_lt_of_le (Heap.lt_size hb) (Nat.le_trans I.ok.bsz z)) (Nat.lt_irrefl _)
theorem rdfar {X : Cx} {pins : List (Addr × Obj)} {H : Hp} {a b : Addr} {u : HO} (r : Rd H a u) (f : FpOk X pins H b) : a ≠ b := fun e => by
 have := f.1
 rcases r with r | ⟨o,r⟩ <;> (rw [e,this] at r; cases r)
theorem Kd.draws {X : Cx} {pins : List (Addr × Obj)} {σ : St} {H : Hp} {s : Shared} {j : Addr} {xs : List V} (p : Kd) (I : Inv X pins σ H s) (hc : X.calm = true) (hp : p.has X.K H xs) (fj : FpOk X pins H j) {i0 : Nat} (st : p.it j i0 s.heap) :
 ∃ fp P S,Draws X.prog X.w X.A.in1 j fp xs.length P S ∧ S i0 s.heap ∧ (∀ i h',S i h' → p.it j i h') ∧ (∀ i v,P i v → ∃ x,xs[i]? = some x ∧ RelV x v) ∧ j ∈ fp ∧ ∀ b,FpOk X pins H b → b ≠ j → b ∉ fp := by
 have nh : X.A.in1.handled = none := I.ok.hd hc
 cases p with
 | l a =>
  obtain ⟨its,rv,pl,hz⟩ := I.list hp
  have far : ∀ b,FpOk X pins H b → a ≠ b := fun b f => by
   rcases hp with r | ⟨o,_,_,hk,_⟩
   · exact rdfar r f
   · exact kfar I hk f
  have e : its.toArray.size = xs.length := by rw [List.size_toArray]; exact rv.length.symm
  refine ⟨[j,a],_,_,e ▸ Draws.list nh j a (far j fj) its.toArray,⟨st,pl.isList⟩,fun i h' h => h.1,fun i v h => ?_,by simp,fun b f nb hb => ?_⟩
  · have h : its[i]? = some v := by simpa using h
    have hi : i < xs.length := by have := (List.getElem?_eq_some_iff.mp h).1; rw [rv.length]; exact this
    obtain ⟨u,hu,ru⟩ := rv.get (List.getElem?_eq_getElem hi)
    rw [h] at hu; cases hu
    exact ⟨_,List.getElem?_eq_getElem hi,ru⟩
  · simp only [List.mem_cons,List.not_mem_nil,or_false] at hb
    rcases hb with hb | hb
    · exact nb hb
    · exact far b f hb.symm
 | t a =>
  obtain ⟨its,rv,pl,hz⟩ := I.tuple hp
  have far : ∀ b,FpOk X pins H b → a ≠ b := fun b f => by
   rcases hp with r | ⟨o,_,_,hk,_⟩
   · exact rdfar r f
   · exact kfar I hk f
  have e : its.toArray.size = xs.length := by rw [List.size_toArray]; exact rv.length.symm
  refine ⟨[j,a],_,_,e ▸ drawsT nh j a (far j fj) its.toArray,⟨st,pl⟩,fun i h' h => h.1,fun i v h => ?_,by simp,fun b f nb hb => ?_⟩
  · have h : its[i]? = some v := by simpa using h
    have hi : i < xs.length := by have := (List.getElem?_eq_some_iff.mp h).1; rw [rv.length]; exact this
    obtain ⟨u,hu,ru⟩ := rv.get (List.getElem?_eq_getElem hi)
    rw [h] at hu; cases hu
    exact ⟨_,List.getElem?_eq_getElem hi,ru⟩
  · simp only [List.mem_cons,List.not_mem_nil,or_false] at hb
    rcases hb with hb | hb
    · exact nb hb
    · exact far b f hb.symm
 | s z =>
  have hp : xs = signsV z := hp
  have e : z.cps.size = xs.length := by rw [hp]; simp [signsV]
  have pt : ∀ (i : Nat) (v : Value),(∃ (c : Nat) (u : Tok),z.cps[i]? = some c ∧ v = Value.str ⟨#[c]⟩ u) → ∃ x,xs[i]? = some x ∧ RelV x v := fun i v h => by
   obtain ⟨c,u,h1,h2⟩ := h
   refine ⟨.str ⟨#[c]⟩,?_,⟨u,h2⟩⟩
   rw [hp]
   simp only [signsV,List.getElem?_map,Array.getElem?_toList,h1,Option.map_some]
  obtain ⟨t,st⟩ := st
  cases ha : z.cps.all (· < 128) with
  | true =>
   have et : strIterType z = "str_ascii_iterator" := by simp [strIterType,ha]
   rw [et] at st
   refine ⟨[j],_,_,e ▸ Draws.strAscii nh j z t,st,fun i h' h => ⟨t,by rw [et]; exact h⟩,pt,by simp,fun b f nb hb => nb (by simpa using hb)⟩
  | false =>
   have et : strIterType z = "str_iterator" := by simp [strIterType,ha]
   rw [et] at st
   refine ⟨[j],_,_,e ▸ Draws.strWide nh j z t,st,fun i h' h => ⟨t,by rw [et]; exact h⟩,pt,by simp,fun b f nb hb => nb (by simpa using hb)⟩
theorem Kd.has_inj {X : Cx} {pins : List (Addr × Obj)} {σ : St} {H : Hp} {s : Shared} {xs ys : List V} (p : Kd) (I : Inv X pins σ H s) (h1 : p.has X.K H xs) (h2 : p.has X.K H ys) : xs = ys := by
 cases p with
 | l a => exact I.list_inj h1 h2
 | t a => exact I.tuple_inj h1 h2
 | s z => exact Eq.trans h1 (Eq.symm h2)
noncomputable def Itk (K : PySem.W.Frag) (p q : Kd) : It := ⟨fun i H => ∃ xs ys,p.has K H xs ∧ q.has K H ys ∧ i < xs.length ∧ i < ys.length,
 fun i H x H' => ∃ T y z,x = .ref T ∧ H T = none ∧ H' = upd H T (.tup [y,z]) ∧ (∀ ys,p.has K H ys → ys[i]? = some y) ∧ ∀ ys,q.has K H ys → ys[i]? = some z,
 fun i H => ∃ xs ys,p.has K H xs ∧ q.has K H ys ∧ (xs.length = i ∨ i < xs.length ∧ ys.length = i)⟩
theorem turn_zipK {P : Program} {w : World} {K : PySem.W.Frag} {elts : List Expr} {n : Nat} {ps : Pos} (p q : Kd) (z TI TO i1 i2 : Addr) (ap : Apart5 z TI TO i1 i2) : Turn P w K (.Tuple elts n ps) (Itk K p q) [z,TI,TO,i1,i2] z
 (fun i h => IsZip h z TI TO .none ∧ IsPair h TI (.ref i1) (.ref i2) ∧ (∃ u v,IsPair h TO u v) ∧ p.it i1 i h ∧ q.it i2 i h) where
 mem := by simp
 obj := fun i h st c hc => by
  obtain ⟨s1,s2,⟨u,v,s3⟩,s4,s5⟩ := st
  simp only [List.mem_cons,List.not_mem_nil,or_false] at hc
  rcases hc with rfl | rfl | rfl | rfl | rfl
  · exact ⟨_,s1,fun v z => by
     have z' : Data.fields _ = Data.cell v := z
     cases z'⟩
  · exact ⟨_,s2,fun v z => by
     have z' : Data.seq _ = Data.cell v := z
     cases z'⟩
  · exact ⟨_,s3,fun v z => by
     have z' : Data.seq _ = Data.cell v := z
     cases z'⟩
  · exact p.it_obj s4
  · exact q.it_obj s5
 keep := fun i h h' st k => by
  obtain ⟨s1,s2,⟨u,v,s3⟩,s4,s5⟩ := st
  exact ⟨k _ (by simp) _ s1,k _ (by simp) _ s2,⟨u,v,k _ (by simp) _ s3⟩,p.it_at s4 fun o e => k _ (by simp) o e,q.it_at s5 fun o e => k _ (by simp) o e⟩
 item := by
  intro X hP hw hK hc i pins s σ H E I hf st hg
  subst hP hw hK
  obtain ⟨s1,s2,⟨u0,v0,s3⟩,s4,s5⟩ := st
  obtain ⟨xs,ys,hx,hy,lx,ly⟩ := hg
  obtain ⟨f1,P1,S1,D1,d1,b1,v1,m1,n1⟩ := p.draws I hc hx (hf i1 (by simp)) s4
  obtain ⟨f2,P2,S2,D2,d2,b2,v2,m2,n2⟩ := q.draws I hc hy (hf i2 (by simp)) s5
  have za : ZApart z TI TO i1 i2 f1 f2 := ⟨ap,m1,m2,n1 z (hf z (by simp)) ap.c.symm,n2 z (hf z (by simp)) ap.d.symm,n1 TO (hf TO (by simp)) ap.h,n2 TO (hf TO (by simp)) ap.i,n1 i2 (hf i2 (by simp)) ap.j.symm,n2 i1 (hf i1 (by simp)) ap.j⟩
  have hob : ∀ c ∈ [z,TI,TO,i1,i2],∃ o,s.heap.get? c = some o := fun c hc => by
   simp only [List.mem_cons,List.not_mem_nil,or_false] at hc
   rcases hc with rfl | rfl | rfl | rfl | rfl
   · exact ⟨_,s1⟩
   · exact ⟨_,s2⟩
   · exact ⟨_,s3⟩
   · obtain ⟨o,e,_⟩ := p.it_obj s4; exact ⟨o,e⟩
   · obtain ⟨o,e,_⟩ := q.it_obj s5; exact ⟨o,e⟩
  refine pyNext_zipD za D1 D2 s1 s2 s3 d1 d2 lx ly fun h1 tk u v p1 p2 g1 g2 g3 g4 g5 g7 => ?_
  obtain ⟨x,ex,ru⟩ := v1 i u p1
  obtain ⟨y,ey,rv⟩ := v2 i v p2
  refine ⟨_,rfl,wpAny_letOwnedTupleGo_zip (s := { s with heap := h1,toks := tk }) g1 fun h2 t1 t2 => ?_⟩
  have hT : s.heap.objs.size ≠ z := Nat.ne_of_gt (Heap.lt_size s1)
  obtain ⟨I2,f2⟩ := pairLaid (t' := tk) (h' := h2) (x := x) (y := y) (u := u) (v := v) I ru rv hf hob (by rw [t2.2 _ hT]; exact g5) (fun c o hb e => by
   simp only [List.mem_cons,List.not_mem_nil,or_false,not_or] at hb
   rw [t2.2 _ hb.1]; exact g7 c o hb.1 hb.2.2.1 hb.2.2.2.1 hb.2.2.2.2 e)
  refine ⟨.ref s.heap.objs.size,_,I2,rfl,⟨_,x,y,rfl,I.hok.fresh (Nat.le_refl _),rfl,fun ys' h' => by rw [p.has_inj I h' hx]; exact ex,fun ys' h' => by rw [q.has_inj I h' hy]; exact ey⟩,⟨t1,?_,⟨u,v,?_⟩,?_,?_⟩,fun b hb => (f2 b hb).1⟩
  · show h2.get? TI = _
    rw [t2.2 _ ap.a]; exact g7 TI _ ap.a ap.e ap.f ap.g s2
  · show h2.get? TO = _
    rw [t2.2 _ ap.b]; exact g2
  · exact p.it_at (b1 _ _ g3) fun o e => by rw [t2.2 _ ap.c]; exact e
  · exact q.it_at (b2 _ _ g4) fun o e => by rw [t2.2 _ ap.d]; exact e
 done := by
  intro X hP hw hK hc i pins s σ H E I hf st hg
  subst hP hw hK
  obtain ⟨s1,s2,⟨u0,v0,s3⟩,s4,s5⟩ := st
  obtain ⟨xs,ys,hx,hy,fin⟩ := hg
  obtain ⟨f1,P1,S1,D1,d1,b1,v1,m1,n1⟩ := p.draws I hc hx (hf i1 (by simp)) s4
  obtain ⟨f2,P2,S2,D2,d2,b2,v2,m2,n2⟩ := q.draws I hc hy (hf i2 (by simp)) s5
  have za : ZApart z TI TO i1 i2 f1 f2 := ⟨ap,m1,m2,n1 z (hf z (by simp)) ap.c.symm,n2 z (hf z (by simp)) ap.d.symm,n1 TO (hf TO (by simp)) ap.h,n2 TO (hf TO (by simp)) ap.i,n1 i2 (hf i2 (by simp)) ap.j.symm,n2 i1 (hf i1 (by simp)) ap.j⟩
  refine pyNext_zipD_end za D1 D2 s1 s2 s3 d1 d2 fin fun h' tk eb => ⟨rfl,turnedL (fp := [z,TI,TO,i1,i2]) (t' := tk) I (fun c o hb e => ?_) hf⟩
  simp only [List.mem_cons,List.not_mem_nil,or_false,not_or] at hb
  exact eb c o hb.1 hb.2.2.1 hb.2.2.2.1 hb.2.2.2.2 e
 self := fun _ _ _ _ _ st h => wpAny_pyIter_zip st.1 h
noncomputable def Kd.val (t : Tok) : Kd → Value
 | .l a => .ref a
 | .t a => .ref a
 | .s x => .str x t
noncomputable def Kd.obj (t : Tok) : Kd → Obj
 | .l a => { cls := .type "list_iterator",data := .fields #[.ref a,.int 0 0] }
 | .t a => { cls := .type "tuple_iterator",data := .fields #[.ref a,.int 0 0] }
 | .s x => { cls := .type (strIterType x),data := .fields #[.str x t,.int 0 0] }
noncomputable def Kd.inH (h : Heap) : Kd → Prop
 | .l a => ∃ its,h.IsList a its
 | .t a => ∃ its,h.IsTuple a its
 | .s _ => True
theorem Kd.inH_push {h : Heap} (p : Kd) (o : Obj) (e : p.inH h) : p.inH (h.push o) := by
 cases p with
 | l a => obtain ⟨i,e⟩ := e; exact ⟨i,e.push o⟩
 | t a => obtain ⟨i,e⟩ := e; exact ⟨i,e.push o⟩
 | s x => trivial
theorem Kd.iter {prog : Program} {w : World} {A : Around} {E : Value → Shared → Prop} {s : Shared} {Q : Value → Shared → Prop} {t : Tok} (p : Kd) (e : p.inH s.heap)
 (q : Q (.ref s.heap.objs.size) { s with heap := s.heap.push (p.obj t) }) : wpAny (model prog w) A (pyIter (p.val t)) Q E s := by
 cases p with
 | l a => obtain ⟨i,e⟩ := e; exact wpAny_pyIter_list e q
 | t a => obtain ⟨i,e⟩ := e; exact wpAny_pyIter_tuple e q
 | s x => exact wpAny_pyIter_strU q
theorem zip_newK (p1 p2 : Kd) (t1 t2 : Tok) : Meets (Builtin.«zip.__new__» ⟨[.type "zip",p1.val t1,p2.val t2],[]⟩) (fun _ R s => p1.inH s.heap ∧ p2.inH s.heap ∧
 ∀ g1 g2 g3 g4 g5 : Heap,g1 = s.heap.push (p1.obj t1) → g2 = g1.push (p2.obj t2) → g3 = g2.push { cls := .type "tuple",data := .seq #[.ref s.heap.objs.size,.ref g1.objs.size] } → g4 = g3.push { cls := .type "tuple",data := .seq #[.none,.none] } →
  g5 = g4.push { cls := .type "zip",data := .fields #[.none,.bool false,.bool false,.ref g2.objs.size,.ref g3.objs.size] } → R (.ok (.ret (.ref g4.objs.size))) { s with heap := g5 }) :=
 .of_wp fun prog w A R s h => by
  obtain ⟨hp,g,d,tk,os⟩ := s; obtain ⟨l1,l2,h⟩ := h
  have sb := sub_zip
  have h := h _ _ _ _ _ rfl rfl rfl rfl rfl
  wp_walk using (Kd.iter p1 (t := t1) (s := ⟨hp,g,d,tk,os⟩) l1),(Kd.iter p2 (t := t2) (s := ⟨hp.push (p1.obj t1),g,d,tk,os⟩) (p2.inH_push _ l2))
  exact ⟨_,rfl,h⟩
theorem call_zipK {prog : Program} {w : World} {A : Around} {E : Value → Shared → Prop} {s : Shared} {Q : Value → Shared → Prop} {t1 t2 : Tok} (p1 p2 : Kd) (l1 : p1.inH s.heap) (l2 : p2.inH s.heap)
 (h : ∀ h',IsZip h' (s.heap.objs.size + 4) (s.heap.objs.size + 2) (s.heap.objs.size + 3) .none → IsPair h' (s.heap.objs.size + 2) (.ref s.heap.objs.size) (.ref (s.heap.objs.size + 1)) → IsPair h' (s.heap.objs.size + 3) .none .none →
   h'.get? s.heap.objs.size = some (p1.obj t1) → h'.get? (s.heap.objs.size + 1) = some (p2.obj t2) → (∀ c o,s.heap.get? c = some o → h'.get? c = some o) → Q (.ref (s.heap.objs.size + 4)) { s with heap := h' }) :
 wpAny (model prog w) A (call (.type "zip") [p1.val t1,p2.val t2]) Q E s := by
 refine callType_new F.called_zip (by decide) (F.typeCall_zip_2 _ _) (F.newCall_zip_2 _ _) (fun obj => F.args_object_init_3 obj _ _) F.entry_zip_new (zip_newK p1 p2 t1 t2) ⟨l1,l2,?_⟩
 intro g1 g2 g3 g4 g5 e1 e2 e3 e4 e5
 have z1 : g1.objs.size = s.heap.objs.size + 1 := by rw [e1]; exact Heap.size_push ..
 have z2 : g2.objs.size = s.heap.objs.size + 2 := by rw [e2,Heap.size_push,z1]
 have z3 : g3.objs.size = s.heap.objs.size + 3 := by rw [e3,Heap.size_push,z2]
 have z4 : g4.objs.size = s.heap.objs.size + 4 := by rw [e4,Heap.size_push,z3]
 have u5 : ∀ {c o},g4.get? c = some o → g5.get? c = some o := fun q => by rw [e5]; exact Heap.get?_push_of_some _ q
 have u4 : ∀ {c o},g3.get? c = some o → g4.get? c = some o := fun q => by rw [e4]; exact Heap.get?_push_of_some _ q
 have u3 : ∀ {c o},g2.get? c = some o → g3.get? c = some o := fun q => by rw [e3]; exact Heap.get?_push_of_some _ q
 have u2 : ∀ {c o},g1.get? c = some o → g2.get? c = some o := fun q => by rw [e2]; exact Heap.get?_push_of_some _ q
 have w5 : g5.get? (s.heap.objs.size + 4) = some { cls := .type "zip",data := .fields #[.none,.bool false,.bool false,.ref (s.heap.objs.size + 2),.ref (s.heap.objs.size + 3)] } := by
  rw [← z4,← z3,← z2,e5]; exact Heap.get?_push_size _ rfl
 have w4 : g4.get? (s.heap.objs.size + 3) = some { cls := .type "tuple",data := .seq #[.none,.none] } := by rw [← z3,e4]; exact Heap.get?_push_size _ rfl
 have w3 : g3.get? (s.heap.objs.size + 2) = some { cls := .type "tuple",data := .seq #[.ref s.heap.objs.size,.ref (s.heap.objs.size + 1)] } := by rw [← z2,← z1,e3]; exact Heap.get?_push_size _ rfl
 have w2 : g2.get? (s.heap.objs.size + 1) = some (p2.obj t2) := by rw [← z1,e2]; exact Heap.get?_push_size _ (by cases p2 <;> rfl)
 have w1 : g1.get? s.heap.objs.size = some (p1.obj t1) := by rw [e1]; exact Heap.get?_push_size _ (by cases p1 <;> rfl)
 show _ ∧ _
 rw [z4]
 exact ⟨⟨_,w5,rfl⟩,h g5 w5 (u5 (u4 w3)) (u5 w4) (u5 (u4 (u3 (u2 w1)))) (u5 (u4 (u3 w2))) fun c o q => u5 (u4 (u3 (u2 (by rw [e1]; exact Heap.get?_push_of_some _ q))))⟩
theorem Kd.it0 {j : Addr} {h : Heap} {t : Tok} (p : Kd) (e : h.get? j = some (p.obj t)) : p.it j 0 h := by
 cases p with
 | l a => exact ⟨_,e,rfl,rfl⟩
 | t a => exact ⟨_,e,rfl,rfl⟩
 | s x => exact ⟨t,_,e,rfl,rfl⟩
theorem Kd.inH_of {X : Cx} {pins : List (Addr × Obj)} {σ : St} {H : Hp} {s : Shared} {xs : List V} (p : Kd) (I : Inv X pins σ H s) (h : p.has X.K H xs) : p.inH s.heap := by
 cases p with
 | l a => obtain ⟨its,_,pl,_⟩ := I.list h; exact ⟨_,pl.isList⟩
 | t a => obtain ⟨its,_,pl,_⟩ := I.tuple h; exact ⟨_,pl⟩
 | s x => trivial
theorem Kd.val_of {u : Value} (p : Kd) (r : RelV p.v u) : ∃ t,u = p.val t := by
 cases p with
 | l a => cases r; exact ⟨0,rfl⟩
 | t a => cases r; exact ⟨0,rfl⟩
 | s x => obtain ⟨t,r⟩ := r; exact ⟨t,r⟩
noncomputable def WalkK (K : PySem.W.Frag) (x y : V) (H : Hp) (R : It → Hp → Prop) : Prop := ∃ p q : Kd,x = p.v ∧ y = q.v ∧ (∃ xs,p.has K H xs) ∧ (∃ xs,q.has K H xs) ∧ R (Itk K p q) H
noncomputable def iZipK (K : PySem.W.Frag) (ta : TA) : TI := fun σ H R => ta σ H fun vs H1 => ∃ x y,vs = [x,y] ∧ WalkK K x y H1 R
theorem a_iZipK {K : PySem.W.Frag} {ta : TA} {σ : St} {H : Hp} {R : It → Hp → Prop} : iZipK K ta σ H R = (ta σ H fun vs H1 => ∃ x y,vs = [x,y] ∧ WalkK K x y H1 R) := (rfl)
theorem pi_zipK {X : Cx} {K : PySem.W.Frag} {elts : List Expr} {n : Nat} {ps : Pos} {a b : Expr} {ta : TA} {p pos : Pos} (hK : X.K = K) (hg : Gl X "zip") (hm : X.mg "zip" = none) (ha : PA X [a,b] ta) (hs : starEach [a,b] X.env = [(false,eval a X.env),(false,eval b X.env)] := by rfl) (hs2 : starEach [b] X.env = [(false,eval b X.env)] := by rfl) : PI X (.Tuple elts n ps) (.Call (.Name "zip" p) [a,b] [] pos) (iZipK K ta) := by
 intro pins s σ H R I h
 subst hK
 refine Call_ (ld_blt I hg hm boot_zip (PyProof.Rows.callWith_type1 (thn (ha pos pins s σ H _ I h) fun us s1 ⟨vs,H1,I1,r1,q1⟩ => ?_) (by rw [hs,hs2]) (by rw [hs2]; rfl)))
 obtain ⟨x,y,rfl,p,q,rfl,rfl,⟨xs,hx⟩,⟨ys,hy⟩,qq⟩ := q1
 cases r1 with
 | cons r rr =>
 cases rr with
 | cons r' rr =>
 cases rr
 obtain ⟨t1,rfl⟩ := p.val_of r
 obtain ⟨t2,rfl⟩ := q.val_of r'
 refine call_zipK p q (p.inH_of I1 hx) (q.inH_of I1 hy) fun h' g1 g2 g3 g4 g5 g7 => wpAny_pyIter_zip g1 ?_
 have I2 : Inv X pins σ H1 { s1 with heap := h' } := I1.kept (t' := s1.toks) g7
 refine ⟨_,[s1.heap.objs.size + 4,s1.heap.objs.size + 2,s1.heap.objs.size + 3,s1.heap.objs.size,s1.heap.objs.size + 1],_,Itk X.K p q,H1,rfl,I2,turn_zipK p q (s1.heap.objs.size + 4) (s1.heap.objs.size + 2) (s1.heap.objs.size + 3) s1.heap.objs.size (s1.heap.objs.size + 1) (ne5 _),⟨g1,g2,⟨_,_,g3⟩,p.it0 g4,q.it0 g5⟩,fun e he => ?_,qq⟩
 have he : s1.heap.objs.size ≤ e := by
  simp only [List.mem_cons,List.not_mem_nil,or_false] at he
  rcases he with rfl | rfl | rfl | rfl | rfl <;> omega
 exact I1.fpOk he (I1.hok.fresh he)
theorem WalkK.for {K : PySem.W.Frag} {p q : Kd} {xs ys : List V} {g : TG} {tb : TS} {D : Ends} {σ : St} {H : Hp} (e : p.has K H xs) (e2 : q.has K H ys) (hxy : xs.length = ys.length) (Pv : Nat → St → Hp → Prop) (h0 : Pv 0 σ H) (hl : ∀ i σ H,i ≤ xs.length → Pv i σ H → p.has K H xs ∧ q.has K H ys)
 (hs : ∀ i x y σ H T H',xs[i]? = some x → ys[i]? = some y → Pv i σ H → Same H H' → H T = none → H' T = some (.tup [x,y]) → g (.ref T) σ H' fun σ2 H2 => tb { D with nx := Pv (i + 1),ct := Pv (i + 1),bk := D.nx } σ2 H2) (hd : ∀ σ H,Pv xs.length σ H → D.nx σ H) : WalkK K p.v q.v H fun J H1 => ForW J g tb D σ H1 := by
 refine ⟨p,q,rfl,rfl,⟨xs,e⟩,⟨ys,e2⟩,fun i m σ H => i + m = xs.length ∧ Pv i σ H,⟨xs.length,by simp,h0⟩,fun i m σ H h => ?_⟩
 obtain ⟨h1,h2⟩ := h
 obtain ⟨ea,eb⟩ := hl i σ H (by omega) h2
 by_cases c : m = 0
 · subst c
   have : i = xs.length := by omega
   subst this
   exact .inl ⟨⟨xs,ys,ea,eb,.inl rfl⟩,hd σ H h2⟩
 · have hi : i < xs.length := by omega
   refine .inr ⟨⟨xs,ys,ea,eb,hi,by omega⟩,Pv (i + 1),fun σ' H' q => ⟨m - 1,by omega,by omega,q⟩,fun x H' y => ?_⟩
   obtain ⟨T,z1,z2,rfl,nT,rfl,hz1,hz2⟩ := y
   exact hs i z1 z2 σ H T _ (hz1 xs ea) (hz2 ys eb) h2 (same_new nT _) nT upd_same
end L2
namespace L2
open PySem PySem.Spec PyProof.Rows
section
variable {prog : Program} {w : World} {A : Around} {s : Shared} {env : Env} {R : Result → Shared → Prop}
noncomputable abbrev NE (prog : Program) (w : World) (A : Around) (env : Env) (R : Result → Shared → Prop) : Value → Shared → Prop := notedBy (model prog w) A env fun e s' => R (.error e) s'
theorem compLoop2 {elt iter : Expr} {ts ifs : List Expr} {kt : Nat} {tp pos : Pos} {scope : Scope} {it acc : Value} (J : Nat → Shared → Prop)
 (step : ∀ n s,J n s → wpAny (model prog w) A (pyNext it) (fun r a => match r with
   | none => R (.ok .next) a
   | some v => wpAny (model prog w) A (letOwnedTupleGo (.Tuple ts kt tp) it v) (fun _ a1 => wpAny (model prog w) A (assign (.Tuple ts kt tp) env v) (fun _ b =>
    wpAny (model prog w) A (forIn ifs true fun c r => if r = true then do let ok ← isTrue c env (eval c env); pure (ForInStep.yield ok) else pure (ForInStep.yield r)) (fun ok c =>
     if ok = true then wpAny (model prog w) A (eval elt env) (fun x d => wpAny (model prog w) A (call (.builtin "list.append") [acc,x]) (fun _ e => ∃ m,m < n ∧ J m e) (NE prog w A env R) d) (NE prog w A env R) c
     else ∃ m,m < n ∧ J m c) (NE prog w A env R) b) (NE prog w A env R) a1) (NE prog w A env R) a) (NE prog w A env R) s)
 (n : Nat) (h : J n s) : codeAny (model prog w) A (.compLoop (.ListComp elt [⟨.Tuple ts kt tp,iter,ifs,0⟩] scope pos) 0 it acc env) R s := by
 refine codeAny_loop rfl J (fun n s hJ => (show wpAny _ A ((compTurn (.ListComp elt [⟨.Tuple ts kt tp,iter,ifs,0⟩] scope pos) 0 it acc env).onRaise (fun x => do noteFrame x env; theTreesLotGoes x)) _ _ s from wpAny_noted ?_)) n h
 rw [compTurn_list]
 have id2 : ∀ {Y : Value → Shared → Prop} (x : Value) (a : Shared),Y x a → Y x a := fun _ _ z => z
 refine wpAny_bind (wpAny_standAt (wpAny_bind (wpAny_mono (step n s hJ) (fun r a p => ?_) id2)))
 cases r with
 | none => exact wpAny_pure p
 | some v =>
  refine wpAny_bind (wpAny_mono p (fun _ a1 p1 => wpAny_bind (wpAny_mono p1 (fun _ b p2 => wpAny_bind (wpAny_mono p2 (fun ok c p3 => ?_) id2)) id2)) id2)
  cases ok with
  | false => exact wpAny_pure ⟨rfl,p3⟩
  | true => exact wpAny_bind (wpAny_bind (wpAny_mono p3 (fun x d p4 => wpAny_bind (wpAny_mono p4 (fun _ e p5 => wpAny_pure (wpAny_pure ⟨rfl,p5⟩)) id2)) id2))
end
structure CS2 (X : Cx) (scope : Scope) (x y : Str) (N : List Str) (caps : List Nat) : Prop where
 kind : scope.kind = .function
 nocellB : (scope.names.all fun y => y.2 != NameKind.cell) = true
 namesB : (scope.names.all fun y => y.2 != NameKind.local || scope.names.lookup y.1 == some NameKind.local) = true
 lx : scope.names.lookup x = some .local
 ly : scope.names.lookup y = some .local
 nd : N.Nodup
 n0 : N[0]? = some x
 n1 : N[1]? = some y
 capN : caps.map (fun j => X.N[j]?) = (N.drop 2).map some
 capFB : ((N.drop 2).all fun y => scope.names.lookup y == some NameKind.free) = true
 freesB : (scope.names.all fun y => y.2 != NameKind.free || X.env.scope.names.lookup y.1 == some NameKind.cell || X.env.scope.names.lookup y.1 == some NameKind.free) = true
theorem CS2.shape {X : Cx} {scope : Scope} {x y : Str} {N : List Str} {caps : List Nat} (S : CS2 X scope x y N caps) : ∃ r,N = x :: y :: r := by
 have h0 := S.n0
 have h1 := S.n1
 cases N with
 | nil => cases h0
 | cons a r =>
  cases r with
  | nil => cases h1
  | cons b r => cases h0; cases h1; exact ⟨r,rfl⟩
theorem CS2.c {X : Cx} {scope : Scope} {x y : Str} {N : List Str} {caps : List Nat} (S : CS2 X scope x y N caps) : CSc X scope x (x :: N.drop 2) caps := by
 obtain ⟨r,e⟩ := S.shape
 refine ⟨S.kind,S.nocellB,S.namesB,S.lx,?_,rfl,S.capN,S.capFB,S.freesB⟩
 have h := S.nd
 rw [e] at h ⊢
 simp only [List.nodup_cons,List.mem_cons,not_or] at h
 exact List.nodup_cons.mpr ⟨h.1.2,h.2.2⟩
noncomputable def blkS2 (caps : List Nat) (σ : St) (o p : Option V) : St := o :: p :: caps.map fun j => (σ[j]?).join
section
variable {X : Cx} {pins : List (Addr × Obj)} {σ : St} {H : Hp} {s : Shared} {scope : Scope} {x y : Str} {N : List Str} {caps : List Nat} {fp : List Addr}
theorem CS2.len (S : CS2 X scope x y N caps) : N.length = caps.length + 2 := by
 obtain ⟨r,e⟩ := S.shape
 have h := S.c.len
 rw [e] at h ⊢
 simpa using h
theorem CS2.at (S : CS2 X scope x y N caps) {i : Nat} {z : Str} (h : N[i + 2]? = some z) : ∃ j,caps[i]? = some j ∧ X.N[j]? = some z ∧ scope.names.lookup z = some .free := by
 obtain ⟨r,e⟩ := S.shape
 refine S.c.at (i := i) ?_
 rw [e] at h ⊢
 simpa using h
theorem blk_ok2 (S : CS2 X scope x y N caps) (I : Inv X pins σ H s) (hf : ∀ b ∈ fp,FpOk X pins H b) (hlt : ∀ b ∈ fp,b < s.heap.objs.size) :
 (blk X N scope (s.heap.objs.size + 1) s H (s.heap.objs.size :: fp)).Ok := by
 have o := blk_ok S.c I hf hlt
 exact ⟨o.mod,o.kind,o.glob,o.blt,o.above,o.inj,o.has,o.cab,o.hd,o.frames,o.stk,o.exf,o.bs,o.bsz,o.noex,o.exfs,o.funs,o.frf⟩
theorem blk_inv2 (S : CS2 X scope x y N caps) (I : Inv X pins σ H s) (hf : ∀ b ∈ fp,FpOk X pins H b) (hlt : ∀ b ∈ fp,b < s.heap.objs.size) {h₁ : Heap} {m : Str → Option Value} {tk : Nat}
 (hns : h₁.Ns (s.heap.objs.size + 1) m) (old : ∀ b o,s.heap.get? b = some o → h₁.get? b = some o) :
 Inv (blk X N scope (s.heap.objs.size + 1) s H (s.heap.objs.size :: fp)) [] (blkS2 caps σ none none) H { s with heap := h₁,toks := tk } where
 ok := blk_ok2 S I hf hlt
 os := rfl
 bare := I.bare
 base := Un.kept old
 loc := ⟨m,hns,fun i y v e1 e2 _ => by
  cases i with
  | zero => simp [blkS2] at e2
  | succ i =>
  cases i with
  | zero => simp [blkS2] at e2
  | succ i =>
   obtain ⟨j,hj,hX,hfree⟩ := S.at e1
   have e2' : (σ[j]?).join = some v := by
    simp only [blkS2,List.getElem?_cons_succ,List.getElem?_map,hj,Option.map_some] at e2
    exact Option.some.inj e2
   have e3 : σ[j]? = some (some v) := by
    cases hh : σ[j]? with
    | none => rw [hh] at e2'; simp at e2'
    | some o => rw [hh] at e2'; simp at e2'; rw [e2']
   obtain ⟨m₂,_,hl⟩ := I.loc
   have hk := S.c.frees _ (lookup_mem hfree) rfl
   obtain ⟨u,r,l⟩ := hl j y v hX e3 (by
    rcases hk with k | k
    · exact .inr (.inl k)
    · exact .inr (.inr k))
   refine ⟨u,r,.inr ?_⟩
   rcases l with ⟨k,_⟩ | ⟨_,c,hc,hcell⟩
   · rcases hk with k' | k' <;> (rw [k] at k'; cases k')
   · obtain ⟨o,ho,hd⟩ := hcell
     exact ⟨relabel_free hfree,c,closOf_has (lookup_mem hfree) hc,o,old _ _ ho,hd⟩⟩
 cell := fun y c e => by
  obtain ⟨v,o,ho,hd⟩ := I.cell y c (closOf_sound e)
  exact ⟨v,o,old _ _ ho,hd⟩
 free := I.hok.fresh (Nat.le_succ _)
 freeC := fun y c e => I.freeC y c (closOf_sound e)
 pin := fun p hp => by
  have : p ∈ ([] : List (Addr × Obj)) := hp
  simp at this
 hok := I.hok.kept old
 len := by
  show (blkS2 caps σ none none).length = N.length
  rw [S.len]; simp [blkS2]
noncomputable def wComp2 (K : PySem.W.Frag) (J : It) (caps : List Nat) (tc : TT) (te : TE) (σ : St) (H1 : Hp) (Q : VK) : Prop :=
 ∃ W : Nat → Nat → List V → Hp → Prop,(∃ m,W 0 m [] H1) ∧ ∀ i m ys H,W i m ys H →
  (J.stop i H ∧ ∀ p,H p = none → Q (.ref p) (upd H p (.lst ys))) ∨
  (J.go i H ∧ ys.length < sizeLine ∧ ∃ N : List V → Hp → Prop,(∀ ys' H',N ys' H' → ∃ m',m' < m ∧ W (i + 1) m' ys' H') ∧ ∀ v H',J.yld i H v H' →
    ∃ T a b,v = .ref T ∧ SqT K H' T [a,b] ∧ tc (blkS2 caps σ (some a) (some b)) H' fun c H2 => if c = true then te (blkS2 caps σ (some a) (some b)) H2 fun y H3 => N (ys ++ [y]) H3 else N ys H2)
noncomputable def tComp2 (K : PySem.W.Frag) (wi : TI) (caps : List Nat) (tc : TT) (te : TE) : TE := fun σ H Q => wi σ H fun J H1 => wComp2 K J caps tc te σ H1 Q
theorem comp_block2 {elt iter : Expr} {px py pt pos : Pos} {kx : Nat} {ifs : List Expr} {tc : TT} {te : TE} {J : It} {it : Addr} {tn : Nat → Heap → Prop} {Q : VK} {RR : Value → Addr → Result → Shared → Prop} {E : Value → Shared → Prop}
 (hcalm : X.calm = true) (S : CS2 X scope x y N caps) (hc : ∀ C s H ex,PIfs (blk X N scope C s H ex) ifs tc) (he : ∀ C s H ex,PE (blk X N scope C s H ex) elt te)
 (I : Inv X pins σ H s) (T : Turn X.prog X.w X.K (.Tuple [.Name x px,.Name y py] kx pt) J fp it tn) (t0 : tn 0 s.heap) (hf : ∀ b ∈ fp,FpOk X pins H b) (wc : wComp2 X.K J caps tc te σ H Q)
 (fin : ∀ D C s' m' H' ys,Inv X pins σ (upd H' D (.lst ys)) s' → Q (.ref D) (upd H' D (.lst ys)) → s'.heap.Ns C m' → FpOk X pins (upd H' D (.lst ys)) C → C ≠ X.env.locals → RR (.ref D) C (.ok .next) s') :
 wpAny (model X.prog X.w) X.A (newList []) (fun acc s₃ => wpAny (model X.prog X.w) X.A (newFunctionEnv scope X.env.globals (closOf X.env.cells scope.names) [] X.env.qual none .none (some X.env)) (fun cenv s₄ =>
  codeAny (model X.prog X.w) X.A (.compStart (.ListComp elt [⟨.Tuple [.Name x px,.Name y py] kx pt,iter,ifs,0⟩] scope pos) 0 (.ref it) acc { cenv with scope := relabel scope X.env }) (RR acc cenv.locals) s₄) E s₃) E s := by
 refine wpAny_newObj_type (wpAny_newFunctionEnv S.c.nocell (by intro y hy; simp at hy) (fun h₁ hns₁ hsb₁ => ?_) S.kind)
 dsimp only at hns₁ hsb₁ ⊢
 generalize hH2 : s.heap.push { cls := .type "list",dict := none,data := .seq ([] : List Value).toArray } = H2 at hns₁ hsb₁ ⊢
 have hC : H2.objs.size = s.heap.objs.size + 1 := by rw [← hH2,Heap.size_push]
 have hDC : s.heap.objs.size ≠ H2.objs.size := by rw [hC]; exact Nat.ne_of_lt (Nat.lt_succ_self _)
 have below : ∀ b,b < s.heap.objs.size → b ≠ H2.objs.size := fun b hb => by rw [hC]; exact Nat.ne_of_lt (Nat.lt_succ_of_lt hb)
 have old : ∀ b o,s.heap.get? b = some o → h₁.get? b = some o := fun b o e => hsb₁.extBut b o (below b (Heap.lt_size e)) (Heap.get?_push_of_some _ (hH2 ▸ Heap.get?_push_of_some _ e))
 have hacc : h₁.get? s.heap.objs.size = some (lobj [] 0) := hsb₁.extBut _ _ hDC (Heap.get?_push_of_some _ (hH2 ▸ Heap.get?_push_size _ rfl))
 have hlt : ∀ b ∈ fp,b < s.heap.objs.size := fun b hb => by
  obtain ⟨o,e,_⟩ := T.obj 0 _ t0 b hb
  exact Heap.lt_size e
 have hDfp : s.heap.objs.size ∉ fp := fun z => Nat.lt_irrefl _ (hlt _ z)
 have hDok : FpOk X pins H s.heap.objs.size := I.fpOk (Nat.le_refl _) (I.hok.fresh (Nat.le_refl _))
 have hCok : FpOk X pins H H2.objs.size := I.fpOk (by rw [hC]; exact Nat.le_succ _) (I.hok.fresh (by rw [hC]; exact Nat.le_succ _))
 rw [hC] at hns₁ hDC hCok ⊢
 clear hC
 generalize hD : s.heap.objs.size = D at hacc hDfp hDok hDC
 have IY := blk_inv2 S I hf hlt (h₁ := h₁) (tk := s.toks + ([] : List (Str × Value)).length) hns₁ old
 rw [hD] at IY hns₁ hCok
 generalize hY : blk X N scope (D + 1) s H (D :: fp) = Y at IY
 have envY : Y.env = compEnvC scope (closOf X.env.cells scope.names) (D + 1) X.env := by rw [← hY]; rfl
 have exY : Y.ex = D :: fp := by rw [← hY]; rfl
 have fsY : Y.fs = frs X.stack := by rw [← hY]; rfl
 have pnY : Y.pn = [] := by rw [← hY]; rfl
 have locY : Y.env.locals = D + 1 := by rw [envY]; rfl
 have hcY : PIfs Y ifs tc := by rw [← hY]; exact hc _ _ _ _
 have heY : PE Y elt te := by rw [← hY]; exact he _ _ _ _
 have prY : Y.prog = X.prog ∧ Y.w = X.w ∧ Y.K = X.K ∧ Y.calm = X.calm ∧ Y.A = X.A ∧ Y.N = N ∧ Y.xe = fun _ _ => False := by rw [← hY]; exact ⟨rfl,rfl,rfl,rfl,rfl,rfl,rfl⟩
 obtain ⟨pr1,pr2,pr3,pr4,pr5,pr6,pr7⟩ := prY
 have fpY : ∀ {H' : Hp} {pl : List (Addr × Obj)},(∀ b ∈ fp,H' b = none) → (∀ p ∈ pl,p.1 = D) → ∀ b ∈ fp,FpOk Y pl H' b := fun {H' pl} hn hp b hb => by
  refine ⟨hn b hb,?_,?_,.inl (by rw [exY]; exact List.mem_cons_of_mem _ hb),fun y c e => (IY.ok.exf b (by rw [exY]; exact List.mem_cons_of_mem _ hb)).2 y c e,fun p hpp z => ?_⟩
  · exact (IY.ok.exf b (by rw [exY]; exact List.mem_cons_of_mem _ hb)).1
  · exact IY.ok.exfs b (by rw [exY]; exact List.mem_cons_of_mem _ hb)
  · rw [pnY,List.nil_append] at hpp
    exact hDfp (by rw [← hp p hpp,z]; exact hb)
 have hDY : D ∈ Y.ex := by rw [exY]; exact List.mem_cons_self
 have pinD : ∀ {H' : Hp} {s' : Shared} {σ' : St} {its : List Value} {k : Nat},Inv Y [] σ' H' s' → H' D = none → s'.heap.get? D = some (lobj its k) → Inv Y [(D,lobj its k)] σ' H' s' := fun {H' s' σ' its k} I' hn e =>
  I'.pins_of fun p hp => by
   have hp' : p = (D,lobj its k) := by simpa using hp
   subst hp'
   refine ⟨e,hn,(IY.ok.exf D hDY).1,IY.ok.exfs D hDY,fun v z => ?_⟩
   have z' : Data.seq its.toArray k = Data.cell v := z
   cases z'
 obtain ⟨W,⟨m0,w0⟩,turn⟩ := wc
 have loop : ∀ s₃ : Shared,s₃ = { s with heap := h₁,toks := s.toks + ([] : List (Str × Value)).length } →
  codeAny (model X.prog X.w) X.A (.compLoop (.ListComp elt [⟨.Tuple [.Name x px,.Name y py] kx pt,iter,ifs,0⟩] scope pos) 0 (.ref it) (.ref D) Y.env) (RR (.ref D) (D + 1)) s₃ := by
  rintro s₃ rfl
  refine compLoop2
   (fun n s' => ∃ i ys its k H',Inv Y [(D,lobj its k)] (blkS2 caps σ none none) H' s' ∧ Vals ys its ∧ ys.length ≤ sizeLine ∧ tn i s'.heap ∧ (∀ b ∈ fp,H' b = none) ∧ W i n ys H') ?_ m0
   ⟨0,[],[],0,H,pinD IY hDok.1 hacc,.nil,Nat.zero_le _,T.keep _ _ _ t0 fun b _ o e => old b o e,fun b hb => (hf b hb).1,w0⟩
  rintro n s1 ⟨i,ys,its,k,H1,I1,rv,hl,st1,fr1,w1⟩
  have pin1 : ∀ p ∈ [(D,lobj its k)],p.1 = D := fun p hp => by
   have hp' : p = (D,lobj its k) := by simpa using hp
   rw [hp']
  rcases turn i n ys H1 w1 with ⟨stop,qn⟩ | ⟨go,hsz,Nx,hNx,step⟩
  · have z := T.done Y pr1 pr2 pr3 (pr4.trans hcalm) i [(D,lobj its k)] s1 (blkS2 caps σ none none) H1 (notedBy (model X.prog X.w) X.A Y.env fun e s' => RR (.ref D) (D + 1) (.error e) s') I1 (fpY fr1 pin1) st1 stop
    rw [pr5] at z
    refine thn z fun r s2 ⟨hr,I2⟩ => ?_
    subst hr
    obtain ⟨eD,nD,_,_,_⟩ := I2.pin (D,lobj its k) (List.mem_append_right _ List.mem_cons_self)
    have hU : Un (frs X.stack) (D :: fp) H (upd H1 D (.lst ys)) s.heap s2.heap := by
     have b := I2.base
     rw [fsY,exY] at b
     have b' : Un (frs X.stack) (D :: fp) H H1 s.heap s2.heap := by
      have e1 : Y.H₀ = H := by rw [← hY]; rfl
      have e2 : Y.s₀ = s := by rw [← hY]; rfl
      rw [e1,e2] at b; exact b
     have ne : ∀ a u,H1 a = some u → a ≠ D := fun a u e => ne_of_none e nD
     exact ⟨b'.keep,b'.slot,fun a o e n hx => by rw [upd_ne (fun z => hx (by rw [z]; exact List.mem_cons_self))]; exact b'.free a o e n hx,b'.there,
      fun a xs e => by rw [upd_ne (ne _ _ (b'.tups a xs e))]; exact b'.tups a xs e,fun a o u e => by rw [upd_ne (ne _ _ (b'.frzs a o u e))]; exact b'.frzs a o u e,
      fun a ps e => by obtain ⟨mo,q⟩ := b'.tbls a ps e; exact ⟨mo,by rw [upd_ne (ne _ _ q)]; exact q⟩⟩
    have hHok : HOk X.prog X.w (upd H1 D (.lst ys)) s2.heap := by
     have q := I2.hok
     rw [pr1,pr2] at q
     exact q.adopt nD ⟨hl,its,k,rv,eD⟩
    have IX : Inv X pins σ (upd H1 D (.lst ys)) s2 := I.call' (by have := I2.os; rw [show Y.s₀ = s by rw [← hY]; rfl] at this; exact this) hU hHok I2.bare (fun b hb => by
     rcases List.mem_cons.mp hb with rfl | hb
     · exact ⟨hDok.2.2.2.1,hDok.2.1,hDok.2.2.2.2.1,hDok.2.2.2.2.2⟩
     · have q := hf b hb
       exact ⟨q.2.2.2.1,q.2.1,q.2.2.2.2.1,q.2.2.2.2.2⟩)
    obtain ⟨mC,hnC,_⟩ := I2.loc
    rw [locY] at hnC
    have fC := I2.free
    rw [locY] at fC
    exact fin D (D + 1) s2 mC H1 ys IX (qn D nD) hnC ⟨by rw [upd_ne (fun z => hDC z.symm)]; exact fC,hCok.2⟩ hCok.2.1
  · have z := T.item Y pr1 pr2 pr3 (pr4.trans hcalm) i [(D,lobj its k)] s1 (blkS2 caps σ none none) H1 (NE X.prog X.w X.A Y.env (RR (.ref D) (D + 1))) I1 (fpY fr1 pin1) st1 go
    rw [pr5] at z
    refine thn z fun r s2' z2 => ?_
    obtain ⟨u,hr,z2⟩ := z2
    subst hr
    refine thn z2 fun _ s2 ⟨v,H2,I2,ru,yld,st2,fr2⟩ => ?_
    have I2' := I2.pinned (fpY fr2 pin1) (T.obj _ _ st2)
    have lxY : Y.env.scope.names.lookup x = some .local := by rw [envY]; exact lookup_relabel_local S.lx
    have lyY : Y.env.scope.names.lookup y = some .local := by rw [envY]; exact lookup_relabel_local S.ly
    have g1 := pg_name (X := Y) (i := 0) (x := x) (pos := px) (by rw [pr6]; exact S.nd) (by rw [pr6]; exact S.n0) (.inl lxY) (.inr lxY)
    have g2 := pg_name (X := Y) (i := 1) (x := y) (pos := py) (by rw [pr6]; exact S.nd) (by rw [pr6]; exact S.n1) (.inl lyY) (.inr lyY)
    have g := pg_tup (X := Y) (pos := pt) (k := kx) (n := 2) (pr4.trans hcalm) (pgs_cons g1 (pgs_cons g2 pgs_nil))
    obtain ⟨T1,a1,b1,ev,hT1,stp⟩ := step v H2 yld
    have a := g _ s2 _ H2 v u (fun σ' H' => σ' = blkS2 caps σ (some a1) (some b1) ∧ H' = H2) I2' ru ⟨T1,[a1,b1],ev,by rw [pr3]; exact hT1,rfl,a1,[b1],rfl,b1,[],rfl,rfl,rfl,rfl⟩
    rw [pr1,pr2,pr5,pr7] at a
    refine wpAny_mono a (fun _ s3 ⟨σ3,H3,I3,e1,e2⟩ => ?_) fun _ _ f => f.elim
    subst e1 e2
    have c := hcY _ s3 _ _ _ I3 stp
    rw [pr1,pr2,pr5,pr7] at c
    refine wpAny_mono c (fun b s4 ⟨H4,I4,q4⟩ => ?_) fun _ _ f => f.elim
    have again : ∀ {s5 : Shared} {H5 : Hp} {ys' : List V} {its' : List Value} {k' m' : Nat},Inv Y (pinsAt fp s2.heap) (blkS2 caps σ (some a1) (some b1)) H5 s5 → H5 D = none → s5.heap.get? D = some (lobj its' k') → Vals ys' its' → ys'.length ≤ sizeLine → m' < n → W (i + 1) m' ys' H5 →
     ∃ m,m < n ∧ ∃ i ys its k H',Inv Y [(D,lobj its k)] (blkS2 caps σ none none) H' s5 ∧ Vals ys its ∧ ys.length ≤ sizeLine ∧ tn i s5.heap ∧ (∀ b ∈ fp,H' b = none) ∧ W i m ys H' := fun {s5 H5 ys' its' k' m'} I5 nD eD rv' hl' hm w' => by
     refine ⟨m',hm,i + 1,ys',its',k',H5,pinD ((I5.pins_of fun p hp => by simp at hp).weak (by simp [blkS2]) fun j w hj => ?_) nD eD,rv',hl',T.keep _ _ _ st2 fun b hb o e => (I5.pin (b,o) (List.mem_append_right _ (mem_pinsAt hb e))).1,fun b hb => ?_,w'⟩
     · cases j with
       | zero => simp [blkS2] at hj
       | succ j =>
       cases j with
       | zero => simp [blkS2] at hj
       | succ j => simpa [blkS2] using hj
     · obtain ⟨o,e,d⟩ := T.obj _ _ st2 b hb
       exact (I5.pin (b,o) (List.mem_append_right _ (mem_pinsAt hb e))).2.1
    have drop1 : ∀ {s5 : Shared} {H5 : Hp} {σ5 : St},Inv Y ([(D,lobj its k)] ++ pinsAt fp s2.heap) σ5 H5 s5 → Inv Y (pinsAt fp s2.heap) σ5 H5 s5 := fun I5 => I5.pins_of fun p hp => I5.pin p (List.mem_append_right _ (List.mem_append_right _ hp))
    cases b with
    | false =>
     obtain ⟨m',hm,w'⟩ := hNx _ _ q4
     obtain ⟨eD,nD,_⟩ := I4.pin (D,lobj its k) (List.mem_append_right _ (List.mem_append_left _ List.mem_cons_self))
     exact again (drop1 I4) nD eD rv hl hm w'
    | true =>
     rw [if_pos rfl]
     rw [if_pos rfl] at q4
     have d := heY _ s4 _ H4 _ I4 q4
     rw [pr1,pr2,pr5,pr7] at d
     refine wpAny_mono d (fun w s5 ⟨y,H5,I5,ry,q5⟩ => ?_) fun _ _ f => f.elim
     obtain ⟨m',hm,w'⟩ := hNx _ _ q5
     obtain ⟨eD,nD,_⟩ := I5.pin (D,lobj its k) (List.mem_append_right _ (List.mem_append_left _ List.mem_cons_self))
     refine append_at (hsz := by rw [List.size_toArray,← rv.length]; exact hl) eD fun h6 hs6 hD6 => ?_
     have I6 : Inv Y (pinsAt fp s2.heap) (blkS2 caps σ (some a1) (some b1)) H5 { s5 with heap := h6,toks := s5.toks } := (drop1 I5).turned (fun b o hb e => (hs6.2 b hb).trans e) nD (IY.ok.exf D hDY).1 (.inl hDY) (fun y c e => (IY.ok.exf D hDY).2 y c e) (fun p hp => by
      rw [pnY,List.nil_append] at hp
      intro z
      exact hDfp (by rw [← z]; exact (of_pinsAt hp).1))
     refine again (ys' := ys ++ [y]) (its' := its ++ [w]) (k' := k + 1) I6 nD ?_ (rv.append (.cons ry .nil)) (by rw [List.length_append,List.length_singleton]; exact hsz) hm w'
     rw [hD6]
     show some ({ cls := .type "list",data := .seq (its.toArray.push w) (k + 1) } : Obj) = some { cls := .type "list",data := .seq (its ++ [w]).toArray (k + 1) }
     rw [List.push_toArray]
 rw [envY] at loop
 have st1 : tn 0 h₁ := T.keep _ _ _ t0 fun b _ o e => old b o e
 exact codeAny_compStart_list (loop _ rfl) (T.self _ 0 _ _ _ st1 (loop _ rfl))
theorem pe_comp2 {elt iter : Expr} {px py pt pos : Pos} {kx : Nat} {K : PySem.W.Frag} {ifs : List Expr} {wi : TI} {tc : TT} {te : TE} (hcalm : X.calm = true) (hK : X.K = K) (S : CS2 X scope x y N caps) (hi : PI X (.Tuple [.Name x px,.Name y py] kx pt) iter wi)
 (hc : ∀ C s H ex,PIfs (blk X N scope C s H ex) ifs tc) (he : ∀ C s H ex,PE (blk X N scope C s H ex) elt te) (hs : ∀ x,foldedSetIterable iter X.env x = pure x := by intro _; rfl) :
 PE X (.ListComp elt [⟨.Tuple [.Name x px,.Name y py] kx pt,iter,ifs,0⟩] scope pos) (tComp2 K wi caps tc te) := by
 intro pins s σ H Q I h
 subst hK
 rw [eval_ListComp]
 refine wpAny_comprehension_free (use := none) rfl hs (closureFor_of (S.c.cells I.ok)) S.kind S.c.names (thn (hi pins s σ H _ I h) fun xv s1 h1 => thn h1 fun itv s2 h2 => ?_)
 obtain ⟨it,fp,tn,J,H2,e,I2,T,st2,f2,wc⟩ := h2
 subst e
 refine comp_block2 (RR := fun acc C => compPost (model X.prog X.w) X.A X.xe none (EP X pins σ Q) acc C) hcalm S hc he I2 T st2 f2 wc fun D C s' m' H' ys I' q hn fC _ => ?_
 refine ⟨m',hn,fun h' hs' => ⟨.ref D,upd H' D (.lst ys),?_,rfl,q⟩⟩
 exact I'.turned (t' := s'.toks) (fun b o hb e => (hs'.2 b hb).trans e) fC.1 fC.2.1 fC.2.2.2.1 fC.2.2.2.2.1 fC.2.2.2.2.2
end
theorem a_tComp2 {K : PySem.W.Frag} {wi : TI} {caps : List Nat} {tc : TT} {te : TE} {σ : St} {H : Hp} {Q : VK} : tComp2 K wi caps tc te σ H Q = (wi σ H fun J H1 => wComp2 K J caps tc te σ H1 Q) := (rfl)
theorem Rd.same {H H' : Hp} {a : Addr} {u : HO} (S : Same H H') (r : Rd H a u) : Rd H' a u := by
 rcases r with r | ⟨o,r⟩
 · exact .inl (S _ _ r)
 · exact .inr ⟨o,S _ _ r⟩
theorem Kd.same {K : PySem.W.Frag} {H H' : Hp} {xs : List V} (p : Kd) (S : Same H H') (h : p.has K H xs) : p.has K H' xs := by
 cases p with
 | l a =>
  rcases h with h | h
  · exact .inl (h.same S)
  · exact .inr h
 | t a =>
  rcases h with h | h
  · exact .inl (h.same S)
  · exact .inr h
 | s x => exact h
theorem WalkK.comp {K : PySem.W.Frag} {p q : Kd} {xs zs : List V} {caps : List Nat} {tc : TT} {te : TE} {σ : St} {H : Hp} {Q : VK} (e : p.has K H xs) (e2 : q.has K H zs) (hxy : xs.length = zs.length) (Pv : Nat → List V → Hp → Prop) (h0 : Pv 0 [] H) (hx : xs.length ≤ 100000)
 (hy : ∀ i ys H',Pv i ys H' → ys.length ≤ i)
 (hs : ∀ i x z ys H',xs[i]? = some x → zs[i]? = some z → Same H H' → (∃ H1,Same H H1 ∧ Same H1 H' ∧ Pv i ys H1) → tc (blkS2 caps σ (some x) (some z)) H' fun b H2 => if b = true then te (blkS2 caps σ (some x) (some z)) H2 fun y H3 => Same H H3 ∧ Pv (i + 1) (ys ++ [y]) H3 else Same H H2 ∧ Pv (i + 1) ys H2)
 (hd : ∀ p ys H1 H2,Same H H1 → Same H1 H2 → Pv xs.length ys H1 → H1 p = none → H2 p = some (.lst ys) → Q (.ref p) H2) : WalkK K p.v q.v H fun J H1 => wComp2 K J caps tc te σ H1 Q := by
 refine ⟨p,q,rfl,rfl,⟨xs,e⟩,⟨zs,e2⟩,fun i m ys H' => i + m = xs.length ∧ Same H H' ∧ Pv i ys H',⟨xs.length,by simp,Same.refl _,h0⟩,fun i m ys H' h => ?_⟩
 obtain ⟨h1,S,h2⟩ := h
 by_cases c : m = 0
 · subst c
   have : i = xs.length := by omega
   subst this
   exact .inl ⟨⟨xs,zs,p.same S e,q.same S e2,.inl rfl⟩,fun r n => hd r ys H' _ S (same_new n _) h2 n upd_same⟩
 · have hi : i < xs.length := by omega
   refine .inr ⟨⟨xs,zs,p.same S e,q.same S e2,hi,by omega⟩,Nat.lt_of_le_of_lt (hy _ _ _ h2) (Nat.lt_of_lt_of_le hi (Nat.le_of_lt (small_size hx))),fun ys' H' => Same H H' ∧ Pv (i + 1) ys' H',fun ys' H' z => ⟨m - 1,by omega,by omega,z⟩,fun v H2 y => ?_⟩
   obtain ⟨T,z1,z2,rfl,nT,rfl,hz1,hz2⟩ := y
   refine ⟨T,z1,z2,rfl,SqT.of upd_same,?_⟩
   exact hs i z1 z2 ys _ (hz1 xs (p.same S e)) (hz2 zs (q.same S e2)) (S.trans (same_new nT _)) ⟨H',S,same_new nT _,h2⟩
end L2
namespace L2
open PySem PySem.Spec PyProof.Rows
noncomputable def numL (n : Nat) : List Nat := (Nat.toDigits 10 n).map Char.toNat
noncomputable def numT (n : Nat) : Str := ⟨(numL n).toArray⟩
theorem digit_nat : ∀ a : Fin 10,(Nat.digitChar a.val).toNat = 48 + a.val := by decide
theorem digit_nat' {d : Nat} (h : d < 10) : (Nat.digitChar d).toNat = 48 + d := digit_nat ⟨d,h⟩
theorem numL_lt {n : Nat} (h : n < 10) : numL n = [48 + n] := by unfold numL; rw [Nat.toDigits_of_lt_base h]; simp [digit_nat' h]
theorem numL_ge {n : Nat} (h : 10 ≤ n) : numL n = numL (n / 10) ++ [48 + n % 10] := by unfold numL; rw [Nat.toDigits_of_base_le (by decide) h]; simp [digit_nat' (Nat.mod_lt n (by decide))]
theorem num_facts {n : Nat} (h : n < 10000) : 1 ≤ (numL n).length ∧ (numL n).length ≤ 4 ∧ (∀ c ∈ numL n,48 ≤ c ∧ c ≤ 57) ∧ (numL n = [48] ∨ (numL n).head? ≠ some 48) ∧ True := by
 by_cases c1 : n < 10
 · rw [numL_lt c1]
   refine ⟨by simp,by simp,fun c hc => by simp at hc; omega,?_,trivial⟩
   by_cases z : n = 0
   · left; rw [z]
   · right; simp; omega
 by_cases c2 : n < 100
 · rw [numL_ge (by omega),numL_lt (show n / 10 < 10 by omega)]
   exact ⟨by simp,by simp,fun c hc => by simp at hc; omega,.inr (by simp; omega),trivial⟩
 by_cases c3 : n < 1000
 · rw [numL_ge (by omega),numL_ge (show 10 ≤ n / 10 by omega),numL_lt (show n / 10 / 10 < 10 by omega)]
   exact ⟨by simp,by simp,fun c hc => by simp at hc; omega,.inr (by simp; omega),trivial⟩
 rw [numL_ge (by omega),numL_ge (show 10 ≤ n / 10 by omega),numL_ge (show 10 ≤ n / 10 / 10 by omega),numL_lt (show n / 10 / 10 / 10 < 10 by omega)]
 exact ⟨by simp,by simp,fun c hc => by simp at hc; omega,.inr (by simp; omega),trivial⟩
noncomputable def intT (i : Int) : Str := Str.ofString (toString i)
theorem intT_nat (n : Nat) : intT n = numT n := by
 unfold intT numT numL
 show Str.ofString (Nat.repr n) = _
 unfold Nat.repr
 exact PySem.W.Fast.ofString_ofList _
noncomputable def rIntT : List V → Hp → VK → Prop := fun xs H Q => ∃ n : Nat,xs = [.str (numT n)] ∧ n < 10000 ∧ Q (.int n) H
theorem call_intT {X : Cx} : CallR X (.type "int") rIntT := by
 intro pins s σ H xs us Q I r h
 obtain ⟨n,rfl,hn,q⟩ := h
 obtain ⟨u,rfl,t,rfl⟩ := vals1 r
 rw [← intT_nat]
 exact PySem.W.KIN.call_num (n := (n : Int)) (by omega) (by omega) ⟨.int n,H,I.tok _,⟨_,rfl⟩,q⟩
theorem a_rIntT {xs : List V} {H : Hp} {Q : VK} : rIntT xs H Q = (∃ n : Nat,xs = [.str (numT n)] ∧ n < 10000 ∧ Q (.int n) H) := (rfl)
noncomputable def rStr : List V → Hp → VK → Prop := fun xs H Q => (∃ z,xs = [.str z] ∧ Q (.str z) H) ∨ ∃ i : Int,xs = [.int i] ∧ i.natAbs.log2 < 1900 ∧ Q (.str (intT i)) H
theorem call_strV {X : Cx} : CallR X (.type "str") rStr := by
 intro pins s σ H xs us Q I r h
 rcases h with ⟨z,rfl,q⟩ | ⟨i,rfl,hi,q⟩
 · obtain ⟨u,rfl,t,rfl⟩ := vals1 r
   exact P.str_of_str ⟨.str z,H,I,⟨_,rfl⟩,q⟩
 · obtain ⟨u,rfl,t,rfl⟩ := vals1 r
   exact P.str_of_int (by omega) ⟨.str _,H,I.tok _,⟨_,rfl⟩,q⟩
theorem a_rStr {xs : List V} {H : Hp} {Q : VK} : rStr xs H Q = ((∃ z,xs = [.str z] ∧ Q (.str z) H) ∨ ∃ i : Int,xs = [.int i] ∧ i.natAbs.log2 < 1900 ∧ Q (.str (intT i)) H) := (rfl)
end L2
namespace L2
open PySem PySem.Spec PyProof.Rows
open PySem.Builtin.Str PySem.StrLaws
theorem callSplit {prog : Program} {w : World} {A : Around} {E : Value → Shared → Prop} {s : Shared} {x y : Str} {t u : Tok} {Q : Value → Shared → Prop} (hy : (y.length == 0) = false) (hx : x.length + 2 ≤ sizeLine)
 (q : ∀ (l : List (Str × Tok)) (k : Nat),l.map (·.1) = Txt.split x y → Q (.ref s.heap.objs.size) { s with toks := k,heap := s.heap.push { cls := .type "list",data := .seq (strValues l).toArray } }) :
 wpAny (model prog w) A (call (.builtin "str.split") [.str x t,.str y u]) Q E s := by
 have ln := split_le x y
 have one : Txt.split x y = [x] → Q (.ref s.heap.objs.size) { s with toks := s.toks,heap := s.heap.push { cls := .type "list",data := .seq (strValues [(x,t)]).toArray } } := fun e => q [(x,t)] s.toks e.symm
 unfold Txt.split at ln one q
 cases c1 : (decide (x.length < y.length) || decide (strKind x < strKind y)) with
 | true =>
  rw [c1,if_pos rfl] at one
  exact call_meets F.slot_str_split (typeIs_str _ _ _) F.entry_str_split (F.args_str_split_2 _ _) (meets_str_split_cannot_occur x y t u c1) (one rfl)
 | false =>
  simp only [c1,Bool.false_eq_true,if_false] at ln one q
  cases c2 : (occurrences x y 0 x.length (x.length + 1)).isEmpty with
  | true =>
   rw [c2,if_pos rfl] at one
   exact call_meets F.slot_str_split (typeIs_str _ _ _) F.entry_str_split (F.args_str_split_2 _ _) (meets_str_split_not_found x y t u c1 hy c2) (one rfl)
  | false =>
   simp only [c2,Bool.false_eq_true,if_false] at ln q
   refine call_meets F.slot_str_split (typeIs_str _ _ _) F.entry_str_split (F.args_str_split_2 _ _) (meets_str_split_sep x y t u c1 hy c2 (by omega) (by omega)) ?_
   have := q (numbered s.toks (partsBetween x (occurrences x y 0 x.length (x.length + 1)) y.length)) (s.toks + (partsBetween x (occurrences x y 0 x.length (x.length + 1)) y.length).length) (numbered_texts _ _)
   rw [← strsFrom_eq] at this
   exact this
theorem valsOf (l : List (Str × Tok)) : Vals ((l.map (·.1)).map V.str) (strValues l) := by
 induction l with
 | nil => exact .nil
 | cons a l ih => exact .cons ⟨a.2,rfl⟩ ih
noncomputable def rSplit : V → List V → Hp → VK → Prop := fun x xs H Q => ∃ z y,x = .str z ∧ xs = [.str y] ∧ y.length ≠ 0 ∧ z.length ≤ 100000 ∧ NewO H (.lst ((Txt.split z y).map V.str)) Q
theorem mt_split {X : Cx} : MtR X "str.split" rSplit := by
 intro pins s σ H x xs v us Q I rx rs h
 obtain ⟨z,y,rfl,rfl,hy,hz,q⟩ := h
 obtain ⟨t,rfl⟩ := rx
 obtain ⟨u,rfl,t2,rfl⟩ := vals1 rs
 have hb : (100002 : Nat) ≤ sizeLine := by decide
 refine callSplit (beq_eq_false_iff_ne.mpr hy) (by omega) fun l k e => ?_
 have hl : ((Txt.split z y).map V.str).length ≤ sizeLine := by rw [List.length_map]; have := split_le z y; omega
 refine ⟨.ref s.heap.objs.size,upd H s.heap.objs.size (.lst ((Txt.split z y).map V.str)),?_,rfl,q _ (I.hok.fresh (Nat.le_refl _))⟩
 refine I.laid (t' := k) (fun b o g => Heap.get?_push_of_some _ g) (Nat.le_refl _) ⟨hl,strValues l,0,by rw [← e]; exact valsOf l,Heap.get?_push_size _ rfl⟩
theorem a_rSplit {x : V} {xs : List V} {H : Hp} {Q : VK} : rSplit x xs H Q = (∃ z y,x = .str z ∧ xs = [.str y] ∧ y.length ≠ 0 ∧ z.length ≤ 100000 ∧ NewO H (.lst ((Txt.split z y).map V.str)) Q) := (rfl)
noncomputable def jn (m : List Nat) : List (List Nat) → List Nat
 | [] => []
 | [d] => d
 | d :: e :: r => d ++ m ++ jn m (e :: r)
theorem jn_cps (sep : Str) : ∀ ds : List Str,(Str.join sep ds).cps.toList = jn sep.cps.toList (ds.map fun d => d.cps.toList)
 | [] => rfl
 | [d] => rfl
 | d :: e :: r => by
  show (d ++ sep ++ Str.join sep (e :: r)).cps.toList = _
  simp only [Str.cps_append,Array.toList_append,jn_cps sep (e :: r),List.map_cons,jn]
theorem free_cut {c : Nat} : ∀ {a b X Y : List Nat},c ∉ a → c ∉ b → a ++ c :: X = b ++ c :: Y → a = b ∧ X = Y
 | [],[],X,Y,_,_,h => by simpa using h
 | [],d :: b,X,Y,_,hb,h => by simp at h; simp at hb; exact absurd h.1 hb.1
 | d :: a,[],X,Y,ha,_,h => by simp at h; simp at ha; exact absurd h.1.symm ha.1
 | d :: a,e :: b,X,Y,ha,hb,h => by
  simp only [List.cons_append,List.cons.injEq] at h
  simp only [List.mem_cons,not_or] at ha hb
  obtain ⟨h1,h2⟩ := free_cut ha.2 hb.2 h.2
  exact ⟨by rw [h.1,h1],h2⟩
theorem jn_inj {c : Nat} {r : List Nat} : ∀ {ds es : List (List Nat)},ds ≠ [] → es ≠ [] → (∀ d ∈ ds,c ∉ d) → (∀ d ∈ es,c ∉ d) → jn (c :: r) ds = jn (c :: r) es → ds = es
 | [],_,h,_,_,_,_ => absurd rfl h
 | _,[],_,h,_,_,_ => absurd rfl h
 | [d],[e],_,_,_,_,h => by rw [show d = e from h]
 | [d],e :: f :: q,_,_,hd,_,h => by
  have h : d = e ++ (c :: r) ++ jn (c :: r) (f :: q) := h
  exact absurd (by rw [h]; simp) (hd d (by simp))
 | d :: f :: q,[e],_,_,_,he,h => by
  have h : d ++ (c :: r) ++ jn (c :: r) (f :: q) = e := h
  exact absurd (by rw [← h]; simp) (he e (by simp))
 | d :: f :: q,e :: g :: p,_,_,hd,he,h => by
  have h : d ++ (c :: r) ++ jn (c :: r) (f :: q) = e ++ (c :: r) ++ jn (c :: r) (g :: p) := h
  simp only [List.append_assoc,List.cons_append] at h
  obtain ⟨h1,h2⟩ := free_cut (hd d (by simp)) (he e (by simp)) h
  have h2 := List.append_cancel_left h2
  rw [h1,jn_inj (by simp) (by simp) (fun x hx => hd x (by simp [List.mem_cons.mp hx])) (fun x hx => he x (by simp [List.mem_cons.mp hx])) h2]
noncomputable def marks (c : Nat) (r L : List Nat) : Prop := ∀ k,L[k]? = some c → (L.drop k).take (r.length + 1) = c :: r
theorem marks_jn {c : Nat} {r : List Nat} (hr : c ∉ r) : ∀ {ds : List (List Nat)},(∀ d ∈ ds,c ∉ d) → marks c r (jn (c :: r) ds)
 | [],_,k,h => by simp [jn] at h
 | [d],hd,k,h => absurd (List.mem_of_getElem? h) (hd d (by simp))
 | d :: e :: q,hd,k,h => by
  have ih := marks_jn hr (ds := e :: q) fun x hx => hd x (by simp [List.mem_cons.mp hx])
  have eq : jn (c :: r) (d :: e :: q) = d ++ ((c :: r) ++ jn (c :: r) (e :: q)) := by simp [jn]
  rw [eq] at h ⊢
  by_cases c1 : k < d.length
  · rw [List.getElem?_append_left c1] at h
    exact absurd (List.mem_of_getElem? h) (hd d (by simp))
  · rw [List.getElem?_append_right (by omega)] at h
    rw [List.drop_append,List.drop_eq_nil_of_le (by omega),List.nil_append]
    generalize k - d.length = j at h
    by_cases c2 : j < (c :: r).length
    · rw [List.getElem?_append_left c2] at h
      cases j with
      | zero =>
       rw [List.drop_zero]
       exact List.take_left' (by simp)
      | succ j =>
       rw [List.getElem?_cons_succ] at h
       exact absurd (List.mem_of_getElem? h) hr
    · rw [List.getElem?_append_right (by omega)] at h
      rw [List.drop_append,List.drop_eq_nil_of_le (by omega),List.nil_append]
      exact ih _ h
theorem part_no {x y : Str} {c a b : Nat} (hp : ∀ k,x.cps.toList[k]? = some c → At x y x.length k) (hn : ∀ k,a ≤ k → k < b → ¬ At x y x.length k) : c ∉ (strSub x a b).cps.toList := fun hm => by
 rw [strSub_toList] at hm
 obtain ⟨j,hj⟩ := List.getElem?_of_mem hm
 have hlt : j < b - a := by
  have h1 := (List.getElem?_eq_some_iff.mp hj).1
  simp at h1; omega
 rw [List.getElem?_take_of_lt hlt,List.getElem?_drop] at hj
 exact hn (a + j) (by omega) (by omega) (hp _ hj)
theorem parts_no {x y : Str} {c : Nat} (hp : ∀ k,x.cps.toList[k]? = some c → At x y x.length k) : ∀ (cuts : List Nat) (a f : Nat),ChainG x y x.length a cuts f → (∀ k,f ≤ k → ¬ At x y x.length k) → ∀ p ∈ partsFrom x y.length a cuts,c ∉ p.cps.toList
 | [],a,f,h,hn,p,hm => by
  have h : f = a := h
  subst h
  rw [List.mem_singleton.mp hm]
  exact part_no hp fun k h1 _ => hn k h1
 | d :: r,a,f,h,hn,p,hm => by
  rcases List.mem_cons.mp hm with rfl | hm
  · exact part_no hp h.2.2.1
  · exact parts_no hp r _ f h.2.2.2 hn p hm
theorem split_no {x y : Str} {c : Nat} (hy : 1 ≤ y.length) (hk : PySem.Builtin.Str.strKind y = 1) (hp : ∀ k,x.cps.toList[k]? = some c → At x y x.length k) : ∀ p ∈ Txt.split x y,c ∉ p.cps.toList := by
 obtain ⟨f,hG,hn⟩ := occ_tight x y hy
 have none : (∀ k,¬ At x y x.length k) → c ∉ x.cps.toList := fun h hm => by
  obtain ⟨j,hj⟩ := List.getElem?_of_mem hm
  exact h j (hp j hj)
 have kx : 1 ≤ PySem.Builtin.Str.strKind x := by unfold PySem.Builtin.Str.strKind; split; omega; split <;> omega
 unfold Txt.split
 split
 · rename_i h
   intro p hm
   rw [List.mem_singleton.mp hm]
   refine none fun k hA => ?_
   have := hA.1
   simp only [Bool.or_eq_true,decide_eq_true_eq] at h
   omega
 · split
   · rename_i h
     intro p hm
     rw [List.mem_singleton.mp hm]
     rw [List.isEmpty_iff.mp h] at hG
     have : f = 0 := hG
     exact none fun k hA => hn k (by omega) hA
   · rw [partsBetween_eq]
     exact parts_no hp _ 0 f hG hn
theorem split_ne (x y : Str) : Txt.split x y ≠ [] := fun e => by
 have := split_pos x y
 rw [e] at this
 simp at this
theorem split_join {c : Nat} {r : List Nat} (ds : List Str) (hr : c ∉ r) (hk : PySem.Builtin.Str.strKind (⟨(c :: r).toArray⟩ : Str) = 1) (h0 : ds ≠ []) (hd : ∀ d ∈ ds,c ∉ d.cps.toList) : Txt.split (Txt.join ⟨(c :: r).toArray⟩ ds) ⟨(c :: r).toArray⟩ = ds := by
 have ej : Txt.join (⟨(c :: r).toArray⟩ : Str) ds = Str.join ⟨(c :: r).toArray⟩ ds := glued_eq_join _ _
 rw [ej]
 generalize hx : Str.join (⟨(c :: r).toArray⟩ : Str) ds = x
 have ex : x.cps.toList = jn (c :: r) (ds.map fun d => d.cps.toList) := by rw [← hx,jn_cps]
 have hds : ∀ d ∈ ds.map (fun d : Str => d.cps.toList),c ∉ d := fun d h => by
  obtain ⟨e,he,rfl⟩ := List.mem_map.mp h
  exact hd e he
 have mk := marks_jn hr hds
 rw [← ex] at mk
 have lx : x.cps.toList.length = x.length := by simp [Str.length]
 have ly : (⟨(c :: r).toArray⟩ : Str).length = r.length + 1 := by simp [Str.length]
 have hp : ∀ k,x.cps.toList[k]? = some c → At x ⟨(c :: r).toArray⟩ x.length k := fun k h => by
  have e := mk k h
  refine ⟨?_,?_⟩
  · have := congrArg List.length e
    simp at this
    rw [ly,← lx]
    simp only [Array.length_toList] at this ⊢
    omega
  · rw [subAt_eq,ly,e]; simp
 have no := split_no (x := x) (y := ⟨(c :: r).toArray⟩) (by rw [ly]; omega) hk hp
 have js := join_split x ⟨(c :: r).toArray⟩
 have ne := split_ne x ⟨(c :: r).toArray⟩
 generalize Txt.split x ⟨(c :: r).toArray⟩ = ps at no js ne
 have e2 : jn (c :: r) (ps.map fun d => d.cps.toList) = jn (c :: r) (ds.map fun d => d.cps.toList) := by rw [← ex,← js,jn_cps]
 have e3 := jn_inj (by simpa using ne) (by simpa using h0) (fun d h => by
  obtain ⟨e,he,rfl⟩ := List.mem_map.mp h
  exact no e he) hds e2
 exact List.map_inj_right (fun a b h => Str.ext' (Array.toList_inj.mp h)) |>.mp e3
theorem len_jn (m : List Nat) : ∀ ds : List (List Nat),(jn m ds).length ≤ (ds.map List.length).sum + ds.length * m.length
 | [] => by simp [jn]
 | [d] => by simp [jn]
 | d :: e :: r => by
  have := len_jn m (e :: r)
  simp only [jn,List.length_append,List.map_cons,List.sum_cons,List.length_cons,Nat.add_mul] at this ⊢
  omega
end L2
namespace L2
open PySem PySem.Spec PyProof.Rows
noncomputable def KD (P : Program) (w : World) (K : PySem.W.Frag) (a : Addr) (kvs : List (Key × V)) : Prop :=
 (a == sysModules) = false ∧ ∃ o es ep vs,K.lookup a = some o ∧ o.ExactDict ∧ o.data = .dict es ep ∧ KeysOf (mixKind P w) es ∧ Pairs (mixKind P w) es.toList vs ∧ (vs.map (·.1)).Nodup ∧ KV kvs vs
noncomputable def KTup (K : PySem.W.Frag) (a : Addr) (xs : List V) : Prop := ∃ (o : Obj) (its : Array Value) (n : Nat),K.lookup a = some o ∧ o.cls = .type "tuple" ∧ o.data = .seq its n ∧ its.size ≤ sizeLine ∧ Vals xs its.toList
theorem KTup.sq {K : PySem.W.Frag} {a : Addr} {xs : List V} (h : KTup K a xs) (H : Hp) : SqT K H a xs := .inr h
theorem KD.at {P : Program} {w : World} {K : PySem.W.Frag} {a : Addr} {kvs : List (Key × V)} {h : Heap} (d : KD P w K a kvs) (k : K.In h) : ∃ vs,KV kvs vs ∧ h.DictOf (mixKind P w) a vs := by
 obtain ⟨_,o,es,ep,vs,l,h1,h2,h3,h4,h5,h6⟩ := d
 exact ⟨vs,h6,o,es,ep,k _ _ l,h1,h2,h3,h4,h5⟩
noncomputable def tKGet (kvs : List (Key × V)) (ty : TE) : TE := fun σ H Q => ty σ H fun y H1 => ∃ k v,y = kV k ∧ valV kvs k = some v ∧ Q v H1
noncomputable def tKNotIn (kvs : List (Key × V)) (ty : TE) : TE := fun σ H Q => ty σ H fun y H1 => ∃ k,y = kV k ∧ Q (.bl (!(valV kvs k).isSome)) H1
theorem a_tKGet {kvs : List (Key × V)} {ty : TE} {σ : St} {H : Hp} {Q : VK} : tKGet kvs ty σ H Q = (ty σ H fun y H1 => ∃ k v,y = kV k ∧ valV kvs k = some v ∧ Q v H1) := (rfl)
theorem a_tKNotIn {kvs : List (Key × V)} {ty : TE} {σ : St} {H : Hp} {Q : VK} : tKNotIn kvs ty σ H Q = (ty σ H fun y H1 => ∃ k,y = kV k ∧ Q (.bl (!(valV kvs k).isSome)) H1) := (rfl)
section
variable {X : Cx} {i : Expr} {n : Str} {p pos : Pos} {ty : TE} {a : Addr} {kvs : List (Key × V)}
theorem pe_kget (d : KD X.prog X.w X.K a kvs) (hg : Gl X n) (hm : X.mg n = some (.ref a)) (hi : PE X i ty) (hs : NoSl i) (hd : (n == ("__debug__" : Str)) = false := by decide) : PE X (.Subscript (.Name n p) i pos) (tKGet kvs ty) := by
 intro pins s σ H Q I h
 refine subD_of PySem.F.slot_dict_getitem.lookup hs (ld_glob I hg hm (thn (hi pins s σ H _ I h) fun iv s2 ⟨y,H2,I2,ry,k,v,ey,l,q2⟩ => ?_) hd)
 subst ey
 obtain ⟨vs,rel,dd⟩ := d.at I2.kIn
 obtain ⟨w',hw,rw'⟩ := RelO.some_of (v := v) (o := valueAt vs k) (by rw [← l]; exact rel.val k)
 exact ⟨dd.typeIs,wpAny_getItem_of (kV_is ry) dd.mapOf hw ⟨v,H2,I2.tok _,rw',q2⟩⟩
theorem pc_knotin (d : KD X.prog X.w X.K a kvs) (hg : Gl X n) (hm : X.mg n = some (.ref a)) (hi : PE X i ty) (hd : (n == ("__debug__" : Str)) = false := by decide) : PC X .NotIn i (.Name n p) (tKNotIn kvs ty) := by
 intro pins s σ H Q I h
 refine thn (hi pins s σ H _ I h) fun iv s2 ⟨y,H2,I2,ry,k,ey,q2⟩ => ld_glob I2 hg hm ?_ hd
 subst ey
 obtain ⟨vs,rel,dd⟩ := d.at I2.kIn
 refine wpAny_notIn_of (kV_is ry) d.1 dd.mapOf ?_
 rw [← (rel.val k).isSome_eq]
 exact ⟨.bl _,H2,I2.tok _,rfl,q2⟩
end
theorem kd4 {P : Program} {w : World} {K : PySem.W.Frag} {a : Addr} {x1 x2 x3 x4 : Str} {t1 t2 t3 t4 : Addr} {h1 h2 h3 h4 : Int} {k1 k2 k3 k4 : Tok} {ep : Nat} (ns : (a == sysModules) = false)
 (l : K.lookup a = some { cls := .type "dict",dict := none,data := .dict #[⟨h1,.str x1 k1,.ref t1⟩,⟨h2,.str x2 k2,.ref t2⟩,⟨h3,.str x3 k3,.ref t3⟩,⟨h4,.str x4 k4,.ref t4⟩] ep,slots := #[] })
 (e1 : h1 = hashStr w x1) (e2 : h2 = hashStr w x2) (e3 : h3 = hashStr w x3) (e4 : h4 = hashStr w x4) (nd : [x1,x2,x3,x4].Nodup) :
 KD P w K a [(.inr x1,.ref t1),(.inr x2,.ref t2),(.inr x3,.ref t3),(.inr x4,.ref t4)] := by
 have is : ∀ (x : Str) (k : Tok),(mixKind P w).is (.inr x) (.str x k) = true := fun x k => by
  show Value.isStrOf x (.str x k) = true
  simp [Value.isStrOf]
 refine ⟨ns,_,_,ep,[(.inr x1,.ref t1),(.inr x2,.ref t2),(.inr x3,.ref t3),(.inr x4,.ref t4)],l,⟨rfl,rfl,rfl⟩,rfl,fun e he => ?_,?_,?_,?_⟩
 · simp only [List.mem_toArray,List.mem_cons,List.not_mem_nil,or_false] at he
   rcases he with rfl | rfl | rfl | rfl
   · exact ⟨.inr x1,is _ _,e1⟩
   · exact ⟨.inr x2,is _ _,e2⟩
   · exact ⟨.inr x3,is _ _,e3⟩
   · exact ⟨.inr x4,is _ _,e4⟩
 · exact .cons (is _ _) rfl (.cons (is _ _) rfl (.cons (is _ _) rfl (.cons (is _ _) rfl .nil)))
 · have : [Sum.inr x1,Sum.inr x2,Sum.inr x3,Sum.inr x4] = ([x1,x2,x3,x4].map Sum.inr : List Key) := rfl
   show [Sum.inr x1,Sum.inr x2,Sum.inr x3,(Sum.inr x4 : Key)].Nodup
   rw [this]
   exact List.Pairwise.map _ (fun a b h => by simpa using h) nd
 · exact .cons ⟨rfl,rfl⟩ (.cons ⟨rfl,rfl⟩ (.cons ⟨rfl,rfl⟩ (.cons ⟨rfl,rfl⟩ .nil)))
theorem kt2 {K : PySem.W.Frag} {a : Addr} {x1 x2 : Str} {k1 k2 : Tok} {n : Nat} {od : Option Addr} {sl : Array (Option Value)} (l : K.lookup a = some ⟨.type "tuple",od,.seq #[.str x1 k1,.str x2 k2] n,sl⟩) : KTup K a [.str x1,.str x2] :=
 ⟨_,_,n,l,rfl,rfl,(show 2 ≤ sizeLine by decide),.cons ⟨_,rfl⟩ (.cons ⟨_,rfl⟩ .nil)⟩
theorem kt4 {K : PySem.W.Frag} {a : Addr} {x1 x2 x3 x4 : Str} {k1 k2 k3 k4 : Tok} {n : Nat} {od : Option Addr} {sl : Array (Option Value)} (l : K.lookup a = some ⟨.type "tuple",od,.seq #[.str x1 k1,.str x2 k2,.str x3 k3,.str x4 k4] n,sl⟩) : KTup K a [.str x1,.str x2,.str x3,.str x4] :=
 ⟨_,_,n,l,rfl,rfl,(show 4 ≤ sizeLine by decide),.cons ⟨_,rfl⟩ (.cons ⟨_,rfl⟩ (.cons ⟨_,rfl⟩ (.cons ⟨_,rfl⟩ .nil)))⟩
end L2
namespace L2
open PySem PySem.Spec PyProof.Rows
section
variable {X : Cx}
noncomputable def isTxt (x : Str) : Value → Bool | .str y _ => y == x | _ => false
theorem vals_strs : ∀ {ys : List Str} {its : List Value},Vals (ys.map V.str) its → its.countP (isTxt z) = ys.countP fun y => decide (y = z)
 | [],_,.nil => rfl
 | y :: ys,_,.cons r rr => by
  obtain ⟨t,rfl⟩ := r
  rw [List.countP_cons,List.countP_cons,vals_strs rr]
  have : isTxt z (.str y t) = decide (y = z) := by
   show (y == z) = _
   rw [Bool.eq_iff_iff]; simp
  rw [this]
theorem vals_strm : ∀ {ys : List Str} {its : List Value},Vals (ys.map V.str) its → ∀ v ∈ its,∃ y t,v = .str y t
 | [],_,.nil,v,h => by simp at h
 | y :: ys,_,.cons r rr,v,h => by
  obtain ⟨t,rfl⟩ := r
  rcases List.mem_cons.mp h with rfl | h
  · exact ⟨y,t,rfl⟩
  · exact vals_strm rr v h
noncomputable def rCountS : V → List V → Hp → VK → Prop := fun x vs H Q => ∃ (l : Addr) (ys : List Str) (z : Str),x = .ref l ∧ vs = [.str z] ∧ H l = some (.lst (ys.map V.str)) ∧ Q (.int (ys.countP fun y => decide (y = z) : Nat)) H
theorem mt_countS : MtR X "list.count" rCountS := by
 intro pins s σ H x vs v us Q I rx rv h
 obtain ⟨l,ys,z,rfl,rfl,hH,q⟩ := h
 cases rx
 obtain ⟨u,rfl,ru⟩ := rv.one
 obtain ⟨t,rfl⟩ := ru
 obtain ⟨_,its,n,r,hl,e⟩ := I.lstM hH
 refine call_meets F.slot_list_count ⟨_,e,rfl⟩ F.entry_list_count (F.args_list_count_2 _ _) (PySem.SeqAt.list_countAt l its.toArray n _ _ (.str z t) (isTxt z)) ⟨e,fun y hy => ?_,?_⟩
 · obtain ⟨a,t',rfl⟩ := vals_strm r y (by simpa using hy)
   exact PySem.SeqAt.EqAt.str_str a t' z t
 · have := vals_strs (z := z) r
   refine ⟨.int (ys.countP fun y => decide (y = z) : Nat),H,I.kept (t' := s.toks + 1) fun b o e => e,⟨s.toks,?_⟩,q⟩
   show Value.int (its.countP (isTxt z) : Nat) s.toks = .int (ys.countP fun y => decide (y = z) : Nat) s.toks
   rw [this]
theorem a_rCountS {x : V} {vs : List V} {H : Hp} {Q : VK} : rCountS x vs H Q = (∃ (l : Addr) (ys : List Str) (z : Str),x = .ref l ∧ vs = [.str z] ∧ H l = some (.lst (ys.map V.str)) ∧ Q (.int (ys.countP fun y => decide (y = z) : Nat)) H) := (rfl)
theorem truthOf_ints {P : Program} {w : World} {A : Around} {is : List Int} {its : List Value} (r : Vals (is.map V.int) its) : TruthOf P w A (fun i v => its.toArray[i]? = some v) (fun i => (is.map fun j => j != 0).getD i false) := fun i v s Q E hv hq => by
 have hv' : its[i]? = some v := by simpa using hv
 have hi : i < its.length := (List.getElem?_eq_some_iff.mp hv').1
 have hb : i < is.length := by have := r.length; simp at this; omega
 obtain ⟨u,hu,t,ru⟩ := r.get (i := i) (x := .int is[i]) (by simp [hb])
 rw [hv'] at hu; cases hu
 subst ru
 have e : (is.map fun j => j != 0).getD i false = (is[i] != 0) := by simp [List.getD,hb]
 have hq' : Q ((is.map fun j => j != 0).getD i false) s := hq
 rw [e] at hq'
 exact PySem.P.truthy_int hq'
theorem call_anyI (hc : X.calm = true) : CallR X (.builtin "any") (fun xs H Q => ∃ (a : Addr) (is : List Int),xs = [.ref a] ∧ SqL X.K H a (is.map V.int) ∧ Q (.bl (is.any fun j => j != 0)) H) := by
 intro pins s σ H xs us Q I r h
 obtain ⟨a,is,rfl,hq,q⟩ := h
 obtain ⟨u,rfl,ru⟩ := vals1 r
 cases ru
 obtain ⟨its,rv,p,hz⟩ := I.list hq
 have I1 : Inv X pins σ H { s with heap := s.heap.push { cls := .type "list_iterator",data := .fields #[.ref a,.int 0 0] } } := I.kept (t' := s.toks) fun b o e => Heap.get?_push_of_some _ e
 have fp := I.fpOk (b := s.heap.objs.size) (Nat.le_refl _) (I.hok.fresh (Nat.le_refl _))
 have hl := rv.length
 have hlt : a < s.heap.objs.size := by obtain ⟨o,ho,_⟩ := p.isList; exact Heap.lt_size ho
 refine call_any_walk (wpAny_pyIter_list p.isList ⟨s.heap.objs.size,[s.heap.objs.size,a],[s.heap.objs.size],its.toArray.size,_,_,fun i => (is.map fun j => j != 0).getD i false,rfl,
  Walks.list (A := X.A.in1) (show X.A.in1.handled = none from I.ok.hd hc) _ _ (Nat.ne_of_lt hlt) its.toArray,⟨⟨_,Heap.get?_push_size _ rfl,rfl,rfl⟩,p.isList.push _⟩,truthOf_ints rv,fun h' tk kk => ?_⟩)
 refine ⟨.bl (is.any fun j => j != 0),H,I1.turned (fun b o hb e => kk b o (by simpa using hb) e) fp.1 fp.2.1 fp.2.2.2.1 fp.2.2.2.2.1 fp.2.2.2.2.2,?_,q⟩
 have e : its.toArray.size = (is.map fun j => j != 0).length := by simp at hl ⊢; exact hl.symm
 rw [e,any_range,List.any_map]
 rfl
end
section
variable {X : Cx} {pins : List (Addr × Obj)} {σ : St} {H : Hp} {s : Shared} {scope : Scope} {x y : Str} {N : List Str} {caps : List Nat} {fp : List Addr}
theorem ps_comp2 {elt iter : Expr} {px pz pt py pos spos : Pos} {kx : Nat} {K : PySem.W.Frag} {ifs : List Expr} {wi : TI} {tc : TT} {te : TE} {z : Str} {i : Nat} (hcalm : X.calm = true) (hK : X.K = K) (S : CS2 X scope x y N caps) (hi : PI X (.Tuple [.Name x px,.Name y pz] kx pt) iter wi)
 (hc : ∀ C s H ex,PIfs (blk X N scope C s H ex) ifs tc) (he : ∀ C s H ex,PE (blk X N scope C s H ex) elt te) (hN : X.N.Nodup) (hy : X.N[i]? = some z) (hx : X.env.scope.names.lookup z = some .local)
 (hsw : swapsWith (.ListComp elt [⟨.Tuple [.Name x px,.Name y pz] kx pt,iter,ifs,0⟩] scope pos) (some (.Name z py)) spos.line X.env = pure true) (hs : ∀ x,foldedSetIterable iter X.env x = pure x := by intro _; rfl) :
 PS X (.Assign [.Name z py] (.ListComp elt [⟨.Tuple [.Name x px,.Name y pz] kx pt,iter,ifs,0⟩] scope pos) spos) (fun D σ H => tComp2 K wi caps tc te σ H fun v H1 => D.nx (σ.set i (some v)) H1) := by
 intro pins s σ H D I h
 subst hK
 rw [exec_Assign_Name_used _ _ _ _ hsw]
 refine wpAny_bind (wpAny_standAt (wpAny_bind ?_))
 show wpAny _ X.A (do let _ ← comprehension (.ListComp elt [⟨.Tuple [.Name x px,.Name y pz] kx pt,iter,ifs,0⟩] scope pos) scope X.env _ (newList []) false (eval iter X.env) (some (assign (.Name z py) X.env))) _ _ s
 refine wpAny_bind (wpAny_mono (wpAny_comprehension_free (use := some (assign (.Name z py) X.env)) (Q := fun _ s' => SP X pins D .next s') rfl hs (closureFor_of (S.c.cells I.ok)) S.kind S.c.names
  (thn (hi pins s σ H _ I h) fun xv s1 h1 => thn h1 fun itv s2 h2 => ?_)) (fun _ s' hq => wpAny_pure (wpAny_pure hq)) fun _ _ e => e)
 obtain ⟨it,fp,tn,J,H2,e,I2,T,st2,f2,wc⟩ := h2
 subst e
 refine comp_block2 (RR := fun acc C => compPost (model X.prog X.w) X.A X.xe (some (assign (.Name z py) X.env)) (fun _ s' => SP X pins D .next s') acc C) hcalm S hc he I2 T st2 f2 wc fun d C s' m' H' ys I' q hn fC hCL => ?_
 show wpAny _ X.A (assign (.Name z py) X.env (.ref d)) _ _ _
 refine wpAny_assign_Name (store_ok2 I' hN hy (.inl hx) (v := .ref d) rfl (fun s'' I'' ⟨a,hs,ha⟩ => ?_) (.inr hx))
 have hne : C ≠ a := by
  rcases ha with rfl | ha
  · exact hCL
  · exact fun z => fC.2.2.2.2.1 _ _ ha z.symm
 refine ⟨m',hn.sameBut hs hne,fun h' hs' => ⟨_,_,I''.turned (t' := s''.toks) (fun b o hb e => (hs'.2 b hb).trans e) fC.1 fC.2.1 fC.2.2.2.1 fC.2.2.2.2.1 fC.2.2.2.2.2,q⟩⟩
noncomputable def tSetC2 (K : PySem.W.Frag) (i : Nat) (wi : TI) (caps : List Nat) (tc : TT) (te : TE) : TS := fun D σ H => tComp2 K wi caps tc te σ H fun v H1 => D.nx (σ.set i (some v)) H1
theorem ps_letC2 {elt iter : Expr} {px pz pt py pos spos : Pos} {kx : Nat} {K : PySem.W.Frag} {ifs : List Expr} {wi : TI} {tc : TT} {te : TE} {z : Str} {i : Nat} (hcalm : X.calm = true) (hK : X.K = K) (S : CS2 X scope x y N caps) (hi : PI X (.Tuple [.Name x px,.Name y pz] kx pt) iter wi)
 (hc : ∀ C s H ex,PIfs (blk X N scope C s H ex) ifs tc) (he : ∀ C s H ex,PE (blk X N scope C s H ex) elt te) (hN : X.N.Nodup) (hy : X.N[i]? = some z) (hx : X.env.scope.names.lookup z = some .local)
 (hsw : swapsWith (.ListComp elt [⟨.Tuple [.Name x px,.Name y pz] kx pt,iter,ifs,0⟩] scope pos) (some (.Name z py)) spos.line X.env = pure true) (hs : ∀ x,foldedSetIterable iter X.env x = pure x := by intro _; rfl) :
 PS X (.Assign [.Name z py] (.ListComp elt [⟨.Tuple [.Name x px,.Name y pz] kx pt,iter,ifs,0⟩] scope pos) spos) (tSetC2 K i wi caps tc te) := ps_comp2 hcalm hK S hi hc he hN hy hx hsw hs
theorem a_tSetC2 {K : PySem.W.Frag} {i : Nat} {wi : TI} {caps : List Nat} {tc : TT} {te : TE} {D : Ends} {σ : St} {H : Hp} : tSetC2 K i wi caps tc te D σ H = (tComp2 K wi caps tc te σ H fun v H1 => D.nx (σ.set i (some v)) H1) := (rfl)
end
theorem pe_bmK {X : Cx} {K : PySem.W.Frag} {o e : Expr} {es : List Expr} {to : TE} {t : TA} {name : Str} {apos cpos : Pos} {T id : String} {r : V → List V → Hp → VK → Prop} (hK : X.K = K) (pa : PlainAttrs T) (slot : Slot T name id) (hty : typeOf (.builtin id) = pure (.type "method_descriptor")) (hm : MtR X id r) (ho : PE X o to) (ha : PA X (e :: es) t)
 (h1 : attributeBase o name X.env (eval o X.env) = eval o X.env := by rfl)
 (h2 : ((backTo cpos (starEach (e :: es) X.env)).all (fun x => !x.1) && (backToKw cpos (keywordEach [] X.env)).all (fun x => x.1.isSome) && decide ((e :: es).length + ([] : List Keyword).length + (if ([] : List Keyword).isEmpty then 0 else 1) < 30)) = true := by rfl)
 (h3 : (apos.endLine == cpos.line) = true := by rfl) (h4 : starEach (e :: es) X.env = (false,eval e X.env) :: starEach es X.env := by rfl) (h5 : (backTo cpos (starEach es X.env)).any (·.1) = false := by rfl) :
 PE X (.Call (.Attribute o name apos) (e :: es) [] cpos) (tBM K T r to t) := hK ▸ pe_bm pa slot hty hm ho ha h1 h2 h3 h4 h5
end L2
set_option linter.all false
namespace M
variable {α : Type} [DecidableEq α]
noncomputable def JInv (t : Tr α) (P : List (List Nat)) (st : List (Option (List Nat)) × List (Option (List Nat))) : Prop :=
 Deed.All2 (fun o => ∀ p,o = some p → ∀ q f l r,p <+: q → t.sub q = some (.knot f l r) → q ∈ P) st
noncomputable def Deed.jn : Deed α → Bool
 | .join _ _ _ _ => true
 | _ => false
theorem first_sub {t : Tr α} {x : α} {p : List Nat} (h : firstOf x (t.wk []) = some p) : t.sub p = some (.leaf x) := by
 have go : ∀ l : List (List Nat × Tr α),(∀ q ∈ l,t.sub q.1 = some q.2) → firstOf x l = some p → t.sub p = some (.leaf x) := by
  intro l
  induction l with
  | nil => intro _ h; cases h
  | cons a l ih =>
   intro hl h
   simp only [firstOf] at h
   split at h
   · rename_i c
     cases h
     have e := hl a (by simp)
     rw [e]
     obtain ⟨c1,c2⟩ := c
     cases ha : a.2 with
     | leaf y => rw [ha] at c2; simp only [Tr.name] at c2; rw [c2]
     | knot f l r => rw [ha] at c1; simp [Tr.isL] at c1
   · exact ih (fun q hq => hl q (by simp [hq])) h
 refine go _ (fun q hq => ?_) h
 obtain ⟨q',e,hs⟩ := Tr.wk_sub t [] q.1 q.2 hq
 rw [e]; simpa using hs
theorem jinv_step (t : Tr α) (P : List (List Nat)) (st : List (Option (List Nat)) × List (Option (List Nat))) (d : Deed α) (h : JInv t P st) : ∃ P',P'.length ≤ P.length + (if d.jn = true then 1 else 0) ∧ JInv t P' (mark t st d) := by
 have hz : ∀ p,(none : Option (List Nat)) = some p → ∀ q f l r,p <+: q → t.sub q = some (.knot f l r) → q ∈ P := fun p h => nomatch h
 have stay : (∀ p,d.val none (fun x => firstOf x (t.wk [])) (over t) st = some p → ∀ q f l r,p <+: q → t.sub q = some (.knot f l r) → q ∈ P) → ∃ P',P'.length ≤ P.length + (if d.jn = true then 1 else 0) ∧ JInv t P' (mark t st d) := fun hv => ⟨P,by omega,Deed.set_all hv h⟩
 cases d with
 | take x i =>
  refine stay fun p hp q f l r pq hq => ?_
  have e : t.sub p = some (.leaf x) := first_sub hp
  obtain ⟨s,rfl⟩ := pq
  rw [Tr.sub_app,e] at hq
  cases s with
  | nil => simp [Tr.sub] at hq
  | cons a s => simp [Tr.sub] at hq
 | put i s => exact stay (Deed.getD_all hz h.1 _)
 | fetch s i => exact stay (Deed.getD_all hz h.2 _)
 | join f i j k =>
  cases hv : (Deed.join f i j k : Deed α).val none (fun x => firstOf x (t.wk [])) (over t) st with
  | none => exact stay (by rw [hv]; exact hz)
  | some p =>
   refine ⟨p :: P,by simp [Deed.jn],Deed.set_all ?_ ⟨fun x hx p' hp' q f l r pq hq => List.mem_cons_of_mem _ (h.1 x hx p' hp' q f l r pq hq),fun x hx p' hp' q f l r pq hq => List.mem_cons_of_mem _ (h.2 x hx p' hp' q f l r pq hq)⟩⟩
   intro p' hp' q g l r pq hq
   rw [hv] at hp'
   cases hp'
   have ca := Deed.getD_all hz h.1 i.toNat
   have cb := Deed.getD_all hz h.1 j.toNat
   have ho : over t f (st.1.getD i.toNat none) (st.1.getD j.toNat none) = some p := hv
   generalize st.1.getD i.toNat none = a at ca ho
   generalize st.1.getD j.toNat none = b at cb ho
   cases a with
   | none => simp [over] at ho
   | some a =>
   cases b with
   | none => simp [over] at ho
   | some b =>
   simp only [over] at ho
   split at ho
   · rename_i c
     have ep : a.dropLast = p := Option.some.inj ho
     rw [ep] at c
     obtain ⟨s,rfl⟩ := pq
     cases s with
     | nil => simp
     | cons n s =>
      rw [Tr.sub_app] at hq
      cases hs : t.sub p with
      | none => rw [hs] at hq; cases hq
      | some u =>
       rw [hs] at hq
       have hq : u.sub (n :: s) = some (.knot g l r) := hq
       have hfull : t.sub (p ++ n :: s) = some (.knot g l r) := by rw [Tr.sub_app,hs]; exact hq
       cases u with
       | leaf y => simp [Tr.sub] at hq
       | knot g' l' r' =>
        refine List.mem_cons_of_mem _ ?_
        match n,hq,hfull with
        | 0,hq,hfull => exact ca a rfl _ g l r (by rw [c.1]; exact ⟨s,by simp⟩) hfull
        | 1,hq,hfull => exact cb b rfl _ g l r (by rw [c.2.1]; exact ⟨s,by simp⟩) hfull
        | n + 2,hq,hfull => simp [Tr.sub] at hq
   · cases ho
theorem jinv_row (t : Tr α) : ∀ (row : List (Deed α)) (P : List (List Nat)) (st : List (Option (List Nat)) × List (Option (List Nat))),JInv t P st → ∃ P',P'.length ≤ P.length + row.countP Deed.jn ∧ JInv t P' (row.foldl (mark t) st)
 | [],P,st,h => ⟨P,by simp,h⟩
 | d :: row,P,st,h => by
  obtain ⟨P1,l1,h1⟩ := jinv_step t P st d h
  obtain ⟨P2,l2,h2⟩ := jinv_row t row P1 _ h1
  exact ⟨P2,by rw [List.countP_cons]; omega,h2⟩
theorem nodup_sub8 {β : Type} [DecidableEq β] : ∀ {l m : List β},l.Nodup → (∀ x ∈ l,x ∈ m) → l.length ≤ m.length
 | [],_,_,_ => Nat.zero_le _
 | a :: l,m,h,hs => by
  have h1 := List.nodup_cons.mp h
  have ha := hs a (by simp)
  have := nodup_sub8 (l := l) (m := m.erase a) h1.2 fun x hx => by
   have : x ≠ a := fun e => h1.1 (e ▸ hx)
   exact (List.mem_erase_of_ne this).mpr (hs x (by simp [hx]))
  rw [List.length_erase_of_mem ha] at this
  have hp : 0 < m.length := List.length_pos_of_mem ha
  simp only [List.length_cons]; omega
noncomputable def kps : Tr α → List Nat → List (List Nat)
 | .leaf _,_ => []
 | .knot _ l r,p => p :: (kps l (p ++ [0]) ++ kps r (p ++ [1]))
theorem kps_sub : ∀ (t : Tr α) (p q : List Nat),q ∈ kps t p → ∃ e f l r,q = p ++ e ∧ t.sub e = some (.knot f l r)
 | .leaf _,_,_,h => by simp [kps] at h
 | .knot f l r,p,q,h => by
  simp only [kps,List.mem_cons,List.mem_append] at h
  rcases h with rfl | h | h
  · exact ⟨[],f,l,r,by simp,rfl⟩
  · obtain ⟨e,f',l',r',rfl,hs⟩ := kps_sub l _ _ h
    exact ⟨0 :: e,f',l',r',by simp,by simpa [Tr.sub] using hs⟩
  · obtain ⟨e,f',l',r',rfl,hs⟩ := kps_sub r _ _ h
    exact ⟨1 :: e,f',l',r',by simp,by simpa [Tr.sub] using hs⟩
theorem kps_nodup : ∀ (t : Tr α) (p : List Nat),(kps t p).Nodup
 | .leaf _,_ => List.nodup_nil
 | .knot f l r,p => by
  refine List.nodup_cons.mpr ⟨fun h => ?_,List.nodup_append.mpr ⟨kps_nodup l _,kps_nodup r _,fun a ha b hb e => ?_⟩⟩
  · rcases List.mem_append.mp h with h | h
    · obtain ⟨e,_,_,_,he,_⟩ := kps_sub l _ _ h
      have := congrArg List.length he
      simp at this
    · obtain ⟨e,_,_,_,he,_⟩ := kps_sub r _ _ h
      have := congrArg List.length he
      simp at this
  · obtain ⟨e1,_,_,_,h1,_⟩ := kps_sub l _ _ ha
    obtain ⟨e2,_,_,_,h2,_⟩ := kps_sub r _ _ hb
    rw [e,h2] at h1
    simp at h1
theorem kps_len : ∀ (t : Tr α) (p : List Nat),(kps t p).length + 1 = t.lv.length
 | .leaf _,_ => rfl
 | .knot f l r,p => by
  have h1 := kps_len l (p ++ [0])
  have h2 := kps_len r (p ++ [1])
  simp only [kps,Tr.lv,List.length_cons,List.length_append]
  omega
theorem held_joins (t : Tr α) (k m : Nat) (row : List (Deed α)) (h : some [] ∈ (row.foldl (mark t) (List.replicate k none,List.replicate m none)).1) : t.lv.length ≤ row.countP Deed.jn + 1 := by
 obtain ⟨P,lP,hP⟩ := jinv_row t row [] (List.replicate k none,List.replicate m none) (Deed.all_new (fun p h => nomatch h) k m)
 have hs : ∀ q ∈ kps t [],q ∈ P := fun q hq => by
  obtain ⟨e,f,l,r,rfl,hs⟩ := kps_sub t [] q hq
  exact hP.1 _ h [] rfl _ f l r (List.nil_prefix) (by simpa using hs)
 have h1 := nodup_sub8 (kps_nodup t []) hs
 have h2 := kps_len t []
 simp at lP
 omega
end M
namespace L2
open PySem PySem.W PySem.Calls
theorem left_tree2 {p q : Program} {loose : List Str} {Xt : Shared → Bool} {α : Type} {Yf : Shared → α} {Ya : World → α} {N a b1 F1 F G m₀ : Nat} {ann : Option Value} {S S1 : World → OsState → SharedT} {b b' b2 : List Stmt} {env : Env} {ps ps' ps1 pl fq : Pos} (hb : b' ++ b2 = b)
 (he : opening p = plainProg p.main.scope.names) (hf : ∀ s,fenceModules? p s = some s) (hN : Nat.ble 600 N = true)
 (hz : ∀ w : World,((boot_heap w.params).isNs mainGlobals && (Array.mk [] : Array GenState).size == 0,(boot_heap w.params).objs.size,(boot_heap w.params).nsMap mainGlobals "__annotations__") = (true,m₀,ann))
 (h1 : ∀ w os,topGo treeTable p w m₀ ann a ⟨boot_heap w.params,Array.mk [],boot_drawn,boot_toks,os⟩ (topStub p) = some ((S w os).abs,⟨denote treeTable (.body b env),.body b env,ps,[topFrame fq]⟩))
 (h2 : ∀ w os,segRun treeTable p w m₀ ann 1 b1 (S w os).abs (blockOf b env (.body b env) ps [topFrame fq]) = some (.next,(S w os).abs,.body b env,ps'))
 (hm : ∀ w os,segRunT treeTable p w m₀ ann 1 F1 (S w os) (piecesOf b' env (.body b env) ps' [topFrame fq]) = some (.next,S1 w os,.body b env,ps1))
 (h3 : ∀ w os,(segRunT treeTable p w m₀ ann 1 F (S1 w os) (piecesOf b2 env (.body b env) ps1 [topFrame fq])).map (fun x => (x.1,x.2.2.1,x.2.2.2,(topRun treeTable p w m₀ ann G x.2.1.abs ⟨doneF .next,.body b env,pl,[topFrame fq]⟩).map fun s =>
   ((staticsOk (importedModules p.main.body) (boot_heap w.params) s.heap && namesBound p s.heap && gensDone s && laidKept (boot_heap w.params) s.heap),openSeen q loose (importedModules p.main.body) Xt true s,Yf s))) = some (.next,.body b env,pl,some (true,openGood q loose,Ya w)))
 (le : Nat.ble (a + (b1 + (F1 + (F + G)))) N = true) : LeftO p q loose Xt Yf Ya N := fun w => by
 obtain ⟨⟨h,gs,d,k,os⟩,e,e'⟩ := Option.map_eq_some_iff.mp (boot_open he hN hf w)
 obtain ⟨rfl,rfl,rfl,rfl⟩ : h = boot_heap w.params ∧ gs = Array.mk [] ∧ d = boot_drawn ∧ k = boot_toks := by simpa using e'
 obtain ⟨z1,z2,z3⟩ : _ ∧ _ ∧ _ := by simpa only [Prod.mk.injEq] using hz w
 obtain ⟨⟨f,sT,c,pp⟩,g1,g2⟩ := Option.map_eq_some_iff.mp (h3 w os)
 simp only [Prod.mk.injEq] at g2
 obtain ⟨rfl,rfl,rfl,g3⟩ := g2
 obtain ⟨s,g4,g5⟩ := Option.map_eq_some_iff.mp g3
 simp only [Prod.mk.injEq] at g5
 obtain ⟨l1,l2,l3⟩ := g5
 have g6 : topRun treeTable p w m₀ ann (F1 + (F + G)) (S w os).abs (restOf (b' ++ (b2 ++ [])) env (.body b env) ps' [topFrame fq]) = some s := piece_app (segRun_of (hm w os)) (piece_app (segRun_of g1) g4)
 rw [List.append_nil,hb] at g6
 have g7 := go_top (h1 w os) (piece_block (h2 w os) g6)
 have r := topRun_mono (N - (a + (b1 + (F1 + (F + G))))) _ _ _ _ g7
 rw [show a + (b1 + (F1 + (F + G))) + (N - (a + (b1 + (F1 + (F + G))))) = N by have := Nat.le_of_ble_eq_true le; omega] at r
 have t : topFrom treeTable p w N ⟨boot_heap w.params,Array.mk [],boot_drawn,boot_toks,os⟩ = some s := by
  unfold topFrom
  dsimp only
  rw [z1,z2,z3,r]
  show (match staticsOk (importedModules p.main.body) (boot_heap w.params) s.heap && namesBound p s.heap && gensDone s && laidKept (boot_heap w.params) s.heap with | true => _ | false => _) = _
  rw [l1]
 unfold openEnds
 rw [e]
 show (topFrom treeTable p w N _).map _ = _
 rw [t]
 exact congrArg some (Prod.ext l2 l3)
end L2
set_option maxHeartbeats 4000000
namespace K91
open PySem L2
local macro_rules | `(tactic| walk_at "rd") => `(tactic| simp only [a_iZipK,a_tComp2,a_rIntT,a_rStr,a_rSplit,a_tKGet,a_tKNotIn,a_rCountS,a_tSetC2,a_tFor,a_tSet,a_tSetC,a_tVar,a_tC,a_tIsN,a_tB,a_tAnd,a_tOr,a_tNot,a_tAndV,a_tOrV,a_tNotV,a_tIf,a_tNext,a_tSeq,a_tDrop,a_tRet,a_tIfS,a_tNever,a_gName,a_gNil,a_gCons,a_gTup,a_gSub,a_tAsg,a_tAug,a_iRng1,a_tOp,a_tUn,a_rI,a_rI0,a_rU,a_rEq,a_rNe,a_tTest,a_tChain,a_tNil,a_tCons,b_tTup,b_tLst,a_tCall,a_tCB,a_tNoPart,a_tPart,a_tSl,b_rSlT,a_rIxL,a_rIxS,b_rSetL,a_tBM,b_rAppend,b_rExtend,b_rCat,b_rRep,a_tDIn,a_sDPut,b_tDNewK,a_tYes,a_tComp,a_iStr,a_rSlS,a_rJoin,a_rEqD,a_rNeD,a_rInD,a_rCatD,a_rIxF,a_rSlLF,a_rLenF,a_rIntB,ty_str,tJs,a_tFmtD,a_tFmtRD,a_tFmtI,a_tRaise,a_rMaxS,a_rMinS,a_rListF,a_rTupF,a_rSlU,a_tFmtS,a_ipI,a_iL,a_iT,L2.start,blkSt,cxOf_K,blk_K,List.getElem?_cons_zero,List.getElem?_cons_succ,Option.some.injEq,Option.join_some,exists_eq_left',exists_eq_left,exists_eq_right,V.int.injEq,V.ref.injEq,V.str.injEq,V.bl.injEq,V.ty.injEq,and_true,true_and,List.set_cons_zero,List.set_cons_succ,List.cons.injEq,List.cons_append,List.nil_append,List.append_nil,List.map_cons,List.map_nil,List.length_cons,List.length_nil,List.replicate,exists_and_left,exists_and_right,Nat.reduceAdd,Nat.reduceSub,atI_0,atI_1,atI_2,atI_3,atI_4,if_true,if_false,Bool.false_eq_true,scal_ii,scal_ss,scal_bb])
local macro_rules | `(tactic| walk_at "cm") => `(tactic| first | (refine cm_l ?_ ?_ <;> omega) | (refine cm_r ?_ ?_ <;> omega))
noncomputable def top (i : Nat) : Stmt := PySem.Challenge.pw_fewboxes_k91_whole_from_texts.main.body.getD i (.Pass ⟨0,0,0,0⟩)
noncomputable abbrev s_box_numbers : Stmt := top 9
noncomputable abbrev s_shelf_numbers : Stmt := top 10
noncomputable abbrev s_check_numbers : Stmt := top 11
noncomputable abbrev s_check_deed : Stmt := top 12
noncomputable abbrev s_moved_value : Stmt := top 13
noncomputable abbrev s_state_behind : Stmt := top 14
noncomputable abbrev s_is_name : Stmt := top 19
noncomputable abbrev s_is_leaf : Stmt := top 20
noncomputable abbrev s_places : Stmt := top 21
noncomputable abbrev s_leaves : Stmt := top 22
noncomputable abbrev s_part_at : Stmt := top 23
noncomputable abbrev s_place_of : Stmt := top 24
noncomputable abbrev s_deeper_than : Stmt := top 25
noncomputable abbrev s_check_size : Stmt := top 26
noncomputable abbrev s_check_names : Stmt := top 27
noncomputable abbrev s_formula : Stmt := top 28
noncomputable abbrev s_fresh : Stmt := top 30
noncomputable abbrev s_knot_over : Stmt := top 31
noncomputable abbrev s_mark_brought : Stmt := top 32
noncomputable abbrev s_marked : Stmt := top 33
noncomputable abbrev s_moments : Stmt := top 34
noncomputable abbrev s_formula_held : Stmt := top 35
noncomputable abbrev s_rank : Stmt := top 37
noncomputable abbrev s_puts : Stmt := top 38
noncomputable abbrev s_must_put : Stmt := top 39
noncomputable abbrev s_least : Stmt := top 40
noncomputable abbrev s_show_deed : Stmt := top 44
noncomputable abbrev s_show_row : Stmt := top 45
noncomputable abbrev s_is_number : Stmt := top 46
noncomputable abbrev s_read_part : Stmt := top 47
noncomputable abbrev s_read_deed : Stmt := top 48
noncomputable abbrev s_read_row : Stmt := top 49
noncomputable abbrev s_show : Stmt := top 51
noncomputable abbrev s_name_end : Stmt := top 52
noncomputable abbrev s_past : Stmt := top 53
noncomputable abbrev s_tree_from : Stmt := top 54
noncomputable abbrev s_read : Stmt := top 55
noncomputable abbrev s_figures : Stmt := top 59
noncomputable abbrev s_judge : Stmt := top 60
noncomputable abbrev s_row_by_shelf : Stmt := top 62
noncomputable abbrev s_row_by_boxes : Stmt := top 63
noncomputable abbrev s_row_into : Stmt := top 64
noncomputable abbrev s_row_for : Stmt := top 65
noncomputable abbrev s__law_at : Stmt := top 67
noncomputable abbrev s__law_names : Stmt := top 68
noncomputable abbrev s__law_many : Stmt := top 69
noncomputable abbrev s__law_second : Stmt := top 70
noncomputable abbrev s__law_tree : Stmt := top 71
noncomputable abbrev s__law_ranks : Stmt := top 72
noncomputable abbrev s_law : Stmt := top 73
theorem sc_box_numbers : FnScope ["deed"] ["deed"] (defScope s_box_numbers) := ⟨rfl,rfl,rfl,by decide +kernel,rfl,by decide +kernel,by decide +kernel⟩
theorem sc_shelf_numbers : FnScope ["deed"] ["deed"] (defScope s_shelf_numbers) := ⟨rfl,rfl,rfl,by decide +kernel,rfl,by decide +kernel,by decide +kernel⟩
theorem sc_check_numbers : FnScope ["deed","asked","there","number"] ["deed","asked","there"] (defScope s_check_numbers) := ⟨rfl,rfl,rfl,by decide +kernel,rfl,by decide +kernel,by decide +kernel⟩
theorem sc_check_deed : FnScope ["deed","state"] ["deed","state"] (defScope s_check_deed) := ⟨rfl,rfl,rfl,by decide +kernel,rfl,by decide +kernel,by decide +kernel⟩
theorem sc_moved_value : FnScope ["deed","state"] ["deed","state"] (defScope s_moved_value) := ⟨rfl,rfl,rfl,by decide +kernel,rfl,by decide +kernel,by decide +kernel⟩
theorem sc_state_behind : FnScope ["deed","state","value","boxes","shelf"] ["deed","state","value"] (defScope s_state_behind) := ⟨rfl,rfl,rfl,by decide +kernel,rfl,by decide +kernel,by decide +kernel⟩
theorem sc_is_name : FnScope ["text"] ["text"] (defScope s_is_name) := ⟨rfl,rfl,rfl,by decide +kernel,rfl,by decide +kernel,by decide +kernel⟩
theorem sc_is_leaf : FnScope ["tree"] ["tree"] (defScope s_is_leaf) := ⟨rfl,rfl,rfl,by decide +kernel,rfl,by decide +kernel,by decide +kernel⟩
theorem sc_places : FnScope ["tree","found","step"] ["tree"] (defScope s_places) := ⟨rfl,rfl,rfl,by decide +kernel,rfl,by decide +kernel,by decide +kernel⟩
theorem sc_leaves : FnScope ["tree"] ["tree"] (defScope s_leaves) := ⟨rfl,rfl,rfl,by decide +kernel,rfl,by decide +kernel,by decide +kernel⟩
theorem sc_part_at : FnScope ["tree","place","part","step"] ["tree","place"] (defScope s_part_at) := ⟨rfl,rfl,rfl,by decide +kernel,rfl,by decide +kernel,by decide +kernel⟩
theorem sc_place_of : FnScope ["tree","x","place"] ["tree","x"] (defScope s_place_of) := ⟨rfl,rfl,rfl,by decide +kernel,rfl,by decide +kernel,by decide +kernel⟩
theorem sc_deeper_than : FnScope ["tree","bound"] ["tree","bound"] (defScope s_deeper_than) := ⟨rfl,rfl,rfl,by decide +kernel,rfl,by decide +kernel,by decide +kernel⟩
theorem sc_check_size : FnScope ["tree"] ["tree"] (defScope s_check_size) := ⟨rfl,rfl,rfl,by decide +kernel,rfl,by decide +kernel,by decide +kernel⟩
theorem sc_check_names : FnScope ["tree","taken","place","part","name"] ["tree"] (defScope s_check_names) := ⟨rfl,rfl,rfl,by decide +kernel,rfl,by decide +kernel,by decide +kernel⟩
theorem sc_formula : FnScope ["tree"] ["tree"] (defScope s_formula) := ⟨rfl,rfl,rfl,by decide +kernel,rfl,by decide +kernel,by decide +kernel⟩
theorem sc_fresh : FnScope ["k","many"] ["k","many"] (defScope s_fresh) := ⟨rfl,rfl,rfl,by decide +kernel,rfl,by decide +kernel,by decide +kernel⟩
theorem sc_knot_over : FnScope ["tree","f","left","right","place"] ["tree","f","left","right"] (defScope s_knot_over) := ⟨rfl,rfl,rfl,by decide +kernel,rfl,by decide +kernel,by decide +kernel⟩
theorem sc_mark_brought : FnScope ["tree","deed","state"] ["tree","deed","state"] (defScope s_mark_brought) := ⟨rfl,rfl,rfl,by decide +kernel,rfl,by decide +kernel,by decide +kernel⟩
theorem sc_marked : FnScope ["tree","deed","state"] ["tree","deed","state"] (defScope s_marked) := ⟨rfl,rfl,rfl,by decide +kernel,rfl,by decide +kernel,by decide +kernel⟩
theorem sc_moments : FnScope ["tree","k","many","row","states","deed"] ["tree","k","many","row"] (defScope s_moments) := ⟨rfl,rfl,rfl,by decide +kernel,rfl,by decide +kernel,by decide +kernel⟩
theorem sc_formula_held : FnScope ["state"] ["state"] (defScope s_formula_held) := ⟨rfl,rfl,rfl,by decide +kernel,rfl,by decide +kernel,by decide +kernel⟩
theorem sc_rank : FnScope ["tree","left","right"] ["tree"] (defScope s_rank) := ⟨rfl,rfl,rfl,by decide +kernel,rfl,by decide +kernel,by decide +kernel⟩
theorem sc_puts : FnScope ["tree","k"] ["tree","k"] (defScope s_puts) := ⟨rfl,rfl,rfl,by decide +kernel,rfl,by decide +kernel,by decide +kernel⟩
theorem sc_must_put : FnScope ["tree","k"] ["tree","k"] (defScope s_must_put) := ⟨rfl,rfl,rfl,by decide +kernel,rfl,by decide +kernel,by decide +kernel⟩
theorem sc_least : FnScope ["tree","k","takes","joins","shelved"] ["tree","k"] (defScope s_least) := ⟨rfl,rfl,rfl,by decide +kernel,rfl,by decide +kernel,by decide +kernel⟩
theorem sc_show_deed : FnScope ["deed"] ["deed"] (defScope s_show_deed) := ⟨rfl,rfl,rfl,by decide +kernel,rfl,by decide +kernel,by decide +kernel⟩
theorem sc_show_row : FnScope ["row"] ["row"] (defScope s_show_row) := ⟨rfl,rfl,rfl,by decide +kernel,rfl,by decide +kernel,by decide +kernel⟩
theorem sc_is_number : FnScope ["word"] ["word"] (defScope s_is_number) := ⟨rfl,rfl,rfl,by decide +kernel,rfl,by decide +kernel,by decide +kernel⟩
theorem sc_read_part : FnScope ["kind","word"] ["kind","word"] (defScope s_read_part) := ⟨rfl,rfl,rfl,by decide +kernel,rfl,by decide +kernel,by decide +kernel⟩
theorem sc_read_deed : FnScope ["text","words","kinds"] ["text"] (defScope s_read_deed) := ⟨rfl,rfl,rfl,by decide +kernel,rfl,by decide +kernel,by decide +kernel⟩
theorem sc_read_row : FnScope ["text"] ["text"] (defScope s_read_row) := ⟨rfl,rfl,rfl,by decide +kernel,rfl,by decide +kernel,by decide +kernel⟩
theorem sc_show : FnScope ["tree","name","left","right"] ["tree"] (defScope s_show) := ⟨rfl,rfl,rfl,by decide +kernel,rfl,by decide +kernel,by decide +kernel⟩
theorem sc_name_end : FnScope ["text","start","end"] ["text","start"] (defScope s_name_end) := ⟨rfl,rfl,rfl,by decide +kernel,rfl,by decide +kernel,by decide +kernel⟩
theorem sc_past : FnScope ["text","at","sign"] ["text","at","sign"] (defScope s_past) := ⟨rfl,rfl,rfl,by decide +kernel,rfl,by decide +kernel,by decide +kernel⟩
theorem sc_tree_from : FnScope ["text","start","level","end","name","left","right"] ["text","start","level"] (defScope s_tree_from) := ⟨rfl,rfl,rfl,by decide +kernel,rfl,by decide +kernel,by decide +kernel⟩
theorem sc_read : FnScope ["text","found","wrong"] ["text"] (defScope s_read) := ⟨rfl,rfl,rfl,by decide +kernel,rfl,by decide +kernel,by decide +kernel⟩
theorem sc_figures : FnScope ["row","kinds"] ["row"] (defScope s_figures) := ⟨rfl,rfl,rfl,by decide +kernel,rfl,by decide +kernel,by decide +kernel⟩
theorem sc_judge : FnScope ["text","k","rowtext","tree","row","fewest","states","more","told"] ["text","k","rowtext"] (defScope s_judge) := ⟨rfl,rfl,rfl,by decide +kernel,rfl,by decide +kernel,by decide +kernel⟩
theorem sc_row_by_shelf : FnScope ["tree","k","shelf","right","left"] ["tree","k","shelf"] (defScope s_row_by_shelf) := ⟨rfl,rfl,rfl,by decide +kernel,rfl,by decide +kernel,by decide +kernel⟩
theorem sc_row_by_boxes : FnScope ["tree","k","box","shelf","sons"] ["tree","k","box","shelf"] (defScope s_row_by_boxes) := ⟨rfl,rfl,rfl,by decide +kernel,rfl,by decide +kernel,by decide +kernel⟩
theorem sc_row_into : FnScope ["tree","k","box","shelf"] ["tree","k","box","shelf"] (defScope s_row_into) := ⟨rfl,rfl,rfl,by decide +kernel,rfl,by decide +kernel,by decide +kernel⟩
theorem sc_row_for : FnScope ["tree","k"] ["tree","k"] (defScope s_row_for) := ⟨rfl,rfl,rfl,by decide +kernel,rfl,by decide +kernel,by decide +kernel⟩
theorem sc__law_at : FnScope ["script","k","cell"] ["script","k"] (defScope s__law_at) := ⟨rfl,rfl,rfl,by decide +kernel,rfl,by decide +kernel,by decide +kernel⟩
theorem sc__law_names : FnScope ["cell","many","letters","size","out","k","signs"] ["cell","many"] (defScope s__law_names) := ⟨rfl,rfl,rfl,by decide +kernel,rfl,by decide +kernel,by decide +kernel⟩
theorem sc__law_many : FnScope ["script","cell"] ["script"] (defScope s__law_many) := ⟨rfl,rfl,rfl,by decide +kernel,rfl,by decide +kernel,by decide +kernel⟩
theorem sc__law_second : FnScope ["script"] ["script"] (defScope s__law_second) := ⟨rfl,rfl,rfl,by decide +kernel,rfl,by decide +kernel,by decide +kernel⟩
theorem sc__law_tree : FnScope ["script","at","many","deeds","trees","n","cell","p","two","side","knot"] ["script","at","many"] (defScope s__law_tree) := ⟨rfl,rfl,rfl,by decide +kernel,rfl,by decide +kernel,by decide +kernel⟩
theorem sc__law_ranks : FnScope ["tree","place","left","right","two"] ["tree","place"] (defScope s__law_ranks) := ⟨rfl,rfl,rfl,by decide +kernel,rfl,by decide +kernel,by decide +kernel⟩
theorem sc_law : FnScope ["script","size","tree","k","row","name","more"] ["script"] (defScope s_law) := ⟨rfl,rfl,rfl,by decide +kernel,rfl,by decide +kernel,by decide +kernel⟩
set_option genInjectivity false in
set_option genSizeOfSpec false in
structure Txt (K : PySem.W.Frag) (mg : Str → Option Value) where
 f_box_numbers : Addr
 d_box_numbers : FuncData
 F_box_numbers : Fun K "box_numbers" "box_numbers" s_box_numbers f_box_numbers d_box_numbers
 m_box_numbers : mg "box_numbers" = some (.ref f_box_numbers)
 b_box_numbers : Binds K d_box_numbers ["deed"] []
 f_shelf_numbers : Addr
 d_shelf_numbers : FuncData
 F_shelf_numbers : Fun K "shelf_numbers" "shelf_numbers" s_shelf_numbers f_shelf_numbers d_shelf_numbers
 m_shelf_numbers : mg "shelf_numbers" = some (.ref f_shelf_numbers)
 b_shelf_numbers : Binds K d_shelf_numbers ["deed"] []
 f_check_numbers : Addr
 d_check_numbers : FuncData
 F_check_numbers : Fun K "check_numbers" "check_numbers" s_check_numbers f_check_numbers d_check_numbers
 m_check_numbers : mg "check_numbers" = some (.ref f_check_numbers)
 b_check_numbers : Binds K d_check_numbers ["deed","asked","there"] []
 f_check_deed : Addr
 d_check_deed : FuncData
 F_check_deed : Fun K "check_deed" "check_deed" s_check_deed f_check_deed d_check_deed
 m_check_deed : mg "check_deed" = some (.ref f_check_deed)
 b_check_deed : Binds K d_check_deed ["deed","state"] []
 f_moved_value : Addr
 d_moved_value : FuncData
 F_moved_value : Fun K "moved_value" "moved_value" s_moved_value f_moved_value d_moved_value
 m_moved_value : mg "moved_value" = some (.ref f_moved_value)
 b_moved_value : Binds K d_moved_value ["deed","state"] []
 f_state_behind : Addr
 d_state_behind : FuncData
 F_state_behind : Fun K "state_behind" "state_behind" s_state_behind f_state_behind d_state_behind
 m_state_behind : mg "state_behind" = some (.ref f_state_behind)
 b_state_behind : Binds K d_state_behind ["deed","state","value"] []
 f_is_name : Addr
 d_is_name : FuncData
 F_is_name : Fun K "is_name" "is_name" s_is_name f_is_name d_is_name
 m_is_name : mg "is_name" = some (.ref f_is_name)
 b_is_name : Binds K d_is_name ["text"] []
 f_is_leaf : Addr
 d_is_leaf : FuncData
 F_is_leaf : Fun K "is_leaf" "is_leaf" s_is_leaf f_is_leaf d_is_leaf
 m_is_leaf : mg "is_leaf" = some (.ref f_is_leaf)
 b_is_leaf : Binds K d_is_leaf ["tree"] []
 f_places : Addr
 d_places : FuncData
 F_places : Fun K "places" "places" s_places f_places d_places
 m_places : mg "places" = some (.ref f_places)
 b_places : Binds K d_places ["tree"] []
 f_leaves : Addr
 d_leaves : FuncData
 F_leaves : Fun K "leaves" "leaves" s_leaves f_leaves d_leaves
 m_leaves : mg "leaves" = some (.ref f_leaves)
 b_leaves : Binds K d_leaves ["tree"] []
 f_part_at : Addr
 d_part_at : FuncData
 F_part_at : Fun K "part_at" "part_at" s_part_at f_part_at d_part_at
 m_part_at : mg "part_at" = some (.ref f_part_at)
 b_part_at : Binds K d_part_at ["tree","place"] []
 f_place_of : Addr
 d_place_of : FuncData
 F_place_of : Fun K "place_of" "place_of" s_place_of f_place_of d_place_of
 m_place_of : mg "place_of" = some (.ref f_place_of)
 b_place_of : Binds K d_place_of ["tree","x"] []
 f_deeper_than : Addr
 d_deeper_than : FuncData
 F_deeper_than : Fun K "deeper_than" "deeper_than" s_deeper_than f_deeper_than d_deeper_than
 m_deeper_than : mg "deeper_than" = some (.ref f_deeper_than)
 b_deeper_than : Binds K d_deeper_than ["tree","bound"] []
 f_check_size : Addr
 d_check_size : FuncData
 F_check_size : Fun K "check_size" "check_size" s_check_size f_check_size d_check_size
 m_check_size : mg "check_size" = some (.ref f_check_size)
 b_check_size : Binds K d_check_size ["tree"] []
 f_check_names : Addr
 d_check_names : FuncData
 F_check_names : Fun K "check_names" "check_names" s_check_names f_check_names d_check_names
 m_check_names : mg "check_names" = some (.ref f_check_names)
 b_check_names : Binds K d_check_names ["tree"] []
 f_formula : Addr
 d_formula : FuncData
 F_formula : Fun K "formula" "formula" s_formula f_formula d_formula
 m_formula : mg "formula" = some (.ref f_formula)
 b_formula : Binds K d_formula ["tree"] []
 f_fresh : Addr
 d_fresh : FuncData
 F_fresh : Fun K "fresh" "fresh" s_fresh f_fresh d_fresh
 m_fresh : mg "fresh" = some (.ref f_fresh)
 b_fresh : Binds K d_fresh ["k","many"] []
 f_knot_over : Addr
 d_knot_over : FuncData
 F_knot_over : Fun K "knot_over" "knot_over" s_knot_over f_knot_over d_knot_over
 m_knot_over : mg "knot_over" = some (.ref f_knot_over)
 b_knot_over : Binds K d_knot_over ["tree","f","left","right"] []
 f_mark_brought : Addr
 d_mark_brought : FuncData
 F_mark_brought : Fun K "mark_brought" "mark_brought" s_mark_brought f_mark_brought d_mark_brought
 m_mark_brought : mg "mark_brought" = some (.ref f_mark_brought)
 b_mark_brought : Binds K d_mark_brought ["tree","deed","state"] []
 f_marked : Addr
 d_marked : FuncData
 F_marked : Fun K "marked" "marked" s_marked f_marked d_marked
 m_marked : mg "marked" = some (.ref f_marked)
 b_marked : Binds K d_marked ["tree","deed","state"] []
 f_moments : Addr
 d_moments : FuncData
 F_moments : Fun K "moments" "moments" s_moments f_moments d_moments
 m_moments : mg "moments" = some (.ref f_moments)
 b_moments : Binds K d_moments ["tree","k","many","row"] []
 f_formula_held : Addr
 d_formula_held : FuncData
 F_formula_held : Fun K "formula_held" "formula_held" s_formula_held f_formula_held d_formula_held
 m_formula_held : mg "formula_held" = some (.ref f_formula_held)
 b_formula_held : Binds K d_formula_held ["state"] []
 f_rank : Addr
 d_rank : FuncData
 F_rank : Fun K "rank" "rank" s_rank f_rank d_rank
 m_rank : mg "rank" = some (.ref f_rank)
 b_rank : Binds K d_rank ["tree"] []
 f_puts : Addr
 d_puts : FuncData
 F_puts : Fun K "puts" "puts" s_puts f_puts d_puts
 m_puts : mg "puts" = some (.ref f_puts)
 b_puts : Binds K d_puts ["tree","k"] []
 f_must_put : Addr
 d_must_put : FuncData
 F_must_put : Fun K "must_put" "must_put" s_must_put f_must_put d_must_put
 m_must_put : mg "must_put" = some (.ref f_must_put)
 b_must_put : Binds K d_must_put ["tree","k"] []
 f_least : Addr
 d_least : FuncData
 F_least : Fun K "least" "least" s_least f_least d_least
 m_least : mg "least" = some (.ref f_least)
 b_least : Binds K d_least ["tree","k"] []
 f_show_deed : Addr
 d_show_deed : FuncData
 F_show_deed : Fun K "show_deed" "show_deed" s_show_deed f_show_deed d_show_deed
 m_show_deed : mg "show_deed" = some (.ref f_show_deed)
 b_show_deed : Binds K d_show_deed ["deed"] []
 f_show_row : Addr
 d_show_row : FuncData
 F_show_row : Fun K "show_row" "show_row" s_show_row f_show_row d_show_row
 m_show_row : mg "show_row" = some (.ref f_show_row)
 b_show_row : Binds K d_show_row ["row"] []
 f_is_number : Addr
 d_is_number : FuncData
 F_is_number : Fun K "is_number" "is_number" s_is_number f_is_number d_is_number
 m_is_number : mg "is_number" = some (.ref f_is_number)
 b_is_number : Binds K d_is_number ["word"] []
 f_read_part : Addr
 d_read_part : FuncData
 F_read_part : Fun K "read_part" "read_part" s_read_part f_read_part d_read_part
 m_read_part : mg "read_part" = some (.ref f_read_part)
 b_read_part : Binds K d_read_part ["kind","word"] []
 f_read_deed : Addr
 d_read_deed : FuncData
 F_read_deed : Fun K "read_deed" "read_deed" s_read_deed f_read_deed d_read_deed
 m_read_deed : mg "read_deed" = some (.ref f_read_deed)
 b_read_deed : Binds K d_read_deed ["text"] []
 f_read_row : Addr
 d_read_row : FuncData
 F_read_row : Fun K "read_row" "read_row" s_read_row f_read_row d_read_row
 m_read_row : mg "read_row" = some (.ref f_read_row)
 b_read_row : Binds K d_read_row ["text"] []
 f_show : Addr
 d_show : FuncData
 F_show : Fun K "show" "show" s_show f_show d_show
 m_show : mg "show" = some (.ref f_show)
 b_show : Binds K d_show ["tree"] []
 f_name_end : Addr
 d_name_end : FuncData
 F_name_end : Fun K "name_end" "name_end" s_name_end f_name_end d_name_end
 m_name_end : mg "name_end" = some (.ref f_name_end)
 b_name_end : Binds K d_name_end ["text","start"] []
 f_past : Addr
 d_past : FuncData
 F_past : Fun K "past" "past" s_past f_past d_past
 m_past : mg "past" = some (.ref f_past)
 b_past : Binds K d_past ["text","at","sign"] []
 f_tree_from : Addr
 d_tree_from : FuncData
 F_tree_from : Fun K "tree_from" "tree_from" s_tree_from f_tree_from d_tree_from
 m_tree_from : mg "tree_from" = some (.ref f_tree_from)
 b_tree_from : Binds K d_tree_from ["text","start","level"] []
 f_read : Addr
 d_read : FuncData
 F_read : Fun K "read" "read" s_read f_read d_read
 m_read : mg "read" = some (.ref f_read)
 b_read : Binds K d_read ["text"] []
 f_figures : Addr
 d_figures : FuncData
 F_figures : Fun K "figures" "figures" s_figures f_figures d_figures
 m_figures : mg "figures" = some (.ref f_figures)
 b_figures : Binds K d_figures ["row"] []
 f_judge : Addr
 d_judge : FuncData
 F_judge : Fun K "judge" "judge" s_judge f_judge d_judge
 m_judge : mg "judge" = some (.ref f_judge)
 b_judge : Binds K d_judge ["text","k","rowtext"] []
 f_row_by_shelf : Addr
 d_row_by_shelf : FuncData
 F_row_by_shelf : Fun K "row_by_shelf" "row_by_shelf" s_row_by_shelf f_row_by_shelf d_row_by_shelf
 m_row_by_shelf : mg "row_by_shelf" = some (.ref f_row_by_shelf)
 b_row_by_shelf : Binds K d_row_by_shelf ["tree","k","shelf"] []
 f_row_by_boxes : Addr
 d_row_by_boxes : FuncData
 F_row_by_boxes : Fun K "row_by_boxes" "row_by_boxes" s_row_by_boxes f_row_by_boxes d_row_by_boxes
 m_row_by_boxes : mg "row_by_boxes" = some (.ref f_row_by_boxes)
 b_row_by_boxes : Binds K d_row_by_boxes ["tree","k","box","shelf"] []
 f_row_into : Addr
 d_row_into : FuncData
 F_row_into : Fun K "row_into" "row_into" s_row_into f_row_into d_row_into
 m_row_into : mg "row_into" = some (.ref f_row_into)
 b_row_into : Binds K d_row_into ["tree","k","box","shelf"] []
 f_row_for : Addr
 d_row_for : FuncData
 F_row_for : Fun K "row_for" "row_for" s_row_for f_row_for d_row_for
 m_row_for : mg "row_for" = some (.ref f_row_for)
 b_row_for : Binds K d_row_for ["tree","k"] []
 f__law_at : Addr
 d__law_at : FuncData
 F__law_at : Fun K "_law_at" "_law_at" s__law_at f__law_at d__law_at
 m__law_at : mg "_law_at" = some (.ref f__law_at)
 b__law_at : Binds K d__law_at ["script","k"] []
 f__law_names : Addr
 d__law_names : FuncData
 F__law_names : Fun K "_law_names" "_law_names" s__law_names f__law_names d__law_names
 m__law_names : mg "_law_names" = some (.ref f__law_names)
 b__law_names : Binds K d__law_names ["cell","many"] []
 f__law_many : Addr
 d__law_many : FuncData
 F__law_many : Fun K "_law_many" "_law_many" s__law_many f__law_many d__law_many
 m__law_many : mg "_law_many" = some (.ref f__law_many)
 b__law_many : Binds K d__law_many ["script"] []
 f__law_second : Addr
 d__law_second : FuncData
 F__law_second : Fun K "_law_second" "_law_second" s__law_second f__law_second d__law_second
 m__law_second : mg "_law_second" = some (.ref f__law_second)
 b__law_second : Binds K d__law_second ["script"] []
 f__law_tree : Addr
 d__law_tree : FuncData
 F__law_tree : Fun K "_law_tree" "_law_tree" s__law_tree f__law_tree d__law_tree
 m__law_tree : mg "_law_tree" = some (.ref f__law_tree)
 b__law_tree : Binds K d__law_tree ["script","at","many"] []
 f__law_ranks : Addr
 d__law_ranks : FuncData
 F__law_ranks : Fun K "_law_ranks" "_law_ranks" s__law_ranks f__law_ranks d__law_ranks
 m__law_ranks : mg "_law_ranks" = some (.ref f__law_ranks)
 b__law_ranks : Binds K d__law_ranks ["tree","place"] []
 f_law : Addr
 d_law : FuncData
 F_law : Fun K "law" "law" s_law f_law d_law
 m_law : mg "law" = some (.ref f_law)
 b_law : Binds K d_law ["script"] []
 z_all : mg "all" = none
 z_any : mg "any" = none
 z_int : mg "int" = none
 z_len : mg "len" = none
 z_list : mg "list" = none
 z_max : mg "max" = none
 z_min : mg "min" = none
 z_range : mg "range" = none
 z_str : mg "str" = none
 z_tuple : mg "tuple" = none
 z_zip : mg "zip" = none
 t_BOXES_TOLD : Tok
 c_BOXES_TOLD : mg "BOXES_TOLD" = some (.int 10000 t_BOXES_TOLD)
 t_LONGEST_NAME : Tok
 c_LONGEST_NAME : mg "LONGEST_NAME" = some (.int 8 t_LONGEST_NAME)
 t_MOST_DEEP : Tok
 c_MOST_DEEP : mg "MOST_DEEP" = some (.int 24 t_MOST_DEEP)
 t_MOST_FIGURES : Tok
 c_MOST_FIGURES : mg "MOST_FIGURES" = some (.int 4 t_MOST_FIGURES)
 t_MOST_LEAVES : Tok
 c_MOST_LEAVES : mg "MOST_LEAVES" = some (.int 32 t_MOST_LEAVES)
 t_SHELF_PLACES : Tok
 c_SHELF_PLACES : mg "SHELF_PLACES" = some (.int 100 t_SHELF_PLACES)
 C_NoDeed : Addr
 m_NoDeed : mg "NoDeed" = some (.ref C_NoDeed)
 x_NoDeed : ErrAt K C_NoDeed
 C_TooFew : Addr
 m_TooFew : mg "TooFew" = some (.ref C_TooFew)
 x_TooFew : ErrAt K C_TooFew
section
variable {P : Program} {w : World} {K : PySem.W.Frag} {mg : Str → Option Value} {base : Heap}
noncomputable def lawAt (ns : List Int) (k : Nat) : Int :=
 if k < ns.length then ns.getD k 0 else
  let c : Int := 40692 * k + 1
  let c : Int := if 0 < ns.length then c + ns.getD (k * k % ns.length) 0 % 2147483647 else c
  let c : Int := c * 48271 % 2147483647
  c * c % 2147483629
noncomputable def spAt (K : PySem.W.Frag) : Sp := fun vs H Q _ => ∃ (a : Addr) (ns : List Int) (k : Int),vs = [.ref a,.int k] ∧ SqL K H a (ns.map V.int) ∧ ns.length ≤ 63 ∧ 0 ≤ k ∧ k < 1000000 ∧ Q (.int (lawAt ns k.toNat)) H
theorem at_int {ns : List Int} {k : Nat} (h : k < ns.length) : atI (ns.map V.int) (k : Int) = some (.int (ns.getD k 0)) :=
 atI_nat (by simp [List.getD,h])
theorem ok_at (T : Txt K mg) : FnOk P w K mg base CX0 1 T.f__law_at T.d__law_at ["script","k"] (spAt K) := by
 refine T.F__law_at.ok (k := 0) sc__law_at (fun vs H Q E h => ?_) (fun cdv A outer s H vs Q E hr h => ?_)
 · obtain ⟨a,ns,k,rfl,_⟩ := h
   rfl
 obtain ⟨a,ns,k,rfl,hS,h63,h0,hk,q⟩ := h
 obtain ⟨k,rfl⟩ : ∃ n : Nat,k = (n : Int) := ⟨k.toNat,by (clear hk h63; lia)⟩
 rw [Int.toNat_natCast] at q
 have nd := sc__law_at.nd
 refine ⟨_,(pss_cons (ps_if (pt_cmpR op_lt (pv 1) (pe_callB call_len_seq rfl T.z_len bt_len (pa_cons (pv 0) pa_nil)) (nomark _)) (pss_one (ps_ret (pe_ix ix_list (pv 0) (pv 1) (fun _ _ => rfl)))) pss_nil)
  (pss_cons (ps_let (i := 2) nd rfl (Or.inl rfl) (pe_op op_add (pe_op op_mul pe_int (pv 1)) pe_int))
  (pss_cons (ps_if (pt_cmpR op_gt (pe_callB call_len_seq rfl T.z_len bt_len (pa_cons (pv 0) pa_nil)) pe_int (nomark _)) (pss_one (ps_let (i := 2) nd rfl (Or.inl rfl) (pe_op op_add (pv 2) (pe_op op_mod (pe_ix ix_list (pv 0) (pe_op op_mod (pe_op op_mul (pv 1) (pv 1)) (pe_callB call_len_seq rfl T.z_len bt_len (pa_cons (pv 0) pa_nil))) (fun _ _ => rfl)) pe_int)))) pss_nil)
  (pss_cons (ps_let (i := 2) nd rfl (Or.inl rfl) (pe_op op_mod (pe_op op_mul (pv 2) pe_int) pe_int))
  (pss_one (ps_ret (pe_op op_mod (pe_op op_mul (pv 2) (pv 2)) pe_int))))))),?_⟩
 refine cutC1 fun C hC => ?_
 walk_at "rd"
 unfold lawAt at q
 refine ex_len hS ?_
 rw [List.length_map]
 refine ite2 (fun c => ?_) (fun c => ?_)
 · have c : k < ns.length := by simpa using c
   rw [if_pos c] at q
   exact ex_at hS (at_int c) q
 · have c : ¬ k < ns.length := by simpa using c
   rw [if_neg c] at q
   dsimp only at q
   rw [hC]
   clear hC C
   refine cutC2 fun C hC => ?_
   have tail : ∀ z : Int,Q (.int (z * 48271 % 2147483647 * (z * 48271 % 2147483647) % 2147483629)) H → C [some (.ref a),some (.int k),some (.int z)] H := by
    intro z hz
    rw [hC]
    clear hC C q
    walk_at "rd"
    exact ⟨by walk_at "cm",by decide,by walk_at "cm",by decide,hz⟩
   walk_at "rd"
   refine ⟨by walk_at "cm",ex_len hS ?_⟩
   rw [List.length_map]
   refine ite2 (fun d => ?_) (fun d => ?_)
   · have d : 0 < ns.length := by simpa using d
     rw [if_pos d] at q
     have m : k * k % ns.length < ns.length := Nat.mod_lt _ d
     have e : ((k : Int) * (k : Int) % ((ns.length : Nat) : Int)) = ((k * k % ns.length : Nat) : Int) := by push_cast; rfl
     refine ⟨by walk_at "cm",ex_len hS ?_⟩
     rw [List.length_map,e]
     exact ⟨by (clear h63 h0 hk c m e hC; omega),ex_at hS (at_int m) ⟨_,rfl,by decide,tail _ q⟩⟩
   · have d : ¬ 0 < ns.length := by simpa using d
     rw [if_neg d] at q
     exact tail _ q
noncomputable def spNames : Sp := fun vs H Q _ => ∃ (c : Int) (many : Nat),vs = [.int c,.int many] ∧ many ≤ 32 ∧ RetL H ((List.range many).map fun k => D.str (nmS c many k)) Q
theorem ok_names (T : Txt K mg) : FnOk P w K mg base CX0 1 T.f__law_names T.d__law_names ["cell","many"] spNames := by
 refine T.F__law_names.ok (k := 0) sc__law_names (fun vs H Q E h => ?_) (fun cdv A outer s H vs Q E hr h => ?_)
 · obtain ⟨c,many,rfl,_⟩ := h
   rfl
 obtain ⟨c,many,rfl,hm,q⟩ := h
 have nd := sc__law_names.nd
 refine ⟨_,(pss_cons (ps_let (i := 2) nd rfl (Or.inl rfl) pe_str)
  (pss_cons (ps_let (i := 3) nd rfl (Or.inl rfl) (pe_op op_add pe_int (pe_op op_mod (pe_op op_fdiv (pv 0) pe_int) (pe_ix ixF (pe_lst (pa_cons pe_int (pa_cons pe_int pa_nil))) (pe_callTy call_intB rfl T.z_int bt_int (pa_cons (pe_cmpR op_gt (pv 1) pe_int (nomark _)) pa_nil)) (fun _ _ => rfl)))))
  (pss_cons (ps_let (i := 4) nd rfl (Or.inl rfl) (pe_lst pa_nil))
  (pss_cons (ps_for PassesOwn.never rfl (pi_range1 rfl T.z_range (pa_cons (pv 1) pa_nil)) (pg_name (i := 5) nd rfl (Or.inl rfl)) (pss_cons (ps_let (i := 6) nd rfl (Or.inl rfl) (pe_op op_rep (pe_lst (pa_cons (pe_ix ix_str (pv 2) (pe_op op_mod (pv 0) pe_int) (fun _ _ => rfl)) pa_nil)) (pv 3)))
    (pss_cons (ps_asg (pe_ix ix_str (pv 2) (pe_op op_mod (pe_op op_add (pe_op op_add (pv 0) pe_int) (pe_op op_mod (pv 5) pe_int)) pe_int) (fun _ _ => rfl)) (pg_sub (pv 6) (pe_op op_mod (pe_op op_fdiv (pv 0) pe_int) (pv 3)) set_list))
    (pss_cons (ps_if (pt_cmpR op_gt (pv 5) pe_int (nomark _)) (pss_one (ps_expr (pe_bm PySem.F.plainAttrs_list PySem.F.slot_list_append PySem.F.type_list_append mt_append (pv 6) (pa_cons (pe_ix ix_str (pv 2) (pe_op op_mod (pv 0) pe_int) (fun _ _ => rfl)) pa_nil)))) pss_nil)
    (pss_cons (ps_if (PW.pt (pw_and (pt_cmpR op_eq (pe_op op_mod (pe_op op_fdiv (pv 0) pe_int) pe_int) pe_int (nomark _)) (pw_and1 (pt_cmpR op_le (pv 1) pe_int (nomark _))))) (pss_one (ps_let (i := 6) nd rfl (Or.inl rfl) (pe_op op_rep (pe_lst (pa_cons (pe_ix ix_str (pv 2) (pe_op op_mod (pv 0) pe_int) (fun _ _ => rfl)) pa_nil)) (pe_op op_add pe_int (pe_op op_mod (pe_op op_add (pv 0) (pv 5)) pe_int))))) pss_nil)
    (pss_one (ps_expr (pe_bm PySem.F.plainAttrs_list PySem.F.slot_list_append PySem.F.type_list_append mt_append (pv 4) (pa_cons (pe_bm PySem.F.plainAttrs_str PySem.F.slot_str_join PySem.F.type_str_join mt_join pe_str (pa_cons (pv 6) pa_nil)) pa_nil)))))))))
  (pss_one (ps_ret (pv 4))))))),?_⟩
 walk_at "rd"
 refine ⟨⟨by decide,by decide⟩,by decide,NewO.mk fun p1 H1 S1 n1 e1 => ?_⟩
 walk_at "rd"
 have hz : atI [V.int 8,V.int 7] (if decide (24 < (many : Int)) = true then 1 else 0) = some (.int (if 24 < many then 7 else 8)) := by
  by_cases h : 24 < many
  · rw [if_pos (decide_eq_true (by (clear hm n1 e1; omega))),if_pos h]; exact atI_1
  · rw [if_neg (by simp; (clear hm n1 e1; omega)),if_neg h]; exact atI_0
 refine ⟨_,items_l e1,_,hz,_,rfl,by split <;> decide,Nat.zero_le _,NewO.mk fun p2 H2 S2 n2 e2 => ?_⟩
 have S := S1.trans S2
 have n0 : H p2 = none := S1.free n2
 have hsz : (1 + c / 26 % (if 24 < many then 7 else 8) : Int) = (M.nmSize c many : Nat) := by
  unfold M.nmSize
  have : (0 : Int) < (if 24 < many then 7 else 8) := by split <;> decide
  have := Int.emod_nonneg (c / 26) (show (if 24 < many then 7 else 8 : Int) ≠ 0 by omega)
  push_cast
  (clear hm n1 e1 hz n2 e2 n0; lia)
 rw [hsz]
 have s1 := M.nmSize_lo c many
 have s2 := (M.nmSize_hi c many).1
 generalize hsize : M.nmSize c many = size at hsz s1 s2
 refine ⟨by (clear hm n1 e1 hz n2 e2 n0 hsize hsz s1 s2; lia),by omega,?_⟩
 rw [Int.toNat_natCast]
 refine forR (fun i σ H' => ∃ (o5 o6 : Option V),i ≤ many ∧ Same H H' ∧ H' p2 = some (.lst ((List.range i).map fun k => V.str (nmS c many k))) ∧
  σ = [some (.int c),some (.int many),some (.str LETT),some (.int size),some (.ref p2),o5,o6]) ⟨none,none,Nat.zero_le _,S,e2,rfl⟩ ?_ ?_
 · rintro i σ H3 hi ⟨o5,o6,_,S3,e3,rfl⟩
   simp only [a_gName]
   refine cutC2 fun C hC => ?_
   walk_at "rd"
   have hk : ((c + 1 + (0 + (i : Int)) % 24) % 26) = (c + 1 + ((i % 24 : Nat) : Int)) % 26 := by push_cast; (clear hm n1 e1 hz n2 e2 n0 hsize hsz s1 s2 hi e3 hC; lia)
   refine ⟨by decide,lett_big,_,lett_c c,by decide,NewO.mk fun p4 H4 S4 n4 e4 => ⟨p4,rfl,_,e4,by (clear hm n1 e1 hz n2 e2 n0 hsize hsz s1 s2 hi e3 hC hk n4 e4; lia),by (clear hm n1 e1 hz n2 e2 n0 hsize hsz hk n4 e4 e3 hC hi s1; omega),small_le (by simp; (clear hm n1 e1 hz n2 e2 n0 hsize hsz hk n4 e4 e3 hC hi s1; lia)),NewO.mk fun p5 H5 S5 n5 e5 => ?_⟩⟩
   rw [Int.toNat_natCast,rep_one] at e5
   rw [hk]
   have hpos := M.pos_lt c size s1
   have hp0 : 0 ≤ c / 208 % (size : Int) := Int.emod_nonneg _ (by (clear s2 hi e3 hC hk n4 e4 n5 e5 hpos hm n1 e1 hz n2 e2 n0 hsize hsz; omega))
   refine ⟨by decide,by decide,lett_big,_,lett_c _,⟨by decide,by decide⟩,by (clear hi e3 hC hk n4 e4 n5 e5 hpos hp0 hm n1 e1 hz n2 e2 n0 hsize hsz s2; omega),p5,rfl,_,e5,_,ixN_int hp0 (by simp; (clear hm n1 e1 hz n2 e2 n0 hsize hsz s1 s2 hi e3 hC hk n4 e4 hp0 n5 e5; lia)),PutO.mk fun H6 k6 e6 => ?_⟩
   have e25 : p2 ≠ p5 := ne_of_none (S4 _ _ e3) n5
   have S6 : Same H H6 := Same.put_new ((S3.trans S4).trans S5) ((S3.trans S4).free n5) k6
   have f6 : H6 p2 = some (.lst ((List.range i).map fun k => V.str (nmS c many k))) := by
    rw [k6 _ e25]; exact S5 _ _ (S4 _ _ e3)
   have e6' : H6 p5 = some (.lst (((List.replicate size (M.let26 c)).set (c / 208 % (size : Int)).toNat (M.let26 (c + 1 + ((i % 24 : Nat) : Int)))).map fun x => V.str ⟨#[x]⟩)) := by
    rw [e6,List.map_set,List.map_replicate]
   have n5' := (S3.trans S4).free n5
   clear e6 k6 e5 e4 n4 n5 S5 S4 S3 hpos hk
   generalize hW : (List.replicate size (M.let26 c)).set (c / 208 % (size : Int)).toNat (M.let26 (c + 1 + ((i % 24 : Nat) : Int))) = W at e6'
   have lW : W.length = size := by rw [← hW]; simp
   have nm0 : ¬ (c / 1664 % 3 = 0 ∧ many ≤ 8) → ¬ 23 < i → M.nm c many i = W := fun h1 h2 => by
    unfold M.nm; rw [if_neg h1,hsize,if_neg h2,hW]
   have nm1 : ¬ (c / 1664 % 3 = 0 ∧ many ≤ 8) → 23 < i → M.nm c many i = W ++ [M.let26 c] := fun h1 h2 => by
    unfold M.nm; rw [if_neg h1,hsize,if_pos h2,hW]
   have nm2 : (c / 1664 % 3 = 0 ∧ many ≤ 8) → M.nm c many i = List.replicate (1 + ((c + i) % 8).toNat) (M.let26 c) := fun h1 => by
    unfold M.nm; rw [if_pos h1]
   clear hW hp0
   rw [hC]
   clear hC C
   refine cutC1 fun C hC => ?_
   have tail : ∀ (l : List Nat) (H7 : Hp),Same H H7 → H7 p2 = some (.lst ((List.range i).map fun k => V.str (nmS c many k))) → H7 p5 = some (.lst (l.map fun x => V.str ⟨#[x]⟩)) → l.length ≤ size + 1 → (¬ (c / 1664 % 3 = 0 ∧ many ≤ 8) → M.nm c many i = l) →
    C [some (.int c),some (.int many),some (.str LETT),some (.int size),some (.ref p2),some (.int (0 + i)),some (.ref p5)] H7 := by
    intro l H7 S7 f7 e7 ll hnm
    rw [hC]
    clear hC C nm0 nm1 e6' f6 S6
    refine cutC1 fun C hC => ?_
    have fin : ∀ (l' : List Nat) (p' : Addr) (H8 : Hp),Same H H8 → H8 p2 = some (.lst ((List.range i).map fun k => V.str (nmS c many k))) → H8 p' = some (.lst (l'.map fun x => V.str ⟨#[x]⟩)) → l'.length ≤ 1000 → M.nm c many i = l' →
     C [some (.int c),some (.int many),some (.str LETT),some (.int size),some (.ref p2),some (.int (0 + i)),some (.ref p')] H8 := by
     intro l' p' H8 S8 f8 e8 ll' hl
     rw [hC]
     walk_at "rd"
     refine app_join f8 e8 (by simp; (clear e25 n5' lW nm2 f7 e7 ll hnm hC f8 e8 ll' hl hsize hsz s1 s2 hi e3 n2 e2 n0 e1 hz n1; lia)) ll' fun H9 k9 e9 => ⟨hi,Same.put_new S8 n0 k9,?_,_,rfl⟩
     rw [e9,List.range_succ,List.map_append,← hl]; rfl
    walk_at "rd"
    refine ⟨⟨by decide,by decide⟩,by decide,ite2 (fun c2 => ite2 (fun c3 => ?_) (fun c3 => fin l p5 H7 S7 f7 e7 (by (clear hm n1 e1 hz n2 e2 e3 e25 n5' lW nm2 f7 n0 hsize hsz hC c2 c3 hi e7 s1 hnm; lia)) (hnm fun z => c3 (decide_eq_true (by (clear hm n1 e1 hz n2 e2 n0 hsize hsz s1 s2 hi e3 e25 n5' lW nm2 f7 e7 ll hnm hC c2 c3; lia)))))) (fun c2 => fin l p5 H7 S7 f7 e7 (by (clear hm n1 e1 hz n2 e2 e3 e25 n5' lW nm2 f7 n0 hsize hsz hC c2 hi e7 s1 hnm; lia)) (hnm fun z => c2 (decide_eq_true z.1)))⟩
    have c2 := of_decide_eq_true c2
    have c3 : many ≤ 8 := by have := of_decide_eq_true c3; (clear hm n1 e1 hz n2 e2 n0 hsize hsz s1 s2 hi e3 e25 n5' lW nm2 f7 e7 ll hnm hC c3 c2; lia)
    have hn : (1 + (c + (0 + (i : Int))) % 8).toNat = 1 + ((c + i) % 8).toNat := by (clear hm n1 e1 hz n2 e2 n0 hsize hsz s1 s2 hi e3 e25 n5' lW nm2 f7 e7 ll hnm hC c2 c3; lia)
    refine ⟨by decide,lett_big,_,lett_c c,by decide,NewO.mk fun p7 H8 S8 n8 e8 => ⟨by decide,p7,rfl,_,e8,by (clear hm n1 e1 hz n2 e2 n0 hsize hsz s1 s2 hi e3 e25 n5' lW nm2 f7 e7 ll hnm hC c2 c3 hn n8 e8; omega),by (clear hm n1 e1 hz n2 e2 n0 hsize hsz s1 s2 hi e3 e25 n5' lW nm2 f7 e7 ll hnm hC c2 c3 hn n8 e8; omega),small_le (by simp; (clear hm n1 e1 hz n2 e2 n0 hsize hsz s1 s2 hi e3 e25 n5' lW nm2 f7 e7 ll hnm hC c2 c3 hn n8 e8; omega)),NewO.mk fun p8 H9 S9 n9 e9 => ?_⟩⟩
    rw [hn,rep_one] at e9
    exact fin (List.replicate (1 + ((c + i) % 8).toNat) (M.let26 c)) p8 H9 ((S7.trans S8).trans S9) (S9 _ _ (S8 _ _ f7)) (by rw [e9,List.map_replicate]) (by simp; (clear hm n1 e1 hz n2 e2 n0 hsize hsz s1 s2 hi e3 e25 n5' lW nm2 f7 e7 ll hnm hC c2 c3 hn n8 e8 n9 e9; omega)) (nm2 ⟨c2,c3⟩)
   walk_at "rd"
   refine ite2 (fun c1 => ?_) (fun c1 => ?_)
   · have c1 : 23 < i := by have := of_decide_eq_true c1; (clear hm n1 e1 hz n2 e2 n0 hsize hsz s1 s2 hi e3 e25 f6 n5' e6' lW nm0 nm1 nm2 hC c1; omega)
     exact ⟨ty_lst e6',by decide,lett_big,_,lett_c c,_,e6',small_size (by simp; (clear hm n1 e1 hz n2 e2 nm0 nm1 nm2 hC c1 n0 hsize hsz e3 e25 f6 hi n5' s1 e6'; lia)),PutO.mk fun H7 k7 e7 => tail (W ++ [M.let26 c]) H7 (Same.put_new S6 n5' k7) (by rw [k7 _ e25]; exact f6) (by rw [e7,List.map_append]; rfl) (by simp; (clear hm n1 e1 hz n2 e2 n0 hsize hsz s1 s2 hi e3 e25 f6 hC c1 e7 n5' e6' nm1 nm2; lia)) (fun h => nm1 h c1)⟩
   · have c1 : ¬ 23 < i := fun z => c1 (decide_eq_true (by (clear hm n1 e1 hz n2 e2 n0 hsize hsz s1 s2 hi e3 e25 f6 n5' e6' lW nm0 nm1 nm2 hC c1; omega)))
     exact tail W H6 S6 f6 e6' (by (clear hm n1 e1 hz n2 e2 n0 hsize hsz s1 s2 hi e3 e25 f6 hC c1 n5' e6' nm1 nm2; lia)) (fun h => nm0 h c1)
 · rintro σ H3 ⟨o5,o6,_,S3,e3,rfl⟩
   walk_at "rd"
   refine q p2 _ _ S3 n0 e3 ?_
   have : ∀ (l : List Nat),Dts H3 (l.map fun k => D.str (nmS c many k)) (l.map fun k => V.str (nmS c many k)) := fun l => by
    induction l with
    | nil => exact .nil
    | cons k r ih => exact .cons (isD_str.mpr rfl) ih
   exact this _
noncomputable def lawMany (ns : List Int) : Nat := (if lawAt ns 0 % 3 = 2 then 13 + lawAt ns 0 / 3 % 20 else 1 + lawAt ns 0 / 3 % 12).toNat
noncomputable def spMany (K : PySem.W.Frag) : Sp := fun vs H Q _ => ∃ (a : Addr) (ns : List Int),vs = [.ref a] ∧ SqL K H a (ns.map V.int) ∧ ns.length ≤ 63 ∧ ∀ (m : Nat) H',1 ≤ m → m ≤ 32 → Same H H' → m = lawMany ns → Q (.int m) H'
theorem ok_many (T : Txt K mg) : FnOk P w K mg base CX0 2 T.f__law_many T.d__law_many ["script"] (spMany K) := by
 refine T.F__law_many.ok (k := 1) sc__law_many (fun vs H Q E h => ?_) (fun cdv A outer s H vs Q E hr h => ?_)
 · obtain ⟨a,ns,rfl,_⟩ := h
   rfl
 obtain ⟨a,ns,rfl,hS,h63,q⟩ := h
 have nd := sc__law_many.nd
 have G__law_at := (ok_at (P := P) (w := w) (base := base) T).mono (k := 1) (by omega)
 refine ⟨_,(pss_cons (ps_let (i := 1) nd rfl (Or.inl rfl) (pe_call G__law_at hr rfl T.m__law_at T.F__law_at.kp T.b__law_at .nil pass0 (pa_cons (pv 0) (pa_cons pe_int pa_nil))))
  (pss_one (ps_ret (pe_ix ixF (pe_lst (pa_cons (pe_op op_add pe_int (pe_op op_mod (pe_op op_fdiv (pv 1) pe_int) pe_int)) (pa_cons (pe_op op_add pe_int (pe_op op_mod (pe_op op_fdiv (pv 1) pe_int) pe_int)) pa_nil))) (pe_callTy call_intB rfl T.z_int bt_int (pa_cons (pe_cmpR op_eq (pe_op op_mod (pv 1) pe_int) pe_int (nomark _)) pa_nil)) (fun _ _ => rfl))))),?_⟩
 walk_at "rd"
 refine ⟨a,ns,0,rfl,hS,h63,by decide,by decide,?_⟩
 have hmn : lawMany ns = (if lawAt ns (0 : Int).toNat % 3 = 2 then 13 + lawAt ns (0 : Int).toNat / 3 % 20 else 1 + lawAt ns (0 : Int).toNat / 3 % 12).toNat := rfl
 generalize lawAt ns (0 : Int).toNat = c at hmn ⊢
 walk_at "rd"
 refine ⟨⟨by decide,by decide⟩,by decide,⟨by decide,by decide⟩,by decide,by decide,NewO.mk fun p1 H1 S1 n1 e1 => ⟨by decide,p1,rfl,_,items_l e1,?_⟩⟩
 have h1 : 0 ≤ c / 3 % 12 := by (clear h63 hmn n1 e1; lia)
 have h2 : 0 ≤ c / 3 % 20 := by (clear h63 hmn n1 e1 h1; lia)
 by_cases h : c % 3 = 2
 · have := q (13 + c / 3 % 20).toNat H1 (by (clear h63 hmn n1 e1 h1 h2 h; lia)) (by (clear h63 hmn n1 e1 h1 h2 h; lia)) S1 (by rw [hmn,if_pos h])
   rw [Int.toNat_of_nonneg (by (clear h63 hmn n1 e1 h1 h2 h; lia))] at this
   exact ⟨_,by rw [if_pos (decide_eq_true h)]; exact atI_1,this⟩
 · have := q (1 + c / 3 % 12).toNat H1 (by (clear h63 hmn n1 e1 h1 h2 h; lia)) (by (clear h63 hmn n1 e1 h1 h2 h; lia)) S1 (by rw [hmn,if_neg h])
   rw [Int.toNat_of_nonneg (by (clear h63 hmn n1 e1 h1 h2 h; lia))] at this
   exact ⟨_,by rw [if_neg (by simpa using h)]; exact atI_0,this⟩
noncomputable def lawSecond (ns : List Int) : Int := if lawAt ns 2 % 4 = 3 then lawAt ns 1 else lawAt ns 2
noncomputable def spSecond (K : PySem.W.Frag) : Sp := fun vs H Q _ => ∃ (a : Addr) (ns : List Int),vs = [.ref a] ∧ SqL K H a (ns.map V.int) ∧ ns.length ≤ 63 ∧ Q (.int (lawSecond ns)) H
theorem ok_second (T : Txt K mg) : FnOk P w K mg base CX0 2 T.f__law_second T.d__law_second ["script"] (spSecond K) := by
 refine T.F__law_second.ok (k := 1) sc__law_second (fun vs H Q E h => ?_) (fun cdv A outer s H vs Q E hr h => ?_)
 · obtain ⟨a,ns,rfl,_⟩ := h
   rfl
 obtain ⟨a,ns,rfl,hS,h63,q⟩ := h
 have nd := sc__law_second.nd
 have G__law_at := (ok_at (P := P) (w := w) (base := base) T).mono (k := 1) (by omega)
 refine ⟨_,(pss_cons (ps_if (pt_cmpR op_eq (pe_op op_mod (pe_call G__law_at hr rfl T.m__law_at T.F__law_at.kp T.b__law_at .nil pass0 (pa_cons (pv 0) (pa_cons pe_int pa_nil))) pe_int) pe_int (nomark _)) (pss_one (ps_ret (pe_call G__law_at hr rfl T.m__law_at T.F__law_at.kp T.b__law_at .nil pass0 (pa_cons (pv 0) (pa_cons pe_int pa_nil))))) pss_nil)
  (pss_one (ps_ret (pe_call G__law_at hr rfl T.m__law_at T.F__law_at.kp T.b__law_at .nil pass0 (pa_cons (pv 0) (pa_cons pe_int pa_nil)))))),?_⟩
 walk_at "rd"
 refine ⟨a,ns,2,rfl,hS,h63,by decide,by decide,_,rfl,by decide,ite2 (fun z => ?_) (fun z => ?_)⟩
 · have z : lawAt ns 2 % 4 = 3 := of_decide_eq_true z
   rw [lawSecond,if_pos z] at q
   exact ⟨a,ns,1,rfl,hS,h63,by decide,by decide,q⟩
 · have z : ¬ lawAt ns 2 % 4 = 3 := fun y => z (decide_eq_true y)
   rw [lawSecond,if_neg z] at q
   exact ⟨a,ns,2,rfl,hS,h63,by decide,by decide,q⟩
noncomputable def spTree (K : PySem.W.Frag) : Sp := fun vs H Q _ => ∃ (a : Addr) (ns : List Int) (at' many : Nat),vs = [.ref a,.int at',.int many] ∧ SqL K H a (ns.map V.int) ∧ ns.length ≤ 63 ∧ at' ≤ 1000 ∧ 1 ≤ many ∧ many ≤ 32 ∧
 ∀ t c c' v H',Same H H' → Dt H' (dT t) v → TreeOf many t c c' → (c = lawSecond ns ∧ c' = lawAt ns at') → Q v H'
theorem ok_tree (T : Txt K mg) : FnOk P w K mg base CX0 3 T.f__law_tree T.d__law_tree ["script","at","many"] (spTree K) := by
 refine T.F__law_tree.ok (k := 2) sc__law_tree (fun vs H Q E h => ?_) (fun cdv A outer s H vs Q E hr h => ?_)
 · obtain ⟨a,ns,at',many,rfl,_⟩ := h
   rfl
 obtain ⟨a,ns,at',many,rfl,hS,h63,hat,hm1,hm,q⟩ := h
 have nd := sc__law_tree.nd
 have G__law_at := (ok_at (P := P) (w := w) (base := base) T).mono (k := 2) (by omega)
 have G__law_names := (ok_names (P := P) (w := w) (base := base) T).mono (k := 2) (by omega)
 have G__law_second := (ok_second (P := P) (w := w) (base := base) T).mono (k := 2) (by omega)
 refine ⟨_,(pss_cons (ps_let (i := 3) nd rfl (Or.inl rfl) (pe_call G__law_names hr rfl T.m__law_names T.F__law_names.kp T.b__law_names .nil pass0 (pa_cons (pe_call G__law_at hr rfl T.m__law_at T.F__law_at.kp T.b__law_at .nil pass0 (pa_cons (pv 0) (pa_cons (pv 1) pa_nil))) (pa_cons pe_int pa_nil))))
  (pss_cons (ps_letC (i := 4) (N := ["x"]) (caps := []) rfl ⟨rfl,rfl,rfl,rfl,by decide +kernel,rfl,rfl,rfl,rfl⟩ (piL (pe_call G__law_names hr rfl T.m__law_names T.F__law_names.kp T.b__law_names .nil pass0 (pa_cons (pe_call G__law_second hr rfl T.m__law_second T.F__law_second.kp T.b__law_second .nil pass0 (pa_cons (pv 0) pa_nil)) (pa_cons (pv 2) pa_nil)))) (fun _ _ _ _ => pif_nil) (fun _ _ _ _ => (pe_tup (pa_cons pe_str (pa_cons (pv 0) pa_nil)))) nd rfl rfl rfl)
  (pss_cons (ps_let (i := 5) nd rfl (Or.inl rfl) (pe_op op_add (pv 1) pe_int))
  (pss_cons (ps_while PassesOwn.never (pt_cmpR op_gt (pe_callB lenG rfl T.z_len bt_len (pa_cons (pv 4) pa_nil)) pe_int (nomark _)) (pss_cons (ps_let (i := 6) nd rfl (Or.inl rfl) (pe_call G__law_at hr rfl T.m__law_at T.F__law_at.kp T.b__law_at .nil pass0 (pa_cons (pv 0) (pa_cons (pv 5) pa_nil))))
    (pss_cons (ps_let (i := 7) nd rfl (Or.inl rfl) (pe_op op_mod (pe_op op_fdiv (pv 6) pe_int) (pe_op op_sub (pe_callB lenG rfl T.z_len bt_len (pa_cons (pv 4) pa_nil)) pe_int)))
    (pss_cons (ps_if (PW.pt (pw_or (pt_cmpR op_gt (pe_op op_mod (pv 6) pe_int) pe_int (nomark _)) (pw_or1 (pt_cmpR op_gt (pv 2) pe_int (nomark _))))) (pss_one (ps_let (i := 7) nd rfl (Or.inl rfl) (pe_op op_mod (pe_op op_sub (pe_op op_sub (pv 5) (pv 1)) pe_int) (pe_op op_sub (pe_callB lenG rfl T.z_len bt_len (pa_cons (pv 4) pa_nil)) pe_int)))) pss_nil)
    (pss_cons (ps_let (i := 8) nd rfl (Or.inl rfl) (pe_lst (pa_cons (pe_ix ixF (pv 4) (pv 7) (fun _ _ => rfl)) (pa_cons (pe_ix ixF (pv 4) (pe_op op_add (pv 7) pe_int) (fun _ _ => rfl)) pa_nil))))
    (pss_cons (ps_let (i := 9) nd rfl (Or.inl rfl) (pe_op op_mod (pe_op op_fdiv (pv 6) pe_int) pe_int))
    (pss_cons (ps_let (i := 10) nd rfl (Or.inl rfl) (pe_tup (pa_cons pe_str (pa_cons (pe_ix ixF (pv 3) (pe_op op_mod (pe_op op_fdiv (pv 6) pe_int) pe_int) (fun _ _ => rfl)) (pa_cons (pe_ix ixF (pv 8) (pv 9) (fun _ _ => rfl)) (pa_cons (pe_ix ixF (pv 8) (pe_op op_sub pe_int (pv 9)) (fun _ _ => rfl)) pa_nil))))))
    (pss_cons (ps_let (i := 4) nd rfl (Or.inl rfl) (pe_op op_cat (pe_op op_cat (pe_slice slLG (pv 4) po_none (po_some (pv 7))) (pe_lst (pa_cons (pv 10) pa_nil))) (pe_slice slLG (pv 4) (po_some (pe_op op_add (pv 7) pe_int)) po_none)))
    (pss_one (ps_let (i := 5) nd rfl (Or.inl rfl) (pe_op op_add (pv 5) pe_int)))))))))))
  (pss_one (ps_ret (pe_ix ixF (pv 4) pe_int (fun _ _ => rfl)))))))),?_⟩
 walk_at "rd"
 refine ⟨a,ns,at',rfl,hS,h63,by (clear h63 hat hm1 hm; lia),by omega,?_⟩
 have hc' : lawAt ns (at' : Int).toNat = lawAt ns at' := rfl
 generalize lawAt ns (at' : Int).toNat = c' at hc' ⊢
 refine ⟨c',3,rfl,by decide,fun pd dv H1 S1 nd1 ed Dd => ?_⟩
 refine ⟨a,ns,rfl,S1.seq hS,h63,?_⟩
 generalize hc : lawSecond ns = c
 refine ⟨c,many,rfl,hm,fun pn nv H2 S2 nn2 en Dn => ?_⟩
 have hnv : nv = (List.range many).map fun k => V.str (nmS c many k) := by
  have : ((List.range many).map fun k => D.str (nmS c many k)) = ((List.range many).map (nmS c many)).map D.str := by rw [List.map_map]; rfl
  rw [this] at Dn
  rw [Dts.of_str Dn,List.map_map]; rfl
 subst hnv
 refine WalkL.comp en (fun i ys H' => Dts H' ((List.range i).map fun k => dT (.leaf (nmS c many k))) ys ∧ i ≤ many) ⟨.nil,Nat.zero_le _⟩ (by simp; (clear nd1 ed hc nn2 en h63 hat hm1 hc'; lia)) (fun i ys H' h => by have := h.1.length; simp at this; (clear h63 hat hm1 hm hc' nd1 ed hc nn2 en h; lia)) (fun i x ys H' ex S' h => ?_) (fun p ys H3 H4 S3 S4 h np ep => ?_)
 · obtain ⟨hi,ex⟩ := List.getElem?_eq_some_iff.mp ex
   simp at hi ex
   subst ex
   walk_at "rd"
   refine ⟨by decide,NewO.mk fun p1 H5 S5 n5 e5 => ⟨S'.trans S5,?_,hi⟩⟩
   rw [List.range_succ,List.map_append]
   exact (h.1.same S5).append (.one (leaf_mk e5))
 · simp at h
   have hdv : dv = ((List.range 3).map (nmS c' 3)).map V.str := by
    have : ((List.range 3).map fun k => D.str (nmS c' 3 k)) = ((List.range 3).map (nmS c' 3)).map D.str := by rw [List.map_map]; rfl
    rw [this] at Dd
    exact Dts.of_str Dd
   subst hdv
   have S14 := (S2.trans S3).trans S4
   have D4 := h.same S4
   have st := M.TI.start (names := (List.range many).map (nmS c many)) (deeds := (List.range 3).map (nmS c' 3))
   rw [show ((List.range many).map (nmS c many)).length = many by simp] at st
   obtain ⟨W,hW⟩ : ∃ W : Nat → St → Hp → Prop,∀ m σ H',W m σ H' ↔ ∃ (j : Nat) (ts : List L2.Tree) (vs : List V) (pt : Addr) (o6 o7 o8 o9 o10 : Option V),m = ts.length ∧ M.TI ((List.range many).map (nmS c many)) ((List.range 3).map (nmS c' 3)) many j ts ∧ 1 ≤ ts.length ∧ Same H1 H' ∧ H' pt = some (.lst vs) ∧ Dts H' (ts.map dT) vs ∧
    σ = [some (V.ref a),some (V.int at'),some (V.int many),some (V.ref pd),some (V.ref pt),some (V.int (at' + 2 + j)),o6,o7,o8,o9,o10] := ⟨_,fun _ _ _ => Iff.rfl⟩
   refine ⟨W,⟨_,(hW _ _ _).mpr ⟨0,((List.range many).map (nmS c many)).map M.Tr.leaf,ys,p,none,none,none,none,none,rfl,st,by simp; omega,S14,ep,by rw [List.map_map,List.map_map]; exact D4,by simp⟩⟩,?_⟩
   intro m σ H5 hw
   obtain ⟨j,ts,vs,pt,o6,o7,o8,o9,o10,rfl,I,h1,S5,et,Dv,rfl⟩ := (hW _ _ _).mp hw
   have lv : vs.length = ts.length := by have := Dv.length; simpa using this
   have hj := I.len
   simp only [a_tTest,a_tOp,a_rI0,a_tCB,a_tCons,a_tNil,a_tVar,a_tC,a_rLenF,List.getElem?_cons_zero,List.getElem?_cons_succ,Option.some.injEq,exists_eq_left',V.bl.injEq,V.int.injEq,V.ref.injEq,List.cons.injEq,and_true,exists_and_left,exists_eq_left]
   refine ⟨_,items_l et,ite2 (fun c1 => ?_) (fun c1 => ?_)⟩
   · have c1 : 1 < ts.length := by have := of_decide_eq_true c1; (clear nd1 hc nn2 en np h63 hat hm1 ed h1 et hj c1 hm hc' ep; omega)
     refine ⟨fun σ' H' => ∃ m',m' < ts.length ∧ W m' σ' H',fun σ' H' z => z,?_⟩
     refine cutC3 fun C hC => ?_
     walk_at "rd"
     refine ⟨a,ns,at' + 2 + j,by norm_cast,(S1.trans S5).seq hS,h63,by (clear h63 hat hm1 hm hc' nd1 hc nn2 en np ep ed h1 et lv hj c1 hC; lia),by (clear nd1 hc nn2 en np ep ed h1 et lv c1 hC h63 hm1 hc'; lia),?_⟩
     generalize lawAt ns ((at' : Int) + 2 + j).toNat = cell
     walk_at "rd"
     have he := items_l et
     simp only [he,Option.some.injEq,exists_eq_left']
     have md : ∀ z : Int,∃ p : Nat,z % (((vs.length : Nat) : Int) - 1) = p ∧ p + 1 < ts.length := fun z => by
      have h1 := Int.emod_nonneg z (show (((vs.length : Nat) : Int) - 1) ≠ 0 by (clear nd1 hc nn2 en np h63 hat hm1 ed h1 et hC he hc' ep hj; lia))
      have h2 := Int.emod_lt_of_pos z (show 0 < (((vs.length : Nat) : Int) - 1) by (clear h63 hat hm1 hm hc' nd1 hc nn2 en np ep ed et hC he h1 hj; omega))
      exact ⟨(z % (((vs.length : Nat) : Int) - 1)).toNat,by (clear h63 hat hm1 hm hc' nd1 hc nn2 en np ep ed et lv hj c1 hC he h2; lia),by (clear h63 hat hm1 hm hc' nd1 hc nn2 en np hC he h1 ed et hj; omega)⟩
     have mj : ∀ p : Nat,((at' : Int) + 2 + j - at' - 2) % (((vs.length : Nat) : Int) - 1) = p → p = j % (ts.length - 1) := fun p hp => by
      have e1 : (((vs.length : Nat) : Int) - 1) = ((ts.length - 1 : Nat) : Int) := by (clear h63 hat hm1 hm hc' nd1 hc nn2 en np hj c1 hC he hp ed; lia)
      have e2 : ((at' : Int) + 2 + j - at' - 2) = (j : Int) := by (clear ed h1 et lv hj c1 hC he hp e1 hc nn2 en np ep hm hc' nd1 hm1 h63; lia)
      rw [e1,e2] at hp
      exact_mod_cast hp.symm
     have tail : ∀ p : Nat,p + 1 < ts.length → (24 < many → p = j % (ts.length - 1)) → C [some (V.ref a),some (V.int at'),some (V.int many),some (V.ref pd),some (V.ref pt),some (V.int (at' + 2 + j)),some (V.int cell),some (V.int p),o8,o9,o10] H5 := by
      intro p hp1 hp2
      rw [hC]
      clear hC C
      refine cutC3 fun C hC => ?_
      walk_at "rd"
      obtain ⟨ta,ha⟩ : ∃ t,ts[p]? = some t := ⟨_,List.getElem?_eq_getElem (by (clear h63 hat hm1 hm hc' nd1 hc nn2 en np ep ed h1 et lv hj c1 hC hp2 he; lia))⟩
      obtain ⟨tb,hb⟩ : ∃ t,ts[p + 1]? = some t := ⟨_,List.getElem?_eq_getElem (by omega)⟩
      obtain ⟨va,hva,da⟩ := Dts.map_of Dv ha
      obtain ⟨vb,hvb,db⟩ := Dts.map_of Dv hb
      refine ⟨_,he,va,atI_nat hva,_,he,vb,atI_int (by (clear h63 hat hm1 hm hc' nd1 hc nn2 en np ep ed h1 et lv hj c1 he hp1 hp2 hC ha hb hva hvb; lia)) (by rw [show ((p : Int) + 1).toNat = p + 1 by (clear h63 hat hm1 hm hc' nd1 hc nn2 en np ep ed h1 et lv hj c1 he hp1 hp2 hC ha hb hva hvb; lia)]; exact hvb),by decide,NewO.mk fun p6 H6 S6 n6 e6 => ?_⟩
      have hd0 : 0 ≤ cell / 128 % 3 := by (clear h63 hat hm1 hm hc' nd1 hc nn2 en np ep ed h1 et lv hj c1 he hp1 hp2 hC ha hb hva hvb n6 e6; lia)
      have hd1 : cell / 128 % 3 < 3 := by (clear h63 hat hm1 hm hc' nd1 hc nn2 en np ep ed h1 et lv hj c1 he hp1 hp2 hC ha hb hva hvb n6 e6 hd0; lia)
      obtain ⟨x,y,vx,vy,hx9,hx11,dx,dy,hxy⟩ : ∃ x y vx vy,atI [va,vb] (cell / 64 % 2) = some vx ∧ atI [va,vb] (1 - cell / 64 % 2) = some vy ∧ Dt H5 (dT x) vx ∧ Dt H5 (dT y) vy ∧ ((x = ta ∧ y = tb) ∨ (x = tb ∧ y = ta)) := by
       rcases (show cell / 64 % 2 = 0 ∨ cell / 64 % 2 = 1 by (clear h63 hat hm1 hm hc' nd1 hc nn2 en np ep ed h1 et lv hj c1 he hp1 hp2 hC ha hb hva hvb n6 e6 hd0 hd1; lia)) with z | z
       · exact ⟨ta,tb,va,vb,by rw [z]; exact atI_0,by rw [z]; exact atI_1,da,db,.inl ⟨rfl,rfl⟩⟩
       · exact ⟨tb,ta,vb,va,by rw [z]; exact atI_1,by rw [z]; exact atI_0,db,da,.inr ⟨rfl,rfl⟩⟩
      refine ⟨⟨by decide,by decide⟩,by decide,⟨by decide,by decide⟩,by decide,_,items_l (S6 _ _ (S5 _ _ ed)),V.str (nmS c' 3 (cell / 128 % 3).toNat),atI_int hd0 (by rw [List.getElem?_map,List.getElem?_map,List.getElem?_range (by (clear h63 hat hm1 hm hc' nd1 hc nn2 en np ep ed h1 et lv hj c1 he hp1 hp2 hC ha hb hva hvb n6 e6 hd0 hd1 hx9 hx11 hxy; lia))]; rfl),p6,rfl,_,items_l e6,vx,hx9,p6,rfl,_,items_l e6,vy,hx11,by decide,NewO.mk fun p7 H7 S7 n7 e7 => ?_⟩
      rw [hC]
      clear hC C
      walk_at "rd"
      refine ⟨_,S7 _ _ (S6 _ _ et),?_⟩
      rw [cutV_to (by (clear h63 hat hm1 hm hc' nd1 hc nn2 en hd1 hx9 hx11 hxy n7 e7 np ep ed h1 et hp2 ha hb hva hvb n6 e6 hd0 c1 he hj; lia))]
      refine NewO.mk fun p8 H8 S8 n8 e8 => ⟨by decide,NewO.mk fun p9 H9 S9 n9 e9 => ⟨p8,rfl,p9,rfl,_,S9 _ _ e8,_,e9,small_le (by simp; (clear hp2 ha hb hva hvb n6 e6 hd0 hd1 hx9 hx11 hxy n7 e7 n8 e8 n9 e9 nd1 hc nn2 en np h63 hat hm1 ed h1 et hc' ep c1 he hp1; lia)),NewO.mk fun pA HA SA nA eA => ?_⟩⟩
      refine ⟨_,SA _ _ (S9 _ _ (S8 _ _ (S7 _ _ (S6 _ _ et)))),?_⟩
      have ep2 : (p : Int) + 2 = ((p + 2 : Nat) : Int) := by (clear h63 hat hm1 hm hc' nd1 hc nn2 en np ep ed h1 et lv hj c1 he hp1 hp2 ha hb hva hvb n6 e6 hd0 hd1 hx9 hx11 hxy n7 e7 n8 e8 n9 e9 nA eA; lia)
      rw [ep2,cutV_from (by (clear ha hb hva hvb n6 e6 hd0 hd1 hx9 hx11 hxy n7 e7 n8 e8 n9 e9 nA eA ep2 h63 hat hm1 hm hc' nd1 hc nn2 en np ep ed h1 hp2 hj c1 et he; lia))]
      refine NewO.mk fun pB HB SB nB eB => ⟨pA,rfl,pB,rfl,_,SB _ _ eA,_,eB,small_le (by simp; (clear hb hva hvb n6 e6 hd0 hd1 hx9 hx11 hxy n7 e7 n8 e8 n9 e9 nA eA ep2 nB eB hc nn2 en np ep ed h63 hat hm1 hp2 ha hc' nd1 et c1 he; lia)),NewO.mk fun pC HC SC nC eC => ?_⟩
      have S7C := ((((S8.trans S9).trans SA).trans SB).trans SC)
      have S5C := (S6.trans S7).trans S7C
      have kd : Dt HC (dT (.knot (nmS c' 3 (cell / 128 % 3).toNat) x y)) (.ref p7) := knot_mk (S7C _ _ e7) (dx.same S5C) (dy.same S5C)
      have step := I.step (f := nmS c' 3 (cell / 128 % 3).toNat) ha hb hp2 (List.mem_map.mpr ⟨_,List.mem_range.mpr (by (clear h63 hat hm1 hm hc' nd1 hc nn2 en np ep ed h1 et lv hj c1 he hp1 hp2 ha hb hva hvb n6 e6 hd0 hd1 hx9 hx11 hxy n7 e7 n8 e8 n9 e9 nA eA ep2 nB eB nC eC; lia)),rfl⟩) hxy
      have DvC := Dv.same S5C
      refine ⟨ts.length - 1,by (clear hva hvb n6 e6 hd0 hd1 hx9 hx11 hxy n7 e7 n8 e8 n9 e9 nA eA ep2 nB eB nC eC h63 hat hm1 hm hc' nd1 hc nn2 en np ep ed h1 et lv hj c1 ha hb hp2 he; omega),(hW _ _ _).mpr ⟨j + 1,_,_,pC,_,_,_,_,_,?_,step,?_,S5.trans S5C,eC,?_,by push_cast; simp only [Int.add_assoc]; rfl⟩⟩
      · have := step.len; (clear h63 hat hm1 hm hc' nd1 hc nn2 en np ep ed n6 e6 hd0 hd1 hx9 hx11 hxy n7 e7 n8 e8 n9 e9 nA eA ep2 nB eB h1 et lv hp1 hp2 ha hb hva hvb c1 he nC eC; lia)
      · have := step.len; (clear h63 hat hm1 hm hc' nd1 hc nn2 en np ep ed n6 e6 hd0 hd1 hx9 hx11 hxy n7 e7 n8 e8 n9 e9 nA eA ep2 nB eB h1 et lv hp1 hp2 ha hb hva hvb nC eC; lia)
      · unfold M.merge
        rw [List.map_append,List.map_append,List.map_take,List.map_drop]
        exact ((DvC.take p).append (.one kd)).append (DvC.drop (p + 2))
     refine ⟨⟨by decide,by decide⟩,by (clear h63 hat hm1 hm hc' nd1 hc nn2 en np ep ed h1 hC he et hj; omega),by decide,ite2 (fun c2 => ?b1) (fun c2 => ite2 (fun c3 => ?b2) (fun c3 => ?b3))⟩
     case' b1 =>
      obtain ⟨p,hpI,hp1⟩ := md ((at' : Int) + 2 + j - at' - 2)
      have hp2 : 24 < many → p = j % (ts.length - 1) := fun _ => mj p hpI
      refine ⟨by (clear h63 hat hm1 hm hc' nd1 hc nn2 en np ep ed he c2 hpI hp1 hp2 h1 et hj hC; omega),?_⟩
     case' b2 =>
      obtain ⟨p,hpI,hp1⟩ := md ((at' : Int) + 2 + j - at' - 2)
      have hp2 : 24 < many → p = j % (ts.length - 1) := fun _ => mj p hpI
      refine ⟨by (clear h63 hat hm1 hm hc' nd1 hc nn2 en np ep ed he c2 c3 hpI hp1 hp2 h1 et hj hC; omega),?_⟩
     case' b3 =>
      obtain ⟨p,hpI,hp1⟩ := md (cell / 4)
      have hp2 : 24 < many → p = j % (ts.length - 1) := fun z => absurd (decide_eq_true (by (clear h63 hat hm1 hm hc' nd1 hc nn2 en np ep ed h1 et lv hj c1 hC he c2 c3 hpI hp1; omega))) c3
     all_goals
      rw [hpI]
      exact tail p hp1 hp2
   · have c1 : ts.length = 1 := by have : ¬ 1 < ts.length := fun z => c1 (decide_eq_true (by (clear nd1 hc nn2 en np h63 hat hm1 ed h1 et hj c1 hm hc' ep; omega))); (clear h63 hat hm1 hm hc' nd1 hc nn2 en et lv hj c1 ep ed; lia)
     obtain ⟨t,rfl⟩ := List.length_eq_one_iff.mp c1
     obtain ⟨h2,h3,h4⟩ := I.end hm
     walk_at "rd"
     obtain ⟨v,hv,hd⟩ := Dts.get (i := 0) Dv rfl
     refine ⟨_,items_l et,v,atI_int (by decide) hv,q t c c' v H5 (S1.trans S5) hd ⟨h2,h3,h4⟩ ⟨hc.symm,hc'⟩⟩
theorem one_ge (c d : Nat) : (!decide ([c] < [d])) = decide (d ≤ c) := by
 rw [Bool.eq_iff_iff]; simp [List.cons_lt_cons_iff]
noncomputable def spName : Sp := fun vs H Q _ => ∃ (x : Str),vs = [.str x] ∧ x.length ≤ 1000000 ∧ ∀ H',Same H H' → Q (.bl (nameOk x)) H'
theorem ok_name (T : Txt K mg) : FnOk P w K mg base CX0 1 T.f_is_name T.d_is_name ["text"] spName := by
 refine T.F_is_name.ok (k := 0) sc_is_name (fun vs H Q E h => ?_) (fun cdv A outer s H vs Q E hr h => ?_)
 · obtain ⟨x,rfl,_⟩ := h
   rfl
 obtain ⟨x,rfl,hx,q⟩ := h
 have nd := sc_is_name.nd
 refine ⟨_,(pss_one (ps_ret (pe_and (pe_chain op_le op_le pe_int (pe_callB call_len_str rfl T.z_len bt_len (pa_cons (pv 0) pa_nil)) (pe_glob (v := .int 8) rfl T.c_LONGEST_NAME ⟨_,rfl⟩)) (pe_one (pe_callB (call_all rfl) rfl T.z_all bt_all (pa_cons (pe_comp (N := ["sign"]) (caps := []) rfl ⟨rfl,rfl,rfl,rfl,by decide +kernel,rfl,rfl,rfl,rfl⟩ (pi_str (pv 0)) (fun _ _ _ _ => pif_nil) (fun _ _ _ _ => (pe_chain op_le_str op_le_str pe_str (pv 0) pe_str))) pa_nil)))))),?_⟩
 walk_at "rd"
 have hz : x.length ≤ sizeLine := Nat.le_trans hx (by decide)
 have el : x.cps.toList.length = x.length := by simp [Str.length]
 refine ⟨hz,ite2 (fun c1 => ite2 (fun c2 => ?_) (fun c2 => ?_)) (fun c1 => ?_)⟩
 · have c1 : 1 ≤ x.length := by have := of_decide_eq_true c1; (clear hx hz el c1 c2; omega)
   have c2 : x.length ≤ 8 := by have := of_decide_eq_true c2; (clear hx hz el c2 c1; lia)
   refine comp_str (fun i ys H' => H' = H ∧ i ≤ x.cps.size ∧ ys = (x.cps.toList.take i).map (fun c => V.bl (decide (97 ≤ c) && decide (c ≤ 122)))) ⟨rfl,Nat.zero_le _,rfl⟩ (Nat.lt_of_le_of_lt c2 (by decide)) (fun i ys H' h => ?_) (fun i c ys H' ec h => ?_) (fun ys H' h p hp => ?_)
   · rw [h.2.2]; simp; (clear hx hz el c1 c2 h; lia)
   · obtain ⟨rfl,hi,rfl⟩ := h
     walk_at "rd"
     have hlt : i < x.cps.size := (Array.getElem?_eq_some_iff.mp ec).1
     have ec' : x.cps.toList[i]? = some c := by simpa using ec
     have e : (x.cps.toList.take (i + 1)).map (fun c => V.bl (decide (97 ≤ c) && decide (c ≤ 122))) = (x.cps.toList.take i).map (fun c => V.bl (decide (97 ≤ c) && decide (c ≤ 122))) ++ [V.bl (decide (97 ≤ c) && decide (c ≤ 122))] := by
      rw [List.take_add_one,ec']; simp
     have l1 : (!decide ((Str.mk #[c]).cps.toList < (Str.ofString "a").cps.toList)) = decide (97 ≤ c) := by
      have : (Str.ofString "a").cps.toList = [97] := by decide +kernel
      rw [this]; exact one_ge c 97
     have l2 : (!decide ((Str.ofString "z").cps.toList < (Str.mk #[c]).cps.toList)) = decide (c ≤ 122) := by
      have : (Str.ofString "z").cps.toList = [122] := by decide +kernel
      rw [this]; exact one_ge 122 c
     rw [l1,l2]
     refine ite2 (fun d => ?_) (fun d => ?_)
     · refine ⟨hlt,?_⟩
       rw [e,d]; simp
     · refine ⟨hlt,?_⟩
       have d : decide (97 ≤ c) = false := by simpa using d
       rw [e,d]; simp
   · obtain ⟨rfl,_,rfl⟩ := h
     refine ⟨p,rfl,x.cps.toList.map (fun c => decide (97 ≤ c) && decide (c ≤ 122)),SqL.of ?_,?_⟩
     · rw [upd_same]
       have : x.cps.toList.take x.cps.size = x.cps.toList := List.take_of_length_le (by simp)
       rw [this,List.map_map]; rfl
     · have := q _ (same_new hp (.lst ((x.cps.toList.take x.cps.size).map (fun c => V.bl (decide (97 ≤ c) && decide (c ≤ 122))))))
       unfold nameOk isName at this
       rw [el,decide_eq_true c1,decide_eq_true c2] at this
       rw [List.all_map]
       simpa using this
 · have c1 : 1 ≤ x.length := by have := of_decide_eq_true c1; (clear hx hz el c1 c2; omega)
   have c2 : ¬ x.length ≤ 8 := fun z => c2 (decide_eq_true (by (clear hx hz el c2 c1; lia)))
   have := q H (Same.refl H)
   unfold nameOk isName at this
   rw [el,decide_eq_false c2] at this
   simpa using this
 · have c1 : ¬ 1 ≤ x.length := fun z => c1 (decide_eq_true (by (clear hx hz el c1; lia)))
   have := q H (Same.refl H)
   unfold nameOk isName at this
   rw [el,decide_eq_false c1] at this
   simpa using this
noncomputable def spLeaf : Sp := fun vs H Q _ => ∃ (t : L2.Tree) (v : V),vs = [v] ∧ Dt H (dT t) v ∧ Q (.bl t.isL) H
theorem kind_leaf (t : L2.Tree) : decide ((if t.isL = true then Str.ofString "leaf" else Str.ofString "knot") = Str.ofString "leaf") = t.isL := by
 cases t
 · show decide (Str.ofString "leaf" = Str.ofString "leaf") = true
   decide +kernel
 · show decide (Str.ofString "knot" = Str.ofString "leaf") = false
   decide +kernel
theorem ok_leaf (T : Txt K mg) : FnOk P w K mg base CX0 1 T.f_is_leaf T.d_is_leaf ["tree"] spLeaf := by
 refine T.F_is_leaf.ok (k := 0) sc_is_leaf (fun vs H Q E h => ?_) (fun cdv A outer s H vs Q E hr h => ?_)
 · obtain ⟨t,v,rfl,_⟩ := h
   rfl
 obtain ⟨t,v,rfl,ht,q⟩ := h
 obtain ⟨a,r,rfl,ea⟩ := dT_any ht
 have nd := sc_is_leaf.nd
 refine ⟨_,(pss_one (ps_ret (pe_cmpR op_eq (pe_ix ixF (pv 0) pe_int (fun _ _ => rfl)) pe_str (nomark _)))),?_⟩
 walk_at "rd"
 refine ⟨_,items_t ea,_,atI_0,rfl,?_⟩
 have e : decide (V.str (if t.isL = true then Str.ofString "leaf" else Str.ofString "knot") = V.str (Str.ofString "leaf")) = t.isL := by
  simp only [V.str.injEq]; exact kind_leaf t
 rw [e]
 exact q
noncomputable def spPart : Sp := fun vs H Q _ => ∃ (t u : L2.Tree) (p : List Nat) (v z : V),vs = [v,z] ∧ Dt H (dT t) v ∧ Dt H (dP p) z ∧ t.sub p = some u ∧ ∀ v',Dt H (dT u) v' → Q v' H
theorem ok_part (T : Txt K mg) : FnOk P w K mg base CX0 1 T.f_part_at T.d_part_at ["tree","place"] spPart := by
 refine T.F_part_at.ok (k := 0) sc_part_at (fun vs H Q E h => ?_) (fun cdv A outer s H vs Q E hr h => ?_)
 · obtain ⟨t,u,p,v,z,rfl,_⟩ := h
   rfl
 obtain ⟨t,u,p,v,z,rfl,ht,hp,hu,q⟩ := h
 obtain ⟨a,rfl,ea⟩ := dP_of hp
 have nd := sc_part_at.nd
 refine ⟨_,(pss_cons (ps_let (i := 2) nd rfl (Or.inl rfl) (pv 0))
  (pss_cons (ps_for PassesOwn.never rfl (piT (pv 1)) (pg_name (i := 3) nd rfl (Or.inl rfl)) (pss_one (ps_let (i := 2) nd rfl (Or.inl rfl) (pe_ix ixF (pv 2) (pe_op op_add pe_int (pv 3)) (fun _ _ => rfl)))))
  (pss_one (ps_ret (pv 2))))),?_⟩
 walk_at "rd"
 obtain ⟨Pv,hPv⟩ : ∃ Pv : Nat → St → Hp → Prop,∀ i σ H',Pv i σ H' ↔ H' = H ∧ ∃ (y : L2.Tree) (vy : V) (o3 : Option V),Dt H (dT y) vy ∧ y.sub (p.drop i) = some u ∧ σ = [some v,some (.ref a),some vy,o3] := ⟨_,fun _ _ _ => Iff.rfl⟩
 refine WalkT.for ea Pv ((hPv _ _ _).mpr ⟨rfl,t,v,none,ht,by simpa using hu,rfl⟩) (fun i σ H' _ h => ((hPv _ _ _).mp h).1 ▸ ea) ?_ ?_
 · intro i x σ H' ex h
   obtain ⟨rfl,y,vy,o3,hy,hs,rfl⟩ := (hPv _ _ _).mp h
   have hi : i < p.length := by have := (List.getElem?_eq_some_iff.mp ex).1; simpa [vP] using this
   have ex' : x = .int ((p[i] : Nat) : Int) := by
    have : (vP p)[i]? = some (.int ((p[i] : Nat) : Int)) := by unfold vP; rw [List.getElem?_map,List.getElem?_eq_getElem hi]; rfl
    rw [this] at ex; exact (Option.some.inj ex).symm
   subst ex'
   rw [List.drop_eq_getElem_cons hi] at hs
   walk_at "rd"
   cases y with
   | leaf x => simp [M.Tr.sub] at hs
   | knot f l r =>
    obtain ⟨b,vl,vr,rfl,eb,hl,hr'⟩ := dT_knot hy
    simp only [M.Tr.sub] at hs
    split at hs
    · rename_i e0
      refine ⟨b,rfl,_,items_t eb,vl,by rw [e0]; exact atI_2,(hPv _ _ _).mpr ⟨rfl,l,_,_,hl,hs,rfl⟩⟩
    · split at hs
      · rename_i _ e1
        refine ⟨b,rfl,_,items_t eb,vr,by rw [e1]; exact atI_3,(hPv _ _ _).mpr ⟨rfl,r,_,_,hr',hs,rfl⟩⟩
      · cases hs
 · intro σ H' h
   obtain ⟨rfl,y,vy,o3,hy,hs,rfl⟩ := (hPv _ _ _).mp h
   walk_at "rd"
   have : (vP p).length = p.length := by simp [vP]
   rw [this,List.drop_length,M.Tr.sub_nil] at hs
   cases hs
   exact q vy hy
noncomputable def spPlaces (n : Nat) : Sp := fun vs H Q _ => ∃ (t : L2.Tree) (v : V),vs = [v] ∧ Dt H (dT t) v ∧ t.dp ≤ n ∧ t.lv.length ≤ 5000 ∧ RetL H (t.pl.map dP) Q
theorem ok_places (T : Txt K mg) : ∀ n : Nat,FnOk P w K mg base CX0 (n + 2) T.f_places T.d_places ["tree"] (spPlaces n)
 | 0 => by
  refine T.F_places.ok (k := 1) sc_places (fun vs H Q E h => ?_) (fun cdv A outer s H vs Q E hr h => ?_)
  · obtain ⟨t,v,rfl,_⟩ := h
    rfl
  · obtain ⟨t,v,rfl,_,h,_⟩ := h
    have := t.dp_pos
    omega
 | n + 1 => by
  refine T.F_places.ok (k := n + 2) sc_places (fun vs H Q E h => ?_) (fun cdv A outer s H vs Q E hr h => ?_)
  · obtain ⟨t,v,rfl,_⟩ := h
    rfl
  obtain ⟨t,v,rfl,ht,hd,hl,q⟩ := h
  have nd := sc_places.nd
  have G_is_leaf := (ok_leaf (P := P) (w := w) (base := base) T).mono (k := n + 2) (by lia)
  have G_places := ok_places T n
  refine ⟨_,(pss_cons (ps_let (i := 1) nd rfl (Or.inl rfl) (pe_lst (pa_cons (pe_tup pa_nil) pa_nil)))
  (pss_cons (ps_if (pt_val (pe_call G_is_leaf hr rfl T.m_is_leaf T.F_is_leaf.kp T.b_is_leaf .nil pass0 (pa_cons (pv 0) pa_nil))) (pss_one (ps_ret (pv 1))) pss_nil)
  (pss_cons (ps_for PassesOwn.never rfl (piT (pe_tup (pa_cons pe_int (pa_cons pe_int pa_nil)))) (pg_name (i := 2) nd rfl (Or.inr rfl)) (pss_one (ps_expr (pe_bm PySem.F.plainAttrs_list PySem.F.slot_list_extend PySem.F.type_list_extend mt_extend (pv 1) (pa_cons (pe_comp (N := ["place","step"]) (caps := [2]) rfl ⟨rfl,rfl,rfl,rfl,by decide +kernel,rfl,rfl,rfl,rfl⟩ (piL (pe_call G_places hr rfl T.m_places T.F_places.kp T.b_places .nil pass0 (pa_cons (pe_ix ixF (pv 0) (pe_op op_add pe_int (pv 2)) (fun _ _ => rfl)) pa_nil))) (fun _ _ _ _ => pif_nil) (fun _ _ _ _ => (pe_op op_catD (pe_tup (pa_cons (pv 1) pa_nil)) (pv 0)))) pa_nil)))))
  (pss_one (ps_ret (pv 1)))))),?_⟩
  walk_at "rd"
  refine ⟨by decide,NewO.mk fun p1 H1 S1 n1 e1 => ⟨by decide,NewO.mk fun p2 H2 S2 n2 e2 => ?_⟩⟩
  have ht2 := ht.same (S1.trans S2)
  refine ⟨t,v,rfl,ht2,_,rfl,?_⟩
  have n0 : H p2 = none := S1.free n2
  have S12 := S1.trans S2
  have d0 : Dt H2 (dP []) (.ref p1) := dP_mk (S2 _ _ e1)
  cases t with
  | leaf x => exact iteT (q p2 _ H2 S12 n0 e2 (.one d0))
  | knot f l r =>
   obtain ⟨a,vl,vr,rfl,ea,hl',hr'⟩ := dT_knot ht2
   simp only [M.Tr.dp] at hd
   simp only [M.Tr.lv,List.length_append] at hl
   refine iteF ⟨by decide,NewO.mk fun p3 H3 S3 n3 e3 => ?_⟩
   have n30 : H p3 = none := S12.free n3
   have h32 : p2 ≠ p3 := ne_of_none e2 n3
   have ha2 : a ≠ p2 := ne_of ea e2 (by intro z; cases z)
   have turn : ∀ (y : L2.Tree) (vy : V) (step : Nat) (H4 : Hp) (vs : List V) (R : V → Hp → Prop),y.dp ≤ n → y.lv.length ≤ 5000 → Same H H4 → H4 p2 = some (.lst vs) → Dt H4 (dT y) vy → vs.length ≤ 20000 →
    (∀ H5 ws,Same H H5 → H5 p2 = some (.lst (vs ++ ws)) → Dts H5 (y.pl.map fun q => dP (step :: q)) ws → (∀ b,b ≠ p2 → ∀ o,H4 b = some o → H5 b = some o) → R .non H5) →
    spPlaces n [vy] H4 (fun x H1 => WalkL K x H1 fun J H1 => wComp J [2] tYes (tOp rCatD (tTup (tCons (tVar 1) tNil)) (tVar 0)) [some (V.ref a),some (V.ref p2),some (V.int step)] H1 fun x H1 => ∃ x_1,x = V.ref x_1 ∧ ∃ x,H1 p2 = some (HO.lst x) ∧ ∃ x_2,H1 x_1 = some (HO.lst x_2) ∧ x.length + x_2.length ≤ sizeLine ∧ PutO H1 p2 (HO.lst (x ++ x_2)) (R V.non)) E0 := by
    intro y vy step H4 vs R hyd hyl S4 e4 hy hvs hR
    refine ⟨y,vy,rfl,hy,hyd,hyl,fun p5 ys H5 S5 n5 e5 D5 => ?_⟩
    have l5 : ys.length = y.pl.length := by have := D5.length; simpa using this
    have l6 := M.pl_len_le y
    refine WalkL.comp e5 (fun i zs H' => i ≤ ys.length ∧ Dts H' ((y.pl.take i).map fun q => dP (step :: q)) zs) ⟨Nat.zero_le _,.nil⟩ (by (clear n1 e1 n2 e2 n0 hd ea hl n3 e3 n30 h32 ha2 hyd hvs n5 e4 e5; lia)) (fun i zs H' h => by have := h.2.length; simp at this; (clear n1 e1 n2 e2 n0 hd ea hl n3 e3 n30 h32 ha2 hyd hyl e4 hvs n5 e5 l5 l6 h; lia)) (fun i x zs H' ex S' h => ?_) (fun p7 zs H6 H7 S6 S7 h n7 e7 => ?_)
    · have hi : i < y.pl.length := by have := (List.getElem?_eq_some_iff.mp ex).1; (clear n1 e1 n2 e2 n0 hd ea hl n3 e3 n30 h32 ha2 hyd hyl e4 hvs n5 l6 ex e5 h; lia)
      obtain ⟨v',hv',dv'⟩ := Dts.map_of D5 (List.getElem?_eq_getElem hi)
      rw [ex] at hv'; cases hv'
      obtain ⟨b,rfl,eb⟩ := dP_of (dv'.same S')
      walk_at "rd"
      refine ⟨by decide,NewO.mk fun p8 H8 S8 n8 e8 => ?_⟩
      walk_at "rd"
      refine ⟨_,e8,_,S8 _ _ eb,?_,fun p9 H9 S9 e9 => ⟨(S'.trans S8).trans S9,by (clear n1 e1 n2 e2 n0 hd ea hl n3 e3 n30 h32 ha2 hyd h eb ex n8 e8 e9 hyl e4 hvs n5 l6 e5; lia),?_⟩⟩
      · have := M.pl_dp (List.getElem_mem hi)
        refine small_le ?_
        simp [vP]
        have := y.dp_le
        (clear n1 e1 n2 e2 n0 hd ea hl n3 e3 n30 h32 ha2 hyd e5 l5 l6 h eb ex n8 hvs n5 e4 e8; lia)
      · rw [List.take_add_one,List.getElem?_eq_getElem hi]
        simp only [Option.toList_some,List.map_append,List.map_cons,List.map_nil]
        exact ((h.2.same S8).same S9).append (.one (dP_mk (p := step :: y.pl[i]) e9))
    · refine ⟨p7,rfl,vs,S7 _ _ (S6 _ _ (S5 _ _ e4)),zs,e7,?_,PutO.mk fun H8 k8 e8 => ?_⟩
      · have := h.2.length
        simp at this
        refine small_le (by (clear n1 e1 n2 e2 n0 hd ea hl n3 e3 n30 h32 ha2 n5 e5 h n7 hyd e4 e7; lia))
      · have D7 := h.2.same S7
        rw [l5,List.take_length] at D7
        refine hR H8 zs (Same.put_new (((S4.trans S5).trans S6).trans S7) n0 k8) e8 (D7.of_put (S7 _ _ (S6 _ _ (S5 _ _ e4))) k8 ?_) fun b hb o e => ?_
        · have : ∀ l : List (List Nat),D.nls (l.map fun q => dP (step :: q)) = true := fun l => by
           induction l with
           | nil => rfl
           | cons q l ih => simp only [List.map_cons,D.nls,dP_nl,ih,Bool.and_self]
          exact this _
        · rw [k8 b hb]
          exact S7 _ _ (S6 _ _ (S5 _ _ e))
   obtain ⟨Pv,hPv⟩ : ∃ Pv : Nat → St → Hp → Prop,∀ i σ H',Pv i σ H' ↔ ∃ (o2 : Option V) (vs : List V),Same H H' ∧ H' p3 = some (.tup [.int 0,.int 1]) ∧ H' a = some (.tup [.str "knot",.str f,vl,vr]) ∧ H' p2 = some (.lst vs) ∧
    Dts H' ((([] : List Nat) :: ((if 1 ≤ i then l.pl.map (0 :: ·) else []) ++ (if 2 ≤ i then r.pl.map (1 :: ·) else []))).map dP) vs ∧ Dt H' (dT l) vl ∧ Dt H' (dT r) vr ∧ σ = [some (.ref a),some (.ref p2),o2] := ⟨_,fun _ _ _ => Iff.rfl⟩
   refine WalkT.for e3 Pv ((hPv _ _ _).mpr ⟨none,_,S12.trans S3,e3,S3 _ _ ea,S3 _ _ e2,.one (d0.same S3),hl'.same S3,hr'.same S3,rfl⟩) (fun i σ H' _ h => by obtain ⟨_,_,_,h,_⟩ := (hPv _ _ _).mp h; exact h) ?_ ?_
   · intro i x σ H4 ex h
     obtain ⟨o2,vs,S4,f3,fa,f2,D4,hl4,hr4,rfl⟩ := (hPv _ _ _).mp h
     have lvs := D4.length
     have b1 := M.pl_len_le l
     have b2 := M.pl_len_le r
     have hi : i < 2 := by have := (List.getElem?_eq_some_iff.mp ex).1; simpa using this
     have keep : ∀ {H5 : Hp} {ws : List V},(∀ b,b ≠ p2 → ∀ o,H4 b = some o → H5 b = some o) → Tups H4 H5 := fun {H5 ws} k5 b xs e => k5 b (ne_of e f2 (by intro z; cases z)) _ e
     rcases (show i = 0 ∨ i = 1 by (clear n1 e1 n2 e2 n0 hd ea hl n3 e3 n30 f3 fa f2 lvs b1 b2 ha2 ex; lia)) with rfl | rfl
     · cases ex
       walk_at "rd"
       refine ⟨ty_lst f2,_,items_t fa,_,atI_2,?_⟩
       refine turn l vl 0 H4 vs (fun _ => Pv 1 _) (by (clear n30 h32 ha2 f3 fa f2 b1 b2 lvs hi n1 e1 n2 e2 n0 n3 e3 hl ea; lia)) (by (clear n30 h32 ha2 f3 fa f2 b1 b2 lvs hi n1 e1 n2 e2 n0 n3 e3 hd ea; lia)) S4 f2 hl4 (by simp at lvs; (clear n1 e1 n2 e2 n0 hd ea hl n3 e3 n30 h32 ha2 f3 fa f2 b1 b2 hi; lia)) fun H5 ws S5 e5 D5 k5 => (hPv _ _ _).mpr ?_
       have U := keep (ws := ws) k5
       refine ⟨_,_,S5,U _ _ f3,U _ _ fa,e5,?_,hl4.tups U (dT_nl l),hr4.tups U (dT_nl r),rfl⟩
       have D4' := D4.tups U (by simp [D.nls,dP_nl])
       simpa [Function.comp_def] using D4'.append D5
     · cases ex
       walk_at "rd"
       refine ⟨ty_lst f2,_,items_t fa,_,atI_3,?_⟩
       refine turn r vr 1 H4 vs (fun _ => Pv 2 _) (by (clear n30 h32 ha2 f3 fa f2 b1 b2 lvs hi n1 e1 n2 e2 n0 n3 e3 hl ea; lia)) (by (clear n30 h32 ha2 f3 fa f2 b1 b2 lvs hi n1 e1 n2 e2 n0 n3 e3 hd ea; lia)) S4 f2 hr4 (by simp at lvs; (clear n1 e1 n2 e2 n0 n30 h32 ha2 f3 fa n3 e3 f2 hd ea b2 hi; lia)) fun H5 ws S5 e5 D5 k5 => (hPv _ _ _).mpr ?_
       have U := keep (ws := ws) k5
       refine ⟨_,_,S5,U _ _ f3,U _ _ fa,e5,?_,hl4.tups U (dT_nl l),hr4.tups U (dT_nl r),rfl⟩
       have nls : ∀ q : List (List Nat),D.nls (q.map dP) = true := fun q => by
        induction q with
        | nil => rfl
        | cons a q ih => simp only [List.map_cons,D.nls,dP_nl,ih,Bool.and_self]
       have D4' := D4.tups U (nls _)
       simpa [Function.comp_def] using D4'.append D5
   · intro σ H4 h
     obtain ⟨o2,vs,S4,f3,fa,f2,D4,hl4,hr4,rfl⟩ := (hPv _ _ _).mp h
     walk_at "rd"
     exact q p2 _ H4 S4 n0 f2 (by simpa [M.Tr.pl] using D4)
noncomputable def leafAt (t : L2.Tree) (p : List Nat) : Bool := match t.sub p with | some s => s.isL | none => false
noncomputable def lvp (t : L2.Tree) : List (List Nat) := t.pl.filter (leafAt t)
theorem lvp_wk (t : L2.Tree) : lvp t = ((t.wk []).filter (fun q => q.2.isL)).map (·.1) := M.pl_filter t _ fun q s h => by unfold leafAt; rw [M.Tr.sub_mem h]
noncomputable def spLeaves (n : Nat) : Sp := fun vs H Q _ => ∃ (t : L2.Tree) (v : V),vs = [v] ∧ Dt H (dT t) v ∧ t.dp ≤ n ∧ t.lv.length ≤ 5000 ∧ RetL H ((lvp t).map dP) Q
theorem ok_leaves (T : Txt K mg) (n : Nat) : FnOk P w K mg base CX0 (n + 3) T.f_leaves T.d_leaves ["tree"] (spLeaves n) := by
 refine T.F_leaves.ok (k := n + 2) sc_leaves (fun vs H Q E h => ?_) (fun cdv A outer s H vs Q E hr h => ?_)
 · obtain ⟨t,v,rfl,_⟩ := h
   rfl
 obtain ⟨t,v,rfl,ht,hd,hl,q⟩ := h
 have nd := sc_leaves.nd
 have G_is_leaf := (ok_leaf (P := P) (w := w) (base := base) T).mono (k := n + 2) (by lia)
 have G_part_at := (ok_part (P := P) (w := w) (base := base) T).mono (k := n + 2) (by lia)
 have G_places := ok_places (P := P) (w := w) (base := base) T n
 refine ⟨_,(pss_one (ps_ret (pe_comp (N := ["place","tree"]) (caps := [0]) rfl ⟨rfl,rfl,rfl,rfl,by decide +kernel,rfl,rfl,rfl,rfl⟩ (piL (pe_call G_places hr rfl T.m_places T.F_places.kp T.b_places .nil pass0 (pa_cons (pv 0) pa_nil))) (fun _ _ _ _ => pif_one (pt_val (pe_call G_is_leaf hr rfl T.m_is_leaf T.F_is_leaf.kp T.b_is_leaf .nil pass0 (pa_cons (pe_call G_part_at hr rfl T.m_part_at T.F_part_at.kp T.b_part_at .nil pass0 (pa_cons (pv 1) (pa_cons (pv 0) pa_nil))) pa_nil)))) (fun _ _ _ _ => (pv 0))))),?_⟩
 walk_at "rd"
 refine ⟨t,v,rfl,ht,hd,hl,fun p5 ys H5 S5 n5 e5 D5 => ?_⟩
 have l5 : ys.length = t.pl.length := by have := D5.length; simpa using this
 have l6 := M.pl_len_le t
 refine WalkL.comp e5 (fun i zs H' => H' = H5 ∧ zs.length ≤ i ∧ Dts H' (((t.pl.take i).filter (leafAt t)).map dP) zs) ⟨rfl,Nat.zero_le _,.nil⟩ (by (clear n5 e5 hd; lia)) (fun i zs H' h => h.2.1) (fun i x zs H' ex S' h => ?_) (fun p7 zs H6 H7 S6 S7 h n7 e7 => ?_)
 · obtain ⟨rfl,hz,D6⟩ := h
   have hi : i < t.pl.length := by have := (List.getElem?_eq_some_iff.mp ex).1; (clear hd hl n5 ex e5 l6 hz; lia)
   obtain ⟨v',hv',dv'⟩ := Dts.map_of D5 (List.getElem?_eq_getElem hi)
   rw [ex] at hv'; cases hv'
   obtain ⟨u,hu,_⟩ := M.pl_sub (List.getElem_mem hi)
   have hg : leafAt t t.pl[i] = u.isL := by unfold leafAt; rw [hu]
   walk_at "rd"
   refine ⟨t,u,_,v,x,rfl,ht.same S5,dv',hu,fun w' hw' => ⟨u,w',rfl,hw',_,rfl,ite2 (fun c => ?_) (fun c => ?_)⟩⟩
   · refine ⟨S',rfl,by simp; omega,?_⟩
     rw [List.take_add_one,List.getElem?_eq_getElem hi,List.filter_append]
     simp only [Option.toList_some,List.filter_cons,List.filter_nil,hg,c,if_true,List.map_append,List.map_cons,List.map_nil]
     exact D6.append (.one dv')
   · have c : u.isL = false := by simpa using c
     refine ⟨S',rfl,by (clear hd hl n5 l5 l6 ex hu hg c e5; lia),?_⟩
     rw [List.take_add_one,List.getElem?_eq_getElem hi,List.filter_append]
     simp only [Option.toList_some,List.filter_cons,List.filter_nil,hg,c,Bool.false_eq_true,if_false,List.append_nil]
     exact D6
 · obtain ⟨rfl,hz,D6⟩ := h
   rw [l5,List.take_length] at D6
   exact q p7 zs H7 (S5.trans S7) (S5.free n7) e7 (D6.same S7)
noncomputable def spPlaceOf (n : Nat) : Sp := fun vs H Q _ => ∃ (t : L2.Tree) (x : Str) (v : V),vs = [v,.str x] ∧ Dt H (dT t) v ∧ t.dp ≤ n ∧ t.lv.length ≤ 5000 ∧ RetD H (dO (M.firstOf x (t.wk []))) Q
theorem ok_placeof (T : Txt K mg) (n : Nat) : FnOk P w K mg base CX0 (n + 4) T.f_place_of T.d_place_of ["tree","x"] (spPlaceOf n) := by
 refine T.F_place_of.ok (k := n + 3) sc_place_of (fun vs H Q E h => ?_) (fun cdv A outer s H vs Q E hr h => ?_)
 · obtain ⟨t,x,v,rfl,_⟩ := h
   rfl
 obtain ⟨t,x,v,rfl,ht,hd,hl,q⟩ := h
 have nd := sc_place_of.nd
 have G_part_at := (ok_part (P := P) (w := w) (base := base) T).mono (k := n + 3) (by lia)
 have G_leaves := ok_leaves (P := P) (w := w) (base := base) T n
 refine ⟨_,(pss_cons (ps_for PassesOwn.never rfl (piL (pe_call G_leaves hr rfl T.m_leaves T.F_leaves.kp T.b_leaves .nil pass0 (pa_cons (pv 0) pa_nil))) (pg_name (i := 2) nd rfl (Or.inl rfl)) (pss_one (ps_if (pt_cmpR op_eq (pe_ix ixF (pe_call G_part_at hr rfl T.m_part_at T.F_part_at.kp T.b_part_at .nil pass0 (pa_cons (pv 0) (pa_cons (pv 2) pa_nil))) pe_int (fun _ _ => rfl)) (pv 1) (nomark _)) (pss_one (ps_ret (pv 2))) pss_nil)))
  (pss_one (ps_ret pe_non))),?_⟩
 walk_at "rd"
 refine ⟨t,v,rfl,ht,hd,hl,fun p5 ys H5 S5 n5 e5 D5 => ?_⟩
 rw [lvp_wk,List.map_map] at D5
 have l5 := D5.length
 have ht5 := ht.same S5
 obtain ⟨Pv,hPv⟩ : ∃ Pv : Nat → St → Hp → Prop,∀ i σ H',Pv i σ H' ↔ H' = H5 ∧ (∀ q ∈ ((t.wk []).filter (fun q => q.2.isL)).take i,q.2.name ≠ x) ∧ ∃ o2 : Option V,σ = [some v,some (.str x),o2] := ⟨_,fun _ _ _ => Iff.rfl⟩
 refine WalkL.for e5 Pv ((hPv _ _ _).mpr ⟨rfl,by simp,none,rfl⟩) (fun i σ H' _ h => ((hPv _ _ _).mp h).1 ▸ e5) ?_ ?_
 · intro i y σ H' ey h
   obtain ⟨rfl,hn,o2,rfl⟩ := (hPv _ _ _).mp h
   have hi : i < ((t.wk []).filter (fun q => q.2.isL)).length := by have := (List.getElem?_eq_some_iff.mp ey).1; simp at l5; (clear hd hl n5 ey e5; lia)
   obtain ⟨q0,hq0⟩ : ∃ q0,((t.wk []).filter (fun q => q.2.isL))[i]? = some q0 := ⟨_,List.getElem?_eq_getElem hi⟩
   obtain ⟨v',hv',dv'⟩ := Dts.map_of D5 hq0
   rw [ey] at hv'; cases hv'
   have hm := List.mem_filter.mp (List.mem_of_getElem? hq0)
   obtain ⟨qp,qs⟩ := q0
   have hsub := M.Tr.sub_mem hm.1
   walk_at "rd"
   refine ⟨t,qs,qp,v,y,rfl,ht5,dv',hsub,fun w' hw' => ?_⟩
   obtain ⟨a,r,rfl,ea⟩ := dT_any hw'
   walk_at "rd"
   refine ⟨_,items_t ea,_,atI_1,rfl,?_⟩
   refine ite2 (fun c => ?_) (fun c => ?_)
   · have c : qs.name = x := by simpa using c
     refine q y _ S5 ?_
     rw [M.firstOf_filter,M.firstOf_hit hn hq0 hm.2 c]
     exact dv'
   · have c : ¬ qs.name = x := by simpa using c
     refine (hPv _ _ _).mpr ⟨rfl,fun q hq => ?_,_,rfl⟩
     rw [List.take_add_one,hq0] at hq
     simp only [Option.toList_some,List.mem_append,List.mem_singleton] at hq
     rcases hq with hq | rfl
     · exact hn q hq
     · exact c
 · intro σ H' h
   obtain ⟨rfl,hn,o2,rfl⟩ := (hPv _ _ _).mp h
   walk_at "rd"
   refine q _ _ S5 ?_
   rw [M.firstOf_filter,M.firstOf_drop _ ys.length hn]
   simp at l5
   rw [l5,List.drop_length]
   exact isD_non.mpr rfl
noncomputable def spDeeper (n : Nat) : Sp := fun vs H Q _ => ∃ (t : L2.Tree) (v : V) (b : Nat),vs = [v,.int b] ∧ Dt H (dT t) v ∧ b ≤ n ∧ Q (.bl (decide (b < t.dp))) H
theorem ok_deeper (T : Txt K mg) : ∀ n : Nat,FnOk P w K mg base CX0 (n + 2) T.f_deeper_than T.d_deeper_than ["tree","bound"] (spDeeper n) := by
 have main : ∀ n : Nat,(∀ m,n = m + 1 → FnOk P w K mg base CX0 (n + 1) T.f_deeper_than T.d_deeper_than ["tree","bound"] (spDeeper m)) → FnOk P w K mg base CX0 (n + 2) T.f_deeper_than T.d_deeper_than ["tree","bound"] (spDeeper n) := by
  intro n ih
  refine T.F_deeper_than.ok (k := n + 1) sc_deeper_than (fun vs H Q E h => ?_) (fun cdv A outer s H vs Q E hr h => ?_)
  · obtain ⟨t,v,b,rfl,_⟩ := h
    rfl
  obtain ⟨t,v,b,rfl,ht,hb,q⟩ := h
  have nd := sc_deeper_than.nd
  have G_is_leaf := (ok_leaf (P := P) (w := w) (base := base) T).mono (k := n + 1) (by lia)
  obtain ⟨sp,G_deeper_than,hsp⟩ : ∃ sp : Sp,FnOk P w K mg base CX0 (n + 1) T.f_deeper_than T.d_deeper_than ["tree","bound"] sp ∧ ∀ m,n = m + 1 → sp = spDeeper m := by
   cases n with
   | zero => exact ⟨fun _ _ _ _ => False,⟨fun _ _ _ _ h => h.elim,fun _ _ _ _ _ _ _ _ _ _ _ _ _ h => h.elim⟩,fun m h => by lia⟩
   | succ m => exact ⟨_,ih m rfl,fun k h => by rw [show m = k by lia]⟩
  refine ⟨_,(pss_cons (ps_if (pt_cmpR op_eq (pv 1) pe_int (nomark _)) (pss_one (ps_ret pe_bl)) pss_nil)
  (pss_cons (ps_if (pt_val (pe_call G_is_leaf hr rfl T.m_is_leaf T.F_is_leaf.kp T.b_is_leaf .nil pass0 (pa_cons (pv 0) pa_nil))) (pss_one (ps_ret pe_bl)) pss_nil)
  (pss_one (ps_ret (pe_or (pe_call G_deeper_than hr rfl T.m_deeper_than T.F_deeper_than.kp T.b_deeper_than .nil pass0 (pa_cons (pe_ix ixF (pv 0) pe_int (fun _ _ => rfl)) (pa_cons (pe_op op_sub (pv 1) pe_int) pa_nil))) (pe_one (pe_call G_deeper_than hr rfl T.m_deeper_than T.F_deeper_than.kp T.b_deeper_than .nil pass0 (pa_cons (pe_ix ixF (pv 0) pe_int (fun _ _ => rfl)) (pa_cons (pe_op op_sub (pv 1) pe_int) pa_nil))))))))),?_⟩
  walk_at "rd"
  have hdp := t.dp_pos
  refine ite2 (fun c => ?_) (fun c => ?_)
  · have c : b = 0 := by have := of_decide_eq_true c; lia
    rw [decide_eq_true (show b < t.dp by lia)] at q
    exact q
  have c : 0 < b := by have : ¬ b = 0 := fun z => c (by simp [z]); lia
  refine ⟨t,v,rfl,ht,_,rfl,?_⟩
  cases t with
  | leaf x =>
   refine iteT ?_
   rw [decide_eq_false (show ¬ b < (M.Tr.leaf x).dp by simp [M.Tr.dp]; omega)] at q
   exact q
  | knot f l r =>
   obtain ⟨a,vl,vr,rfl,ea,hl,hr'⟩ := dT_knot ht
   refine iteF ?_
   obtain ⟨m,rfl⟩ : ∃ m,n = m + 1 := ⟨n - 1,by (clear hdp ea; lia)⟩
   rw [hsp m rfl]
   have hk : (M.Tr.knot f l r).dp = max l.dp r.dp + 1 := rfl
   have hb1 : ((b - 1 : Nat) : Int) = (b : Int) - 1 := by (clear hb hk ea hdp; omega)
   refine ⟨a,rfl,_,items_t ea,vl,atI_2,l,vl,b - 1,by rw [hb1],hl,by (clear c hdp ea hk; lia),_,rfl,ite2 (fun d => ?_) (fun d => ?_)⟩
   · have d := of_decide_eq_true d
     rw [decide_eq_true (show b < (M.Tr.knot f l r).dp by rw [hk]; (clear c hdp ea hb hk hb1; lia))] at q
     exact q
   · have d : ¬ b - 1 < l.dp := fun z => d (decide_eq_true z)
     refine ⟨a,rfl,_,items_t ea,vr,atI_3,r,vr,b - 1,by rw [hb1],hr',by (clear c hdp d ea hk; lia),?_⟩
     have : decide (b < (M.Tr.knot f l r).dp) = decide (b - 1 < r.dp) := by rw [Bool.eq_iff_iff]; simp only [decide_eq_true_eq,hk]; (clear c hdp ea hb hk; lia)
     rw [this] at q
     exact q
 intro n
 induction n with
 | zero => exact main 0 fun m h => by lia
 | succ n ih => exact main (n + 1) (fun m h => by rw [show m = n by lia]; exact ih)
noncomputable def spSize0 : Sp := fun vs H Q _ => ∃ (t : L2.Tree) (v : V),vs = [v] ∧ Dt H (dT t) v ∧ t.dp ≤ 24 ∧ t.lv.length ≤ 32 ∧ ∀ H',Same H H' → Q .non H'
theorem ok_size0 (T : Txt K mg) : FnOk P w K mg base CX0 28 T.f_check_size T.d_check_size ["tree"] spSize0 := by
 refine T.F_check_size.ok (k := 27) sc_check_size (fun vs H Q E h => ?_) (fun cdv A outer s H vs Q E hr h => ?_)
 · obtain ⟨t,v,rfl,_⟩ := h
   rfl
 obtain ⟨t,v,rfl,ht,hd,hl,q⟩ := h
 have nd := sc_check_size.nd
 have G_deeper_than := (ok_deeper (P := P) (w := w) (base := base) T 24).mono (k := 27) (by omega)
 have G_leaves := (ok_leaves (P := P) (w := w) (base := base) T 24).mono (k := 27) (by omega)
 refine ⟨_,(pss_cons (ps_if (pt_val (pe_call G_deeper_than hr rfl T.m_deeper_than T.F_deeper_than.kp T.b_deeper_than .nil pass0 (pa_cons (pv 0) (pa_cons (pe_glob (v := .int 24) rfl T.c_MOST_DEEP ⟨_,rfl⟩) pa_nil)))) (pss_one ps_never) pss_nil)
  (pss_one (ps_if (pt_cmpR op_gt (pe_callB lenG rfl T.z_len bt_len (pa_cons (pe_call G_leaves hr rfl T.m_leaves T.F_leaves.kp T.b_leaves .nil pass0 (pa_cons (pv 0) pa_nil)) pa_nil)) (pe_glob (v := .int 32) rfl T.c_MOST_LEAVES ⟨_,rfl⟩) (nomark _)) (pss_one ps_never) pss_nil))),?_⟩
 walk_at "rd"
 refine ⟨t,v,24,rfl,ht,by omega,_,rfl,?_⟩
 rw [decide_eq_false (by lia)]
 refine iteF ⟨t,v,rfl,ht,hd,by lia,fun p1 ys H1 S1 n1 e1 D1 => ?_⟩
 walk_at "rd"
 refine ⟨_,items_l e1,?_⟩
 have l1 := D1.length
 have : ys.length = t.lv.length := by
  rw [l1,List.length_map,lvp_wk,List.length_map,← M.Tr.wk_lv t [],List.length_map]
 rw [decide_eq_false (by (clear n1 e1 hd l1; lia))]
 exact iteF (q H1 S1)
noncomputable def spNamesOk0 : Sp := fun vs H Q _ => ∃ (t : L2.Tree) (v : V),vs = [v] ∧ Dt H (dT t) v ∧ t.dp ≤ 24 ∧ t.lv.length ≤ 32 ∧ (∀ q s,(q,s) ∈ t.wk [] → nameOk s.name = true) ∧ t.lv.Nodup ∧ ∀ H',Same H H' → Q .non H'
theorem name_len {x : Str} (h : nameOk x = true) : x.length ≤ 8 := by
 unfold nameOk isName at h
 simp only [Bool.and_eq_true,decide_eq_true_eq] at h
 have := h.2.1
 simpa [Str.length] using this
theorem ok_names0 (T : Txt K mg) : FnOk P w K mg base CX0 28 T.f_check_names T.d_check_names ["tree"] spNamesOk0 := by
 refine T.F_check_names.ok (k := 27) sc_check_names (fun vs H Q E h => ?_) (fun cdv A outer s H vs Q E hr h => ?_)
 · obtain ⟨t,v,rfl,_⟩ := h
   rfl
 obtain ⟨t,v,rfl,ht,hd,hl,hn,hnd,q⟩ := h
 have nd := sc_check_names.nd
 have G_is_leaf := (ok_leaf (P := P) (w := w) (base := base) T).mono (k := 27) (by omega)
 have G_is_name := (ok_name (P := P) (w := w) (base := base) T).mono (k := 27) (by omega)
 have G_part_at := (ok_part (P := P) (w := w) (base := base) T).mono (k := 27) (by omega)
 have G_places := (ok_places (P := P) (w := w) (base := base) T 24).mono (k := 27) (by omega)
 refine ⟨_,(pss_cons (ps_let (i := 1) nd rfl (Or.inl rfl) pe_dnewK)
  (pss_one (ps_for PassesOwn.never rfl (piL (pe_call G_places hr rfl T.m_places T.F_places.kp T.b_places .nil pass0 (pa_cons (pv 0) pa_nil))) (pg_name (i := 2) nd rfl (Or.inl rfl)) (pss_cons (ps_let (i := 3) nd rfl (Or.inl rfl) (pe_call G_part_at hr rfl T.m_part_at T.F_part_at.kp T.b_part_at .nil pass0 (pa_cons (pv 0) (pa_cons (pv 2) pa_nil))))
    (pss_cons (ps_let (i := 4) nd rfl (Or.inl rfl) (pe_ix ixF (pv 3) pe_int (fun _ _ => rfl)))
    (pss_cons (ps_if (pt_not (pt_val (pe_call G_is_name hr rfl T.m_is_name T.F_is_name.kp T.b_is_name .nil pass0 (pa_cons (pv 4) pa_nil)))) (pss_one ps_never) pss_nil)
    (pss_one (ps_if (pt_val (pe_call G_is_leaf hr rfl T.m_is_leaf T.F_is_leaf.kp T.b_is_leaf .nil pass0 (pa_cons (pv 3) pa_nil))) (pss_cons (ps_if (pt_cmp (pc_din (hu_of hr) (pv 4) (pv 1))) (pss_one ps_never) pss_nil)
      (pss_one (ps_dput (hu_of hr) (pv 1) (pv 4) pe_bl rfl))) pss_nil)))))))),?_⟩
 walk_at "rd"
 refine NewO.mk fun pd H1 S1 n1 e1 => ?_
 refine ⟨t,v,rfl,ht.same S1,hd,by lia,fun p2 ys H2 S2 n2 e2 D2 => ?_⟩
 have l2 : ys.length = t.pl.length := by have := D2.length; simpa using this
 have pll := M.pl_len_le t
 have wl : t.pl.length = (t.wk []).length := by rw [M.Tr.pl_wk,List.length_map]
 obtain ⟨Pv,hPv⟩ : ∃ Pv : Nat → St → Hp → Prop,∀ i σ H',Pv i σ H' ↔ ∃ (kvs : List (Key × V)) (o2 o3 o4 : Option V),Same H H' ∧ H' pd = some (.dK kvs) ∧ H' p2 = some (.lst ys) ∧ Dt H' (dT t) v ∧ Dts H' (t.pl.map dP) ys ∧ kvs.length ≤ i ∧
  (∀ x : Str,(valV kvs (Sum.inr x)).isSome = true → x ∈ (((t.wk []).take i).filter (fun q => q.2.isL)).map (fun q => q.2.name)) ∧ σ = [some v,some (.ref pd),o2,o3,o4] := ⟨_,fun _ _ _ => Iff.rfl⟩
 refine WalkL.for e2 Pv ((hPv _ _ _).mpr ⟨[],none,none,none,S1.trans S2,S2 _ _ e1,e2,ht.same (S1.trans S2),D2,Nat.zero_le _,by simp [valV_nil],rfl⟩) (fun i σ H' _ h => by obtain ⟨_,_,_,_,_,_,h,_⟩ := (hPv _ _ _).mp h; exact h) ?_ ?_
 · intro i y σ H3 ey h
   obtain ⟨kvs,o2,o3,o4,S3,ed,e3,ht3,D3,hk,hv,rfl⟩ := (hPv _ _ _).mp h
   have hi : i < t.pl.length := by have := (List.getElem?_eq_some_iff.mp ey).1; (clear hd hl n1 e1 wl ey ed e3 n2 e2 pll hk; lia)
   obtain ⟨q0,hq0⟩ : ∃ q0,(t.wk [])[i]? = some q0 := ⟨_,List.getElem?_eq_getElem (by (clear hd hl n1 e1 n2 e2 l2 ey ed e3 hk pll; lia))⟩
   have hpl : t.pl[i]? = some q0.1 := by rw [M.Tr.pl_wk,List.getElem?_map,hq0]; rfl
   obtain ⟨v',hv',dv'⟩ := Dts.map_of D3 hpl
   rw [ey] at hv'; cases hv'
   obtain ⟨qp,qs⟩ := q0
   have hm := List.mem_of_getElem? hq0
   have hsub := M.Tr.sub_mem hm
   walk_at "rd"
   refine ⟨t,qs,qp,v,y,rfl,ht3,dv',hsub,fun w' hw' => ?_⟩
   obtain ⟨a,r,rfl,ea⟩ := dT_any hw'
   walk_at "rd"
   refine ⟨_,items_t ea,_,atI_1,?_⟩
   have hok := hn qp qs hm
   refine ⟨_,rfl,Nat.le_trans (name_len hok) (by decide),fun H4 S4 => ?_⟩
   rw [hok]
   walk_at "rd"
   have tk : (((t.wk []).take (i + 1)).filter (fun q => q.2.isL)).map (fun q => q.2.name) = (((t.wk []).take i).filter (fun q => q.2.isL)).map (fun q => q.2.name) ++ (if qs.isL = true then [qs.name] else []) := by
    rw [List.take_add_one,hq0,List.filter_append,List.map_append]
    congr 1
    simp only [Option.toList_some,List.filter_cons,List.filter_nil]
    split <;> rfl
   have U4 : ∀ {b o},H3 b = some o → H4 b = some o := fun h => S4 _ _ h
   refine iteF ⟨qs,.ref a,rfl,hw'.same S4,_,rfl,ite2 (fun c => ?_) (fun c => ?_)⟩
   · rw [if_pos c] at tk
     have nin : qs.name ∉ (((t.wk []).take i).filter (fun q => q.2.isL)).map (fun q => q.2.name) := fun z => by
      have sb : ((((t.wk []).take (i + 1)).filter (fun q => q.2.isL)).map (fun q => q.2.name)).Sublist t.lv := by
       rw [← M.Tr.wk_lv t []]
       exact ((List.take_sublist _ _).filter _).map _
      have := sb.nodup hnd
      rw [tk,List.nodup_append] at this
      exact this.2.2 _ z _ (by simp) rfl
     have vn : valV kvs (Sum.inr qs.name) = none := by
      cases e : valV kvs (Sum.inr qs.name) with
      | none => rfl
      | some y => exact absurd (hv qs.name (by rw [e]; rfl)) nin
     refine ⟨_,DGet.k (k := Sum.inr qs.name) (U4 ed),?_⟩
     rw [vn]
     refine iteF ⟨_,DPut.k (k := Sum.inr qs.name) (U4 ed) (small_size (by (clear hok tk c nin vn e1 n2 e2 ey ed e3 hpl hsub ea n1 l2 hq0 hd wl; lia))),(hPv _ _ _).mpr ?_⟩
     have Ut : Tups H4 (upd H4 pd (.dK (putK kvs (Sum.inr qs.name) (V.bl true)))) := fun b xs e => by rw [upd_ne (ne_of e (U4 ed) (by intro z; cases z))]; exact e
     refine ⟨_,_,_,_,(S3.trans S4).put n1 _,upd_same,by rw [upd_ne (ne_of (U4 e3) (U4 ed) (by intro z; cases z))]; exact U4 e3,(ht3.same S4).tups Ut (dT_nl t),(D3.same S4).tups Ut ?_,?_,fun x hx => ?_,rfl⟩
     · have : ∀ l : List (List Nat),D.nls (l.map dP) = true := fun l => by
        induction l with
        | nil => rfl
        | cons q l ih => simp only [List.map_cons,D.nls,dP_nl,ih,Bool.and_self]
       exact this _
     · have := length_putK kvs (Sum.inr qs.name) (V.bl true)
       (clear hd hl n1 e1 n2 e2 l2 pll wl ey ed e3 hpl hsub ea hok tk c hq0 nin hi vn; lia)
     · rw [tk]
       rw [valV_put] at hx
       split at hx
       · rename_i z
         cases z
         simp
       · exact List.mem_append_left _ (hv x hx)
   · rw [if_neg c,List.append_nil] at tk
     exact (hPv _ _ _).mpr ⟨kvs,_,_,_,S3.trans S4,U4 ed,U4 e3,ht3.same S4,D3.same S4,by (clear hd hl n1 e1 n2 e2 l2 pll wl ey ed ea hok tk c hq0 hpl hsub hi e3; lia),fun x hx => by rw [tk]; exact hv x hx,rfl⟩
 · intro σ H' h
   obtain ⟨kvs,o2,o3,o4,S3,ed,e3,ht3,D3,hk,hv,rfl⟩ := (hPv _ _ _).mp h
   exact q H' S3
noncomputable def spFormula0 : Sp := fun vs H Q _ => ∃ (t : L2.Tree) (v : V),vs = [v] ∧ Dt H (dT t) v ∧ t.dp ≤ 24 ∧ t.lv.length ≤ 32 ∧ (∀ q s,(q,s) ∈ t.wk [] → nameOk s.name = true) ∧ t.lv.Nodup ∧ ∀ H',Same H H' → Q v H'
theorem ok_formula0 (T : Txt K mg) : FnOk P w K mg base CX0 29 T.f_formula T.d_formula ["tree"] spFormula0 := by
 refine T.F_formula.ok (k := 28) sc_formula (fun vs H Q E h => ?_) (fun cdv A outer s H vs Q E hr h => ?_)
 · obtain ⟨t,v,rfl,_⟩ := h
   rfl
 obtain ⟨t,v,rfl,ht,hd,hl,hn,hnd,q⟩ := h
 have nd := sc_formula.nd
 have G_check_size := ok_size0 (P := P) (w := w) (base := base) T
 have G_check_names := ok_names0 (P := P) (w := w) (base := base) T
 refine ⟨_,(pss_cons (ps_expr (pe_call G_check_size hr rfl T.m_check_size T.F_check_size.kp T.b_check_size .nil pass0 (pa_cons (pv 0) pa_nil)))
  (pss_cons (ps_expr (pe_call G_check_names hr rfl T.m_check_names T.F_check_names.kp T.b_check_names .nil pass0 (pa_cons (pv 0) pa_nil)))
  (pss_one (ps_ret (pv 0))))),?_⟩
 walk_at "rd"
 exact ⟨t,v,rfl,ht,hd,hl,fun H1 S1 => ⟨t,v,rfl,ht.same S1,hd,hl,hn,hnd,fun H2 S2 => q H2 (S1.trans S2)⟩⟩
noncomputable def spShow (n : Nat) : Sp := fun vs H Q _ => ∃ (t : L2.Tree) (v : V),vs = [v] ∧ Dt H (dT t) v ∧ t.dp ≤ n ∧ (txL t).length ≤ 50000 ∧ Q (.str ⟨(txL t).toArray⟩) H
theorem ok_show (T : Txt K mg) : ∀ n : Nat,FnOk P w K mg base CX0 (n + 2) T.f_show T.d_show ["tree"] (spShow n)
 | 0 => by
  refine T.F_show.ok (k := 1) sc_show (fun vs H Q E h => ?_) (fun cdv A outer s H vs Q E hr h => ?_)
  · obtain ⟨t,v,rfl,_⟩ := h
    rfl
  · obtain ⟨t,v,rfl,_,h,_⟩ := h
    have := t.dp_pos
    omega
 | n + 1 => by
  refine T.F_show.ok (k := n + 2) sc_show (fun vs H Q E h => ?_) (fun cdv A outer s H vs Q E hr h => ?_)
  · obtain ⟨t,v,rfl,_⟩ := h
    rfl
  obtain ⟨t,v,rfl,ht,hd,hl,q⟩ := h
  have nd := sc_show.nd
  have G_is_leaf := (ok_leaf (P := P) (w := w) (base := base) T).mono (k := n + 2) (by lia)
  have G_show := ok_show T n
  refine ⟨_,(pss_cons (ps_let (i := 1) nd rfl (Or.inl rfl) (pe_ix ixF (pv 0) pe_int (fun _ _ => rfl)))
  (pss_cons (ps_if (pt_val (pe_call G_is_leaf hr rfl T.m_is_leaf T.F_is_leaf.kp T.b_is_leaf .nil pass0 (pa_cons (pv 0) pa_nil))) (pss_one (ps_ret (pv 1))) pss_nil)
  (pss_cons (ps_let (i := 2) nd rfl (Or.inl rfl) (pe_call G_show hr rfl T.m_show T.F_show.kp T.b_show .nil pass0 (pa_cons (pe_ix ixF (pv 0) pe_int (fun _ _ => rfl)) pa_nil)))
  (pss_cons (ps_let (i := 3) nd rfl (Or.inl rfl) (pe_call G_show hr rfl T.m_show T.F_show.kp T.b_show .nil pass0 (pa_cons (pe_ix ixF (pv 0) pe_int (fun _ _ => rfl)) pa_nil)))
  (pss_one (ps_ret (pe_js (.cons (pe_fmtS (pv 1)) (.cons pe_str (.cons (pe_fmtS (pv 2)) (.cons pe_str (.cons (pe_fmtS (pv 3)) (.cons pe_str .nil))))))))))))),?_⟩
  cases t with
  | leaf x =>
   obtain ⟨a,rfl,ea⟩ := dT_leaf ht
   walk_at "rd"
   refine ⟨_,items_t ea,_,atI_1,.leaf x,_,rfl,ht,_,rfl,iteT ?_⟩
   have : (⟨(txL (.leaf x)).toArray⟩ : Str) = x := str_ext (by simp [txL])
   rw [this] at q
   exact q
  | knot f l r =>
   obtain ⟨a,vl,vr,rfl,ea,hl',hr'⟩ := dT_knot ht
   simp only [M.Tr.dp] at hd
   walk_at "rd"
   refine ⟨_,items_t ea,_,atI_1,.knot f l r,_,rfl,ht,_,rfl,iteF ?_⟩
   have ln : f.cps.toList.length + (txL l).length + (txL r).length + 3 ≤ 50000 := by
    have : (txL (.knot f l r)).length = f.cps.toList.length + 1 + (txL l).length + 1 + (txL r).length + 1 := by simp [txL]; (clear hd hl ea; lia)
    (clear hd ea; lia)
   have zl : ∀ y : Str,y.cps.toList.length ≤ 50000 → y.length ≤ sizeLine := fun y hy => small_le (by rw [len_cps]; (clear hd hl ea ln; lia))
   have k0 : Str.empty.cps.toList = [] := rfl
   have k1 : (Str.ofString "(").cps.toList = [40] := by decide +kernel
   have k2 : (Str.ofString " ").cps.toList = [32] := by decide +kernel
   have k3 : (Str.ofString ")").cps.toList = [41] := by decide +kernel
   refine ⟨_,items_t ea,_,atI_2,l,_,rfl,hl',by (clear k0 k1 k2 k3 ea ln hl; lia),by (clear k0 k1 k2 k3 hd hl ea; lia),?_⟩
   refine ⟨_,items_t ea,_,atI_3,r,_,rfl,hr',by (clear k0 k1 k2 k3 ea ln hl; lia),by (clear k0 k1 k2 k3 hd hl ea; lia),?_⟩
   refine ⟨f,rfl,zl _ (by (clear k0 k1 k2 k3 hd hl ea; lia)),zl _ ?_,zl _ ?_,_,rfl,zl _ ?_,zl _ ?_,zl _ ?_,_,rfl,zl _ ?_,zl _ ?_,zl _ ?_,zl _ ?_,?_⟩
   all_goals try (simp only [cps_append,k0,k1,k2,k3,cps_mk,List.length_append,List.length_cons,List.length_nil]; (clear k0 k1 k2 k3 hd hl ea; lia))
   have : (⟨(txL (.knot f l r)).toArray⟩ : Str) = Str.empty ++ f ++ Str.ofString "(" ++ ⟨(txL l).toArray⟩ ++ Str.ofString " " ++ ⟨(txL r).toArray⟩ ++ Str.ofString ")" := str_ext (by
    simp only [cps_append,k0,k1,k2,k3,cps_mk,txL]; simp)
   rw [this] at q
   exact q
noncomputable def spNameEnd : Sp := fun vs H Q _ => ∃ (z : Str) (s : Nat),vs = [.str z,.int s] ∧ z.length ≤ 50000 ∧ s ≤ z.length ∧ Q (.int (nameEnd z.cps.toList s)) H
theorem ok_nameend (T : Txt K mg) : FnOk P w K mg base CX0 1 T.f_name_end T.d_name_end ["text","start"] spNameEnd := by
 refine T.F_name_end.ok (k := 0) sc_name_end (fun vs H Q E h => ?_) (fun cdv A outer s H vs Q E hr h => ?_)
 · obtain ⟨z,s,rfl,_⟩ := h
   rfl
 obtain ⟨z,st,rfl,hz,hs,q⟩ := h
 have nd := sc_name_end.nd
 refine ⟨_,(pss_cons (ps_let (i := 2) nd rfl (Or.inl rfl) (pv 1))
  (pss_cons (ps_while PassesOwn.never (PW.pt (pw_and (pt_cmpR op_lt (pv 2) (pe_callB call_len_str rfl T.z_len bt_len (pa_cons (pv 0) pa_nil)) (nomark _)) (pw_and1 (pt_cmpR op_notin_str (pe_ix ix_str (pv 0) (pv 2) (fun _ _ => rfl)) pe_str (by with_unfolding_all rfl))))) (pss_one (ps_aug (i := 2) nd rfl (Or.inl rfl) pe_int ip_add)))
  (pss_one (ps_ret (pv 2))))),?_⟩
 walk_at "rd"
 have zl : z.length ≤ sizeLine := small_le (by lia)
 have lz := len_cps z
 obtain ⟨W,hW⟩ : ∃ W : Nat → St → Hp → Prop,∀ m σ H',W m σ H' ↔ H' = H ∧ ∃ e : Nat,m = z.length - e ∧ st ≤ e ∧ e ≤ z.length ∧ nameEnd z.cps.toList e = nameEnd z.cps.toList st ∧ σ = [some (V.str z),some (V.int st),some (V.int e)] := ⟨_,fun _ _ _ => Iff.rfl⟩
 refine ⟨W,⟨_,(hW _ _ _).mpr ⟨rfl,st,rfl,Nat.le_refl _,hs,rfl,rfl⟩⟩,?_⟩
 intro m σ H' h
 obtain ⟨rfl,e,rfl,h1,h2,h3,rfl⟩ := (hW _ _ _).mp h
 have step : ∀ c,z.cps.toList[e]? = some c → nameEnd z.cps.toList e = if isSign c = true then e else nameEnd z.cps.toList (e + 1) := fun c hc => by
  obtain ⟨hi,e2⟩ := List.getElem?_eq_some_iff.mp hc
  unfold nameEnd
  rw [List.drop_eq_getElem_cons hi,e2,List.takeWhile_cons]
  cases isSign c
  · simp; (clear hz hs zl lz h1 h2 h3 hc hi e2; lia)
  · simp
 walk_at "rd"
 refine ⟨zl,ite2 (fun c => ?_) (fun c => ?_)⟩
 · have c : e < z.length := by have := of_decide_eq_true c; (clear hz hs zl lz h1 h2 h3 c; omega)
   obtain ⟨ch,hc⟩ : ∃ ch,z.cps.toList[e]? = some ch := ⟨_,List.getElem?_eq_getElem (by (clear hz hs zl h1 h3; omega))⟩
   have sc := step ch hc
   refine ⟨zl,ch,atI_nat hc,?_⟩
   rw [sign_in]
   cases hsg : isSign ch with
   | true =>
    rw [hsg,if_pos rfl] at sc
    refine iteF ?_
    rw [← h3,sc] at q
    exact q
   | false =>
    rw [hsg,if_neg (by simp)] at sc
    refine iteT ⟨fun σ' H' => ∃ m',m' < z.length - e ∧ W m' σ' H',fun _ _ z => z,?_⟩
    exact ⟨z.length - (e + 1),by (clear hz hs zl lz h1 h2 sc hsg hc h3; omega),(hW _ _ _).mpr ⟨rfl,e + 1,rfl,by (clear h3 c hc sc hsg hz hs zl h2 lz; lia),by (clear hz hs zl lz h1 h2 sc hsg hc h3; omega),by rw [← sc]; exact h3,by push_cast; rfl⟩⟩
 · have c : e = z.length := by have : ¬ e < z.length := fun y => c (decide_eq_true (by (clear hz hs zl lz h1 h2 h3 c; omega))); (clear hz hs zl lz h1 h3 c; lia)
   have : nameEnd z.cps.toList e = e := by
    unfold nameEnd
    rw [List.drop_eq_nil_of_le (by (clear hz hs zl h1 h3; lia))]; simp
   rw [← h3,this] at q
   exact q
noncomputable def spPast : Sp := fun vs H Q _ => ∃ (z : Str) (m c : Nat),vs = [.str z,.int m,.str ⟨#[c]⟩] ∧ z.length ≤ 50000 ∧ z.cps.toList[m]? = some c ∧ Q (.int (m + 1 : Nat)) H
theorem ok_past (T : Txt K mg) : FnOk P w K mg base CX0 1 T.f_past T.d_past ["text","at","sign"] spPast := by
 refine T.F_past.ok (k := 0) sc_past (fun vs H Q E h => ?_) (fun cdv A outer s H vs Q E hr h => ?_)
 · obtain ⟨z,m,c,rfl,_⟩ := h
   rfl
 obtain ⟨z,m,c,rfl,hz,hc,q⟩ := h
 have nd := sc_past.nd
 have hm := (List.getElem?_eq_some_iff.mp hc).1
 have lz := len_cps z
 refine ⟨_,(pss_cons (ps_if (pt_cmpR op_ne (pe_slice sl_str (pv 0) (po_some (pv 1)) (po_some (pe_op op_add (pv 1) pe_int))) (pv 2) (nomark _)) (pss_one ps_never) pss_nil)
  (pss_one (ps_ret (pe_op op_add (pv 1) pe_int)))),?_⟩
 walk_at "rd"
 refine ⟨small_le (by (clear hm lz hc; lia)),?_⟩
 rw [slice_is' z (by lia),decide_eq_true hc]
 exact iteF (by simpa using q)
noncomputable def dF (r : L2.Tree × Nat) : D := .tup [dT r.1,.int (r.2 : Int)]
noncomputable def spFrom (n : Nat) : Sp := fun vs H Q _ => ∃ (z : Str) (s m : Nat) (r : L2.Tree × Nat),vs = [.str z,.int s,.int m] ∧ z.length ≤ 50000 ∧ s ≤ z.length ∧ 1 ≤ m ∧ m + n = 25 ∧ tf z.cps.toList n s = some r ∧ RetD H (dF r) Q
theorem ok_from (T : Txt K mg) : ∀ n : Nat,FnOk P w K mg base CX0 (n + 2) T.f_tree_from T.d_tree_from ["text","start","level"] (spFrom n)
 | 0 => by
  refine T.F_tree_from.ok (k := 1) sc_tree_from (fun vs H Q E h => ?_) (fun cdv A outer s H vs Q E hr h => ?_)
  · obtain ⟨z,s,m,r,rfl,_⟩ := h
    rfl
  · obtain ⟨z,s,m,r,rfl,_,_,_,_,h,_⟩ := h
    simp [tf] at h
 | n + 1 => by
  refine T.F_tree_from.ok (k := n + 2) sc_tree_from (fun vs H Q E h => ?_) (fun cdv A outer s H vs Q E hr h => ?_)
  · obtain ⟨z,s,m,r,rfl,_⟩ := h
    rfl
  obtain ⟨z,st,m,r,rfl,hz,hs,hm1,hm,htf,q⟩ := h
  have nd := sc_tree_from.nd
  have G_name_end := (ok_nameend (P := P) (w := w) (base := base) T).mono (k := n + 2) (by (clear hz hs hm1 hm htf; lia))
  have G_past := (ok_past (P := P) (w := w) (base := base) T).mono (k := n + 2) (by (clear hz hs hm1 hm htf; lia))
  have G_tree_from := ok_from T n
  refine ⟨_,(pss_cons (ps_if (pt_cmpR op_gt (pv 2) (pe_glob (v := .int 24) rfl T.c_MOST_DEEP ⟨_,rfl⟩) (nomark _)) (pss_one ps_never) pss_nil)
  (pss_cons (ps_let (i := 3) nd rfl (Or.inl rfl) (pe_call G_name_end hr rfl T.m_name_end T.F_name_end.kp T.b_name_end .nil pass0 (pa_cons (pv 0) (pa_cons (pv 1) pa_nil))))
  (pss_cons (ps_let (i := 4) nd rfl (Or.inl rfl) (pe_slice sl_str (pv 0) (po_some (pv 1)) (po_some (pv 3))))
  (pss_cons (ps_if (pt_cmpR op_ne (pe_slice sl_str (pv 0) (po_some (pv 3)) (po_some (pe_op op_add (pv 3) pe_int))) pe_str (nomark _)) (pss_one (ps_ret (pe_tup (pa_cons (pe_tup (pa_cons pe_str (pa_cons (pv 4) pa_nil))) (pa_cons (pv 3) pa_nil))))) pss_nil)
  (pss_cons (ps_let (i := 5) nd rfl (Or.inl rfl) (pe_call G_tree_from hr rfl T.m_tree_from T.F_tree_from.kp T.b_tree_from .nil pass0 (pa_cons (pv 0) (pa_cons (pe_op op_add (pv 3) pe_int) (pa_cons (pe_op op_add (pv 2) pe_int) pa_nil)))))
  (pss_cons (ps_let (i := 6) nd rfl (Or.inl rfl) (pe_call G_tree_from hr rfl T.m_tree_from T.F_tree_from.kp T.b_tree_from .nil pass0 (pa_cons (pv 0) (pa_cons (pe_call G_past hr rfl T.m_past T.F_past.kp T.b_past .nil pass0 (pa_cons (pv 0) (pa_cons (pe_ix ixF (pv 5) pe_int (fun _ _ => rfl)) (pa_cons pe_str pa_nil)))) (pa_cons (pe_op op_add (pv 2) pe_int) pa_nil)))))
  (pss_one (ps_ret (pe_tup (pa_cons (pe_tup (pa_cons pe_str (pa_cons (pv 4) (pa_cons (pe_ix ixF (pv 5) pe_int (fun _ _ => rfl)) (pa_cons (pe_ix ixF (pv 6) pe_int (fun _ _ => rfl)) pa_nil))))) (pa_cons (pe_call G_past hr rfl T.m_past T.F_past.kp T.b_past .nil pass0 (pa_cons (pv 0) (pa_cons (pe_ix ixF (pv 6) pe_int (fun _ _ => rfl)) (pa_cons pe_str pa_nil)))) pa_nil))))))))))),?_⟩
  walk_at "rd"
  rw [decide_eq_false (by (clear hz hs hm1 htf; lia))]
  refine iteF ⟨z,st,rfl,hz,hs,?_⟩
  have lz := len_cps z
  have zl : z.length ≤ sizeLine := small_le (by (clear hm htf lz hm1; lia))
  have e1 := nameEnd_ge z.cps.toList st
  have e2 : nameEnd z.cps.toList st ≤ z.length := by rw [lz]; exact nameEnd_le (by (clear hm1 hm zl e1 hz htf; lia))
  have tf1 : tf z.cps.toList (n + 1) st = if z.cps.toList[nameEnd z.cps.toList st]? = some 40 then
   match tf z.cps.toList n (nameEnd z.cps.toList st + 1) with
   | none => none
   | some (a,m) => if z.cps.toList[m]? = some 32 then (match tf z.cps.toList n (m + 1) with
    | none => none
    | some (b,y) => if z.cps.toList[y]? = some 41 then some (.knot ⟨((z.cps.toList.drop st).take (nameEnd z.cps.toList st - st)).toArray⟩ a b,y + 1) else none) else none
   else some (.leaf ⟨((z.cps.toList.drop st).take (nameEnd z.cps.toList st - st)).toArray⟩,nameEnd z.cps.toList st) := rfl
  rw [tf1] at htf
  generalize nameEnd z.cps.toList st = en at htf e1 e2
  walk_at "rd"
  refine ⟨zl,zl,?_⟩
  rw [slice_mk z e1 e2]
  generalize (⟨((z.cps.toList.drop st).take (en - st)).toArray⟩ : Str) = nm at htf
  rw [s_op,slice_is' z e2]
  by_cases h40 : z.cps.toList[en]? = some 40
  · rw [if_pos h40] at htf
    rw [decide_eq_true h40]
    have hlt := (List.getElem?_eq_some_iff.mp h40).1
    refine iteF ?_
    cases ha : tf z.cps.toList n (en + 1) with
    | none => rw [ha] at htf; cases htf
    | some am =>
     obtain ⟨ta,ma⟩ := am
     rw [ha] at htf
     dsimp only at htf
     by_cases h32 : z.cps.toList[ma]? = some 32
     · rw [if_pos h32] at htf
       have hlt2 := (List.getElem?_eq_some_iff.mp h32).1
       cases hb : tf z.cps.toList n (ma + 1) with
       | none => rw [hb] at htf; cases htf
       | some bm =>
        obtain ⟨tb,mb⟩ := bm
        rw [hb] at htf
        dsimp only at htf
        by_cases h41 : z.cps.toList[mb]? = some 41
        · rw [if_pos h41] at htf
          cases htf
          refine ⟨z,en + 1,m + 1,(ta,ma),rfl,hz,by (clear hz hs hm1 hm h32 hlt2 hb h41 tf1 e1 e2 h40 zl ha; lia),by (clear hz hs hm1 hm lz zl tf1 e1 e2 h40 hlt ha h32 hlt2 hb h41; lia),by (clear e2 h40 hlt ha h32 hlt2 hb h41 lz zl tf1 e1 hz hs hm1; lia),ha,fun va H1 S1 da => ?_⟩
          obtain ⟨pa,vsa,rfl,ea,Da⟩ := isD_tup.mp da
          obtain ⟨v1,ra,rfl,d1,Da⟩ := isDs_cons.mp Da
          obtain ⟨v2,ra,rfl,d2,Da⟩ := isDs_cons.mp Da
          rw [isDs_nil.mp Da,isD_int.mp d2] at ea
          try (walk_at "rd")
          refine ⟨_,items_t ea,_,atI_1,z,ma,32,by rw [s_bl],hz,h32,?_⟩
          refine ⟨z,ma + 1,m + 1,(tb,mb),rfl,hz,by (clear zl tf1 e1 e2 h40 h41 ea hz hs hm1 hb hlt ha hm h32; lia),by (clear hz hs hm1 hm lz zl tf1 e1 e2 h40 hlt ha h32 hlt2 hb h41 ea; lia),by (clear zl tf1 e1 e2 h40 h41 ea hz hs hm1 ha h32 hlt2 hb hlt lz; lia),hb,fun vb H2 S2 db => ?_⟩
          obtain ⟨pb,vsb,rfl,eb,Db⟩ := isD_tup.mp db
          obtain ⟨w1,rb,rfl,f1,Db⟩ := isDs_cons.mp Db
          obtain ⟨w2,rb,rfl,f2,Db⟩ := isDs_cons.mp Db
          rw [isDs_nil.mp Db,isD_int.mp f2] at eb
          try (walk_at "rd")
          refine ⟨_,items_t (S2 _ _ ea),_,atI_0,_,items_t eb,_,atI_0,by decide,NewO.mk fun p3 H3 S3 n3 e3 => ?_⟩
          refine ⟨_,items_t (S3 _ _ eb),_,atI_1,z,mb,41,by rw [s_cl],hz,h41,by decide,NewO.mk fun p4 H4 S4 n4 e4 => ?_⟩
          have S34 := S3.trans S4
          exact q _ H4 ((S1.trans S2).trans S34) (Dt.tup e4 (.cons (knot_mk (S4 _ _ e3) (d1.same (S2.trans S34)) (f1.same S34)) (.cons (isD_int.mpr rfl) .nil)))
        · rw [if_neg h41] at htf; cases htf
     · rw [if_neg h32] at htf; cases htf
  · rw [if_neg h40] at htf
    cases htf
    rw [decide_eq_false h40]
    refine iteT ⟨by decide,NewO.mk fun p1 H1 S1 n1 e3 => ⟨by decide,NewO.mk fun p2 H2 S2 n2 e4 => ?_⟩⟩
    exact q _ H2 (S1.trans S2) (Dt.tup e4 (.cons (leaf_mk (S2 _ _ e3)) (.cons (isD_int.mpr rfl) .nil)))
noncomputable def spRead0 : Sp := fun vs H Q _ => ∃ (z : Str) (t : L2.Tree),vs = [.str z] ∧ z.length ≤ 50000 ∧ z.cps.toList = txL t ∧ t.dp ≤ 24 ∧ t.lv.length ≤ 32 ∧ (∀ x ∈ t.lv,nameOk x = true) ∧ (∀ x ∈ t.kn,nameOk x = true) ∧ t.lv.Nodup ∧ RetD H (dT t) Q
theorem ok_read0 (T : Txt K mg) : FnOk P w K mg base CX0 30 T.f_read T.d_read ["text"] spRead0 := by
 refine T.F_read.ok (k := 29) sc_read (fun vs H Q E h => ?_) (fun cdv A outer s H vs Q E hr h => ?_)
 · obtain ⟨z,t,rfl,_⟩ := h
   rfl
 obtain ⟨z,t,rfl,hz,ez,hd,hl,hn1,hn2,hnd,q⟩ := h
 have nd := sc_read.nd
 have G_tree_from := (ok_from (P := P) (w := w) (base := base) T 24).mono (k := 29) (by omega)
 have G_formula := (ok_formula0 (P := P) (w := w) (base := base) T).mono (k := 29) (by omega)
 have lz := len_cps z
 have tt := tf_text t 24 [] [] hd (fun x h => nameOk_sign (hn1 x h)) (fun x h => nameOk_sign (hn2 x h)) (.inl rfl)
 simp only [List.nil_append,List.append_nil,List.length_nil,Nat.zero_add] at tt
 refine ⟨_,(pss_cons (ps_let (i := 1) nd rfl (Or.inl rfl) (pe_call G_tree_from hr rfl T.m_tree_from T.F_tree_from.kp T.b_tree_from .nil pass0 (pa_cons (pv 0) (pa_cons pe_int (pa_cons pe_int pa_nil)))))
  (pss_cons (ps_if (pt_cmpR op_ne (pe_ix ixF (pv 1) pe_int (fun _ _ => rfl)) (pe_callB call_len_str rfl T.z_len bt_len (pa_cons (pv 0) pa_nil)) (nomark _)) (pss_one ps_never) pss_nil)
  (pss_one (ps_tryN (pss_one (ps_ret (pe_call G_formula hr rfl T.m_formula T.F_formula.kp T.b_formula .nil pass0 (pa_cons (pe_ix ixF (pv 1) pe_int (fun _ _ => rfl)) pa_nil)))))))),?_⟩
 walk_at "rd"
 refine ⟨z,0,1,_,rfl,hz,Nat.zero_le _,by decide,by decide,by rw [ez]; exact tt,fun v H1 S1 d1 => ?_⟩
 obtain ⟨pa,vsa,rfl,ea,Da⟩ := isD_tup.mp d1
 obtain ⟨v1,ra,rfl,d1,Da⟩ := isDs_cons.mp Da
 obtain ⟨v2,ra,rfl,d2,Da⟩ := isDs_cons.mp Da
 rw [isDs_nil.mp Da,isD_int.mp d2] at ea
 try (walk_at "rd")
 refine ⟨_,items_t ea,_,atI_1,?_⟩
 try (walk_at "rd")
 refine ⟨small_le (by (clear lz tt ea hd hl ez; lia)),?_⟩
 rw [decide_eq_true (show (((txL t).length : Nat) : Int) = ((z.length : Nat) : Int) by rw [lz,ez])]
 refine iteF ⟨_,items_t ea,_,atI_0,t,v1,rfl,d1,hd,hl,fun q' s' h' => ?_,hnd,fun H2 S2 => q _ H2 (S1.trans S2) (d1.same S2)⟩
 have := t.wk_name _ _ _ h'
 cases hL : s'.isL with
 | true => exact hn1 _ (this.1 hL)
 | false => exact hn2 _ (this.2 hL)
noncomputable def spRank (n : Nat) : Sp := fun vs H Q _ => ∃ (t : L2.Tree) (v : V),vs = [v] ∧ Dt H (dT t) v ∧ t.dp ≤ n ∧ Q (.int t.rk) H
theorem ok_rank (T : Txt K mg) : ∀ n : Nat,FnOk P w K mg base CX0 (n + 2) T.f_rank T.d_rank ["tree"] (spRank n)
 | 0 => by
  refine T.F_rank.ok (k := 1) sc_rank (fun vs H Q E h => ?_) (fun cdv A outer s H vs Q E hr h => ?_)
  · obtain ⟨t,v,rfl,_⟩ := h
    rfl
  · obtain ⟨t,v,rfl,_,h,_⟩ := h
    have := t.dp_pos
    omega
 | n + 1 => by
  refine T.F_rank.ok (k := n + 2) sc_rank (fun vs H Q E h => ?_) (fun cdv A outer s H vs Q E hr h => ?_)
  · obtain ⟨t,v,rfl,_⟩ := h
    rfl
  obtain ⟨t,v,rfl,ht,hd,q⟩ := h
  have nd := sc_rank.nd
  have G_is_leaf := (ok_leaf (P := P) (w := w) (base := base) T).mono (k := n + 2) (by lia)
  have G_rank := ok_rank T n
  refine ⟨_,(pss_cons (ps_if (pt_val (pe_call G_is_leaf hr rfl T.m_is_leaf T.F_is_leaf.kp T.b_is_leaf .nil pass0 (pa_cons (pv 0) pa_nil))) (pss_one (ps_ret pe_int)) pss_nil)
  (pss_cons (ps_let (i := 1) nd rfl (Or.inl rfl) (pe_call G_rank hr rfl T.m_rank T.F_rank.kp T.b_rank .nil pass0 (pa_cons (pe_ix ixF (pv 0) pe_int (fun _ _ => rfl)) pa_nil)))
  (pss_cons (ps_let (i := 2) nd rfl (Or.inl rfl) (pe_call G_rank hr rfl T.m_rank T.F_rank.kp T.b_rank .nil pass0 (pa_cons (pe_ix ixF (pv 0) pe_int (fun _ _ => rfl)) pa_nil)))
  (pss_cons (ps_if (pt_cmpR op_eq (pv 1) (pv 2) (nomark _)) (pss_one (ps_ret (pe_op op_add (pv 1) pe_int))) pss_nil)
  (pss_one (ps_ret (pe_callB (call_max2 rfl) rfl T.z_max bt_max (pa_cons (pv 1) (pa_cons (pv 2) pa_nil))))))))),?_⟩
  walk_at "rd"
  refine ⟨t,v,rfl,ht,_,rfl,?_⟩
  cases t with
  | leaf x => exact iteT q
  | knot f l r =>
   obtain ⟨a,vl,vr,rfl,ea,hl',hr'⟩ := dT_knot ht
   simp only [M.Tr.dp] at hd
   refine iteF ⟨a,rfl,_,items_t ea,_,atI_2,l,vl,rfl,hl',by lia,?_⟩
   try (walk_at "rd")
   refine ⟨_,items_t ea,_,atI_3,r,vr,rfl,hr',by lia,?_⟩
   try (walk_at "rd")
   have hk : (M.Tr.knot f l r).rk = if l.rk = r.rk then l.rk + 1 else max l.rk r.rk := rfl
   refine ite2 (fun c => ?_) (fun c => ⟨_,_,⟨rfl,rfl⟩,?_⟩)
   · have c : l.rk = r.rk := by have := of_decide_eq_true c; (clear hd ea hk c; lia)
     rw [hk,if_pos c] at q
     exact q
   · have c : ¬ l.rk = r.rk := fun z => c (decide_eq_true (by (clear hd ea hk c; lia)))
     rw [hk,if_neg c] at q
     have : ((max l.rk r.rk : Nat) : Int) = if (r.rk : Int) > l.rk then (r.rk : Int) else l.rk := by split <;> (clear hd ea hk c; lia)
     rw [this] at q
     exact q
noncomputable def mnR : L2.Tree → Nat
 | .leaf _ => 0
 | .knot _ l r => min l.rk r.rk
noncomputable def dR (q : List Nat × L2.Tree) : D := .tup [dP q.1,.int (q.2.rk : Int),.bl (isK q.2),.int (mnR q.2 : Int)]
theorem dR_of {H : Hp} {q : List Nat × L2.Tree} {v : V} (h : Dt H (dR q) v) : ∃ a v1,v = .ref a ∧ H a = some (.tup [v1,.int (q.2.rk : Int),.bl (isK q.2),.int (mnR q.2 : Int)]) ∧ Dt H (dP q.1) v1 := by
 obtain ⟨a,vs,rfl,e,h⟩ := isD_tup.mp h
 obtain ⟨v1,r,rfl,h1,h⟩ := isDs_cons.mp h
 obtain ⟨v2,r,rfl,h2,h⟩ := isDs_cons.mp h
 obtain ⟨v3,r,rfl,h3,h⟩ := isDs_cons.mp h
 obtain ⟨v4,r,rfl,h4,h⟩ := isDs_cons.mp h
 rw [isDs_nil.mp h,isD_int.mp h2,isD_bl.mp h3,isD_int.mp h4] at e
 exact ⟨a,v1,rfl,e,h1⟩
theorem wk_head (t : L2.Tree) (p : List Nat) : ∃ r,t.wk p = (p,t) :: r := by cases t <;> exact ⟨_,rfl⟩
noncomputable def spRanks (n : Nat) : Sp := fun vs H Q _ => ∃ (t : L2.Tree) (p : List Nat) (v u : V),vs = [v,u] ∧ Dt H (dT t) v ∧ Dt H (dP p) u ∧ t.dp ≤ n ∧ t.lv.length ≤ 5000 ∧ p.length + n ≤ 1000 ∧ RetL H ((t.wk p).map dR) Q
theorem ok_ranks (T : Txt K mg) : ∀ n : Nat,FnOk P w K mg base CX0 (n + 1) T.f__law_ranks T.d__law_ranks ["tree","place"] (spRanks n)
 | 0 => by
  refine T.F__law_ranks.ok (k := 0) sc__law_ranks (fun vs H Q E h => ?_) (fun cdv A outer s H vs Q E hr h => ?_)
  · obtain ⟨t,p,v,u,rfl,_⟩ := h
    rfl
  · obtain ⟨t,p,v,u,rfl,_,_,h,_⟩ := h
    have := t.dp_pos
    omega
 | n + 1 => by
  refine T.F__law_ranks.ok (k := n + 1) sc__law_ranks (fun vs H Q E h => ?_) (fun cdv A outer s H vs Q E hr h => ?_)
  · obtain ⟨t,p,v,u,rfl,_⟩ := h
    rfl
  obtain ⟨t,p,v,u,rfl,ht,hp,hd,hl,hpl,q⟩ := h
  have nd := sc__law_ranks.nd
  have G__law_ranks := ok_ranks T n
  refine ⟨_,(pss_cons (ps_if (pt_cmpR op_eq (pe_ix ixF (pv 0) pe_int (fun _ _ => rfl)) pe_str (nomark _)) (pss_one (ps_ret (pe_lst (pa_cons (pe_tup (pa_cons (pv 1) (pa_cons pe_int (pa_cons pe_bl (pa_cons pe_int pa_nil))))) pa_nil)))) pss_nil)
  (pss_cons (ps_let (i := 2) nd rfl (Or.inl rfl) (pe_call G__law_ranks hr rfl T.m__law_ranks T.F__law_ranks.kp T.b__law_ranks .nil pass0 (pa_cons (pe_ix ixF (pv 0) pe_int (fun _ _ => rfl)) (pa_cons (pe_op op_catD (pv 1) (pe_tup (pa_cons pe_int pa_nil))) pa_nil))))
  (pss_cons (ps_let (i := 3) nd rfl (Or.inl rfl) (pe_call G__law_ranks hr rfl T.m__law_ranks T.F__law_ranks.kp T.b__law_ranks .nil pass0 (pa_cons (pe_ix ixF (pv 0) pe_int (fun _ _ => rfl)) (pa_cons (pe_op op_catD (pv 1) (pe_tup (pa_cons pe_int pa_nil))) pa_nil))))
  (pss_cons (ps_let (i := 4) nd rfl (Or.inl rfl) (pe_tup (pa_cons (pe_ix ixF (pe_ix ixF (pv 2) pe_int (fun _ _ => rfl)) pe_int (fun _ _ => rfl)) (pa_cons (pe_ix ixF (pe_ix ixF (pv 3) pe_int (fun _ _ => rfl)) pe_int (fun _ _ => rfl)) pa_nil))))
  (pss_one (ps_ret (pe_op op_cat (pe_op op_cat (pe_lst (pa_cons (pe_tup (pa_cons (pv 1) (pa_cons (pe_op op_add (pe_callB (call_maxS rfl) rfl T.z_max bt_max (pa_cons (pv 4) pa_nil)) (pe_callTy call_intB rfl T.z_int bt_int (pa_cons (pe_cmpR op_eq (pe_ix ixF (pv 4) pe_int (fun _ _ => rfl)) (pe_ix ixF (pv 4) pe_int (fun _ _ => rfl)) (nomark _)) pa_nil))) (pa_cons pe_bl (pa_cons (pe_callB (call_minS rfl) rfl T.z_min bt_min (pa_cons (pv 4) pa_nil)) pa_nil))))) pa_nil)) (pv 2)) (pv 3)))))))),?_⟩
  cases t with
  | leaf x =>
   obtain ⟨a,rfl,ea⟩ := dT_leaf ht
   walk_at "rd"
   refine ⟨_,items_t ea,_,atI_0,rfl,?_⟩
   rw [decide_eq_true rfl]
   refine iteT ⟨by decide,NewO.mk fun p1 H1 S1 n1 e1 => ⟨by decide,NewO.mk fun p2 H2 S2 n2 e2 => ?_⟩⟩
   refine q p2 _ H2 (S1.trans S2) (S1.free n2) e2 (.one (Dt.tup (S2 _ _ e1) (.cons (hp.same (S1.trans S2)) (.cons (isD_int.mpr rfl) (.cons (isD_bl.mpr rfl) (.cons (isD_int.mpr rfl) .nil))))))
  | knot f l r =>
   obtain ⟨a,vl,vr,rfl,ea,hl',hr'⟩ := dT_knot ht
   obtain ⟨b,rfl,eb⟩ := dP_of hp
   simp only [M.Tr.dp] at hd
   simp only [M.Tr.lv,List.length_append] at hl
   have b1 := l.wk_len (p ++ [0])
   have b2 := r.wk_len (p ++ [1])
   have vl_ : (vP p).length = p.length := by simp [vP]
   walk_at "rd"
   refine ⟨_,items_t ea,_,atI_0,rfl,?_⟩
   rw [decide_eq_false (by simp only [V.str.injEq]; decide +kernel)]
   refine iteF ⟨_,items_t ea,_,atI_2,by decide,NewO.mk fun p3 H3 S3 n3 e3 => ?_⟩
   try (walk_at "rd")
   refine ⟨_,S3 _ _ eb,_,e3,small_le (by simp; (clear eb hl b1 e3 ea b2 hd n3; lia)),fun p4 H4 S4 e4 => ?_⟩
   have S04 := S3.trans S4
   have d4 : Dt H4 (dP (p ++ [0])) (.ref p4) := dP_mk (by rw [e4]; simp [vP])
   refine ⟨l,p ++ [0],vl,_,rfl,hl'.same S04,d4,by (clear b2 vl_ n3 e3 e4 eb hl b1 ea hpl; lia),by (clear hpl hd ea e3 e4 b1 b2 vl_ n3 eb; lia),by simp; (clear b2 vl_ n3 e3 e4 eb hl b1 ea hd; lia),fun p5 ys H5 S5 n5 e5 D5 => ?_⟩
   have S05 := S04.trans S5
   try (walk_at "rd")
   refine ⟨_,items_t (S05 _ _ ea),_,atI_3,by decide,NewO.mk fun p6 H6 S6 n6 e6 => ?_⟩
   try (walk_at "rd")
   refine ⟨_,S6 _ _ (S05 _ _ eb),_,e6,small_le (by simp; (clear n3 e3 e4 n5 e5 n6 e6 ea eb hl b1 hd b2; lia)),fun p7 H7 S7 e7 => ?_⟩
   have S57 := S6.trans S7
   have d7 : Dt H7 (dP (p ++ [1])) (.ref p7) := dP_mk (by rw [e7]; simp [vP])
   refine ⟨r,p ++ [1],vr,_,rfl,hr'.same (S05.trans S57),d7,by (clear n3 e3 e4 n5 e5 n6 e6 e7 hl b1 b2 vl_ ea eb hpl; lia),by (clear n3 e3 e4 n5 e5 n6 e6 e7 hpl hd ea eb b1 b2 vl_; lia),by simp; (clear n3 e3 e4 n5 e5 n6 e6 e7 hl b1 b2 vl_ ea eb hd; lia),fun p8 zs H8 S8 n8 e8 D8 => ?_⟩
   have S58 := S57.trans S8
   have S08 := S05.trans S58
   have l5 := D5.length
   have l8 := D8.length
   simp at l5 l8
   obtain ⟨rl,hwl⟩ := wk_head l (p ++ [0])
   obtain ⟨rr,hwr⟩ := wk_head r (p ++ [1])
   obtain ⟨y0,hy0,dy0⟩ := Dts.map_of (i := 0) (x := (p ++ [0],l)) (D5.same S58) (by rw [hwl]; rfl)
   obtain ⟨z0,hz0,dz0⟩ := Dts.map_of (i := 0) (x := (p ++ [1],r)) D8 (by rw [hwr]; rfl)
   obtain ⟨ay,wy,rfl,ey,_⟩ := dR_of dy0
   obtain ⟨az,wz,rfl,ez,_⟩ := dR_of dz0
   try (walk_at "rd")
   refine ⟨_,items_l (S58 _ _ e5),_,atI_int (by decide) hy0,?_⟩
   refine ⟨_,rfl,_,items_t ey,_,atI_1,_,items_l e8,_,atI_int (by decide) hz0,_,rfl,_,items_t ez,_,atI_1,by decide,NewO.mk fun p9 H9 S9 n9 e9 => ?_⟩
   refine ⟨p9,rfl,[(l.rk : Int),(r.rk : Int)],by rw [items_t e9]; rfl,by simp,fun m hm hmx => ?_⟩
   try (walk_at "rd")
   have mx : m = max (l.rk : Int) (r.rk : Int) := by
    have h1 := hmx (l.rk : Int) (by simp)
    have h2 := hmx (r.rk : Int) (by simp)
    simp at hm
    (clear hpl hd ea eb hl b1 b2 vl_ n3 e3 e4 n5 e5 n6 e6 e7 n8 e8 l5 l8 hwl hwr hy0 ey hz0 ez n9 e9; lia)
   subst mx
   refine ⟨_,items_t e9,_,atI_0,_,items_t e9,_,atI_1,rfl,[(l.rk : Int),(r.rk : Int)],by rw [items_t e9]; rfl,by simp,fun m2 hm2 hmn => ⟨by decide,NewO.mk fun pA HA SA nA eA => ⟨by decide,NewO.mk fun pB HB SB nB eB => ?_⟩⟩⟩
   have mn : m2 = ((min l.rk r.rk : Nat) : Int) := by
    have h1 := hmn (l.rk : Int) (by simp)
    have h2 := hmn (r.rk : Int) (by simp)
    simp at hm2
    (clear hpl hd ea eb hl b1 b2 vl_ n3 e3 e4 n5 e5 n6 e6 e7 n8 e8 l5 l8 hwl hwr hy0 ey hz0 ez n9 e9 nA eA nB eB; lia)
   subst mn
   have mk : max (l.rk : Int) (r.rk : Int) + (if decide (V.int (l.rk : Int) = V.int (r.rk : Int)) = true then 1 else 0) = (((M.Tr.knot f l r).rk : Nat) : Int) := by
    simp only [M.Tr.rk,V.int.injEq,decide_eq_true_eq]
    split <;> split <;> (clear hpl hd ea eb hl b1 b2 vl_ n3 e3 e4 n5 e5 n6 e6 e7 n8 e8 l5 l8 hwl hwr hy0 ey hz0 ez n9 e9 nA nB eB eA; omega)
   rw [mk] at eA
   have S8B := (S9.trans SA).trans SB
   have dN : Dt HB (dR (p,.knot f l r)) (.ref pA) := Dt.tup (SB _ _ eA) (.cons (hp.same (S08.trans S8B)) (.cons (isD_int.mpr rfl) (.cons (isD_bl.mpr rfl) (.cons (isD_int.mpr rfl) .nil))))
   refine ⟨pB,rfl,_,eB,_,(S58.trans S8B) _ _ e5,small_le (by simp; (clear e3 e4 n5 e5 n6 e6 e7 n8 e8 e9 nA nB eB eA mk l8 hwl hwr hy0 ey hz0 ez n9 hpl hd ea b2 vl_ n3 eb; lia)),NewO.mk fun pC HC SC nC eC => ⟨pC,rfl,_,eC,_,(S8B.trans SC) _ _ e8,small_le (by simp; (clear e3 e4 n5 e5 n6 e6 e7 n8 e8 e9 nA nB eB eA mk nC eC hz0 ez n9 hpl hd ea hwr hy0 ey vl_ n3 hwl eb; lia)),NewO.mk fun pD HD SD nD eD => ?_⟩⟩
   have SBD := SC.trans SD
   refine q pD _ HD ((S08.trans S8B).trans SBD) ((S08.trans (S8B.trans SC)).free nD) eD ?_
   simp only [M.Tr.wk,List.map_cons,List.map_append]
   exact Dts.append (.cons (dN.same SBD) (D5.same (S58.trans (S8B.trans SBD)))) (D8.same (S8B.trans SBD))
noncomputable def mustQ (k : Int) (q : List Nat × L2.Tree) : Bool := isK q.2 && decide (k ≤ (mnR q.2 : Int))
noncomputable def mustP (t : L2.Tree) (k : Int) : List (List Nat) := ((t.wk []).filter (mustQ k)).map (·.1)
noncomputable def mustT (k : Int) (t : L2.Tree) : Bool := isK t && decide (k ≤ (mnR t : Int))
noncomputable def spPuts (n : Nat) : Sp := fun vs H Q _ => ∃ (t : L2.Tree) (k : Int) (v : V),vs = [v,.int k] ∧ Dt H (dT t) v ∧ t.dp ≤ n ∧ Q (.bl (mustT k t)) H
theorem ok_puts (T : Txt K mg) (n : Nat) : FnOk P w K mg base CX0 (n + 3) T.f_puts T.d_puts ["tree","k"] (spPuts n) := by
 refine T.F_puts.ok (k := n + 2) sc_puts (fun vs H Q E h => ?_) (fun cdv A outer s H vs Q E hr h => ?_)
 · obtain ⟨t,k,v,rfl,_⟩ := h
   rfl
 obtain ⟨t,k,v,rfl,ht,hd,q⟩ := h
 have nd := sc_puts.nd
 have G_is_leaf := (ok_leaf (P := P) (w := w) (base := base) T).mono (k := n + 2) (by lia)
 have G_rank := ok_rank (P := P) (w := w) (base := base) T n
 refine ⟨_,(pss_one (ps_ret (pe_and (pe_not (pe_call G_is_leaf hr rfl T.m_is_leaf T.F_is_leaf.kp T.b_is_leaf .nil pass0 (pa_cons (pv 0) pa_nil))) (pe_and (pe_cmpR op_ge (pe_call G_rank hr rfl T.m_rank T.F_rank.kp T.b_rank .nil pass0 (pa_cons (pe_ix ixF (pv 0) pe_int (fun _ _ => rfl)) pa_nil)) (pv 1) (nomark _)) (pe_one (pe_cmpR op_ge (pe_call G_rank hr rfl T.m_rank T.F_rank.kp T.b_rank .nil pass0 (pa_cons (pe_ix ixF (pv 0) pe_int (fun _ _ => rfl)) pa_nil)) (pv 1) (nomark _))))))),?_⟩
 walk_at "rd"
 refine ⟨t,v,rfl,ht,_,rfl,?_⟩
 cases t with
 | leaf x => exact iteF q
 | knot f l r =>
  obtain ⟨a,vl,vr,rfl,ea,hl',hr'⟩ := dT_knot ht
  simp only [M.Tr.dp] at hd
  have e : mustT k (.knot f l r) = (decide (k ≤ (l.rk : Int)) && decide (k ≤ (r.rk : Int))) := by
   show (true && decide (k ≤ ((min l.rk r.rk : Nat) : Int))) = _
   rw [Bool.eq_iff_iff]; simp; (clear hd ea; lia)
  rw [e] at q
  refine iteT ⟨a,rfl,_,items_t ea,_,atI_2,l,vl,rfl,hl',by lia,_,rfl,ite2 (fun c => ?_) (fun c => ?_)⟩
  · rw [c] at q
    exact ⟨a,rfl,_,items_t ea,_,atI_3,r,vr,rfl,hr',by lia,_,rfl,q⟩
  · rw [Bool.not_eq_true] at c
    rw [c] at q
    exact q
noncomputable def atQ (t : L2.Tree) (k : Int) (p : List Nat) : Bool := match t.sub p with | some u => mustT k u | none => false
theorem mustP_pl (t : L2.Tree) (k : Int) : t.pl.filter (atQ t k) = mustP t k := by
 unfold mustP
 rw [M.Tr.pl_wk,List.filter_map]
 congr 1
 apply List.filter_congr
 intro q hq
 show atQ t k q.1 = _
 unfold atQ; rw [M.Tr.sub_mem hq]; rfl
noncomputable def spMust (n : Nat) : Sp := fun vs H Q _ => ∃ (t : L2.Tree) (k : Int) (v : V),vs = [v,.int k] ∧ Dt H (dT t) v ∧ t.dp ≤ n ∧ t.lv.length ≤ 5000 ∧ RetL H ((mustP t k).map dP) Q
theorem ok_must (T : Txt K mg) (n : Nat) : FnOk P w K mg base CX0 (n + 5) T.f_must_put T.d_must_put ["tree","k"] (spMust n) := by
 refine T.F_must_put.ok (k := n + 4) sc_must_put (fun vs H Q E h => ?_) (fun cdv A outer s H vs Q E hr h => ?_)
 · obtain ⟨t,k,v,rfl,_⟩ := h
   rfl
 obtain ⟨t,k,v,rfl,ht,hd,hl,q⟩ := h
 have nd := sc_must_put.nd
 have G_part_at := (ok_part (P := P) (w := w) (base := base) T).mono (k := n + 4) (by lia)
 have G_puts := (ok_puts (P := P) (w := w) (base := base) T n).mono (k := n + 4) (by lia)
 have G_places := (ok_places (P := P) (w := w) (base := base) T n).mono (k := n + 4) (by lia)
 refine ⟨_,(pss_one (ps_ret (pe_comp (N := ["place","k","tree"]) (caps := [1,0]) rfl ⟨rfl,rfl,rfl,rfl,by decide +kernel,rfl,rfl,rfl,rfl⟩ (piL (pe_call G_places hr rfl T.m_places T.F_places.kp T.b_places .nil pass0 (pa_cons (pv 0) pa_nil))) (fun _ _ _ _ => pif_one (pt_val (pe_call G_puts hr rfl T.m_puts T.F_puts.kp T.b_puts .nil pass0 (pa_cons (pe_call G_part_at hr rfl T.m_part_at T.F_part_at.kp T.b_part_at .nil pass0 (pa_cons (pv 2) (pa_cons (pv 0) pa_nil))) (pa_cons (pv 1) pa_nil))))) (fun _ _ _ _ => (pv 0))))),?_⟩
 walk_at "rd"
 refine ⟨t,v,rfl,ht,hd,hl,fun p5 ys H5 S5 n5 e5 D5 => ?_⟩
 have l5 : ys.length = t.pl.length := by have := D5.length; simpa using this
 have l6 := M.pl_len_le t
 refine WalkL.comp e5 (fun i zs H' => H' = H5 ∧ zs.length ≤ i ∧ Dts H' (((t.pl.take i).filter (atQ t k)).map dP) zs) ⟨rfl,Nat.zero_le _,.nil⟩ (by (clear n5 e5 hd; lia)) (fun i zs H' h => h.2.1) (fun i x zs H' ex S' h => ?_) (fun p7 zs H6 H7 S6 S7 h n7 e7 => ?_)
 · obtain ⟨rfl,hz,D6⟩ := h
   have hi : i < t.pl.length := by have := (List.getElem?_eq_some_iff.mp ex).1; (clear hd hl n5 ex e5 l6 hz; lia)
   obtain ⟨v',hv',dv'⟩ := Dts.map_of D5 (List.getElem?_eq_getElem hi)
   rw [ex] at hv'; cases hv'
   obtain ⟨u,hu,hud⟩ := M.pl_sub (List.getElem_mem hi)
   have hg : atQ t k t.pl[i] = mustT k u := by unfold atQ; rw [hu]
   walk_at "rd"
   have hud := M.Tr.wk_plen t _ _ _ hud
   simp at hud
   refine ⟨t,u,_,v,x,rfl,ht.same S5,dv',hu,fun w' hw' => ⟨u,k,w',rfl,hw',by (clear l5 l6 ex e5 hz n5 hu hl hg; lia),_,rfl,ite2 (fun c => ?_) (fun c => ?_)⟩⟩
   · refine ⟨S',rfl,by simp; omega,?_⟩
     rw [List.take_add_one,List.getElem?_eq_getElem hi,List.filter_append]
     simp only [Option.toList_some,List.filter_cons,List.filter_nil,hg,c,if_true,List.map_append,List.map_cons,List.map_nil]
     exact D6.append (.one dv')
   · have c : mustT k u = false := by simpa using c
     refine ⟨S',rfl,by (clear hd hl n5 l5 l6 ex e5 hud c hu hg; lia),?_⟩
     rw [List.take_add_one,List.getElem?_eq_getElem hi,List.filter_append]
     simp only [Option.toList_some,List.filter_cons,List.filter_nil,hg,c,Bool.false_eq_true,if_false,List.append_nil]
     exact D6
 · obtain ⟨rfl,hz,D6⟩ := h
   rw [l5,List.take_length,mustP_pl] at D6
   exact q p7 zs H7 (S5.trans S7) (S5.free n7) e7 (D6.same S7)
noncomputable def nK (t : L2.Tree) : Nat := ((t.wk []).filter fun q => isK q.2).length
theorem nK_lv (t : L2.Tree) : nK t + 1 = t.lv.length := by
 have h1 := t.wk_len []
 have h2 : ((t.wk []).filter fun q => q.2.isL).length = t.lv.length := by rw [← M.Tr.wk_lv t [],List.length_map]
 have h3 : ((t.wk []).filter fun q => q.2.isL).length + nK t = (t.wk []).length := by
  unfold nK isK
  generalize t.wk [] = l
  induction l with
  | nil => rfl
  | cons q l ih =>
   simp only [List.filter_cons,List.length_cons]
   cases q.2.isL <;> simp <;> (clear h1 h2; lia)
 lia
noncomputable def dFour (a b c d : Int) : D := .tup [.int a,.int b,.int c,.int d]
noncomputable def few (t : L2.Tree) (k : Int) : Prop := k < 1 ∨ k = 1 ∧ 0 < nK t
noncomputable def spLeast (T : Txt K mg) : Sp := fun vs H Q E => ∃ (t : L2.Tree) (k : Int) (v : V),vs = [v,.int k] ∧ Dt H (dT t) v ∧ t.dp ≤ 24 ∧ t.lv.length ≤ 32 ∧ k.natAbs.log2 < 1900 ∧ (few t k → ∀ H',Same H H' → E (.ref T.C_TooFew) none H') ∧
 (¬ few t k → RetD H (dFour (nK t + 1 : Nat) (nK t) (mustP t k).length (mustP t k).length) Q)
theorem ok_least (T : Txt K mg) : FnOk P w K mg base (CXE P w) 33 T.f_least T.d_least ["tree","k"] (spLeast T) := by
 refine T.F_least.okE (k := 32) sc_least (fun vs H Q E h => ?_) (fun cdv A outer s H vs Q E hr h L => ?_)
 · obtain ⟨t,k,v,rfl,_⟩ := h
   rfl
 obtain ⟨t,k,v,rfl,ht,hd,hl,hk,hf,q⟩ := h
 have nd := sc_least.nd
 have G_is_leaf := (ok_leaf (P := P) (w := w) (base := base) T).mono (k := 32) (by omega)
 have G_places := (ok_places (P := P) (w := w) (base := base) T 24).mono (k := 32) (by omega)
 have G_leaves := (ok_leaves (P := P) (w := w) (base := base) T 24).mono (k := 32) (by omega)
 have G_must_put := (ok_must (P := P) (w := w) (base := base) T 24).mono (k := 32) (by omega)
 refine ⟨_,(pss_cons (ps_if (PW.pt (pw_or (pt_cmpR op_lt (pv 1) pe_int (nomark _)) (pw_or1 (PW.pt (pw_and (pt_cmpR op_eq (pv 1) pe_int (nomark _)) (pw_and1 (pt_not (pt_val (pe_call G_is_leaf hr rfl T.m_is_leaf T.F_is_leaf.kp T.b_is_leaf .nil pass0 (pa_cons (pv 0) pa_nil)))))))))) (pss_one (ps_raise L rfl T.m_TooFew T.x_TooFew rfl (pa_cons (pe_js (.cons pe_str (.cons (pe_fmtI (pv 1)) .nil))) pa_nil))) pss_nil)
  (pss_cons (ps_let (i := 2) nd rfl (Or.inl rfl) (pe_callB lenG rfl T.z_len bt_len (pa_cons (pe_call G_leaves hr rfl T.m_leaves T.F_leaves.kp T.b_leaves .nil pass0 (pa_cons (pv 0) pa_nil)) pa_nil)))
  (pss_cons (ps_let (i := 3) nd rfl (Or.inl rfl) (pe_op op_sub (pe_callB lenG rfl T.z_len bt_len (pa_cons (pe_call G_places hr rfl T.m_places T.F_places.kp T.b_places .nil pass0 (pa_cons (pv 0) pa_nil)) pa_nil)) (pv 2)))
  (pss_cons (ps_let (i := 4) nd rfl (Or.inl rfl) (pe_callB lenG rfl T.z_len bt_len (pa_cons (pe_call G_must_put hr rfl T.m_must_put T.F_must_put.kp T.b_must_put .nil pass0 (pa_cons (pv 0) (pa_cons (pv 1) pa_nil))) pa_nil)))
  (pss_one (ps_ret (pe_tup (pa_cons (pv 2) (pa_cons (pv 3) (pa_cons (pv 4) (pa_cons (pv 4) pa_nil))))))))))),?_⟩
 walk_at "rd"
 have zl : ∀ y : Nat,y ≤ 50000 → y ≤ sizeLine := fun y hy => small_le (by (clear hd hl hk hf q; lia))
 have ln1 : (Str.ofString "so many boxes are too few: ").length = 27 := by decide +kernel
 have hkk : k.natAbs.log2 < 1920 := by (clear hf q ln1 hd hl; lia)
 have tail : ¬ few t k → ∀ R : V → Hp → Prop,(∀ v' H',Q v' H' → R v' H') → spLeaves 24 [v] H (fun x H1 => ∃ p,x = V.ref p ∧ ∃ x,itemsOf (H1 p) = some x ∧ spPlaces 24 [v] H1 (fun x_1 H1 => ∃ p,x_1 = V.ref p ∧ ∃ x_2,itemsOf (H1 p) = some x_2 ∧
  spMust 24 [v,V.int k] H1 (fun x_3 H1 => ∃ p,x_3 = V.ref p ∧ ∃ x_4,itemsOf (H1 p) = some x_4 ∧ 4 ≤ sizeLine ∧ NewO H1 (HO.tup [V.int x.length,V.int (x_2.length - x.length),V.int x_4.length,V.int x_4.length]) R) E0) E0) E0 := by
  intro nf R hR
  refine ⟨t,v,rfl,ht,hd,by lia,fun p1 ys H1 S1 n1 e1 D1 => ⟨p1,rfl,ys,items_l e1,?_⟩⟩
  refine ⟨t,v,rfl,ht.same S1,hd,by lia,fun p2 zs H2 S2 n2 e2 D2 => ⟨p2,rfl,zs,items_l e2,?_⟩⟩
  refine ⟨t,k,v,rfl,ht.same (S1.trans S2),hd,by lia,fun p3 us H3 S3 n3 e3 D3 => ⟨p3,rfl,us,items_l e3,by decide,NewO.mk fun p4 H4 S4 n4 e4 => hR _ _ ?_⟩⟩
  have l1 := D1.length
  have l2 := D2.length
  have l3 := D3.length
  have h1 : ys.length = t.lv.length := by rw [l1,List.length_map,lvp_wk,List.length_map,← M.Tr.wk_lv t [],List.length_map]
  have h2 : zs.length = (t.wk []).length := by rw [l2,List.length_map,M.Tr.pl_wk,List.length_map]
  have h3 := t.wk_len []
  have h4 := nK_lv t
  rw [List.length_map] at l3
  rw [h1,h2,l3] at e4
  refine q nf _ _ ((S1.trans S2).trans (S3.trans S4)) (Dt.tup e4 (.cons (isD_int.mpr ?_) (.cons (isD_int.mpr ?_) (.cons (isD_int.mpr rfl) (.cons (isD_int.mpr rfl) .nil)))))
  · rw [h4]
  · congr 1; (clear hd hl hk hf q ln1 hkk nf n1 e1 n2 e2 n3 e3 n4 e4 l1 l2 l3 h1 h2; lia)
 refine ite2 (fun c => ?_) (fun c => ite2 (fun d => ?_) (fun d => ?_))
 · have c := of_decide_eq_true c
   refine ⟨zl _ ?_,hkk,fun z hz => ⟨zl _ ?_,zl _ ?_,by decide,hf (.inl c) H (Same.refl _)⟩⟩
   all_goals (simp only [slen,len_nil,ln1]; (clear hd hl hk hf q ln1 hkk tail c; lia))
 · have c : ¬ k < 1 := fun z => c (decide_eq_true z)
   have d := of_decide_eq_true d
   refine ⟨t,v,rfl,ht,_,rfl,ite2 (fun b => ?_) (fun b => ?_)⟩
   · have b : 0 < nK t := by
      have b : isK t = true := b
      obtain ⟨r,hr⟩ := wk_head t []
      unfold nK
      rw [hr,List.filter_cons,if_pos b]
      simp
     refine ⟨zl _ ?_,hkk,fun z hz => ⟨zl _ ?_,zl _ ?_,by decide,hf (.inr ⟨d,b⟩) H (Same.refl _)⟩⟩
     all_goals (simp only [slen,len_nil,ln1]; (clear hd hl hk hf q ln1 hkk tail c d b; lia))
   · have b : t.isL = true := by simpa using b
     refine tail ?_ _ (fun _ _ h => h)
     rintro (z | ⟨_,z⟩)
     · exact c z
     · cases t with
       | leaf x => exact absurd z (by simp [nK,M.Tr.wk,isK,M.Tr.isL])
       | knot f l r => cases b
 · have c : ¬ k < 1 := fun z => c (decide_eq_true z)
   have d : ¬ k = 1 := fun z => d (decide_eq_true z)
   exact tail (fun z => z.elim c fun z => d z.1) _ (fun _ _ h => h)
theorem wF {x y : Str} {a b : Prop} (h : (x == y) = false) (q : b) : if decide (V.str x = V.str y) = true then a else b := by rw [w_no h]; exact iteF q
theorem wT {x : Str} {a b : Prop} (q : a) : if decide (V.str x = V.str x) = true then a else b := by rw [w_yes]; exact iteT q
theorem getD_map {α β : Type} (g : α → β) (l : List α) (i : Nat) (z : α) : (l.map g).getD i (g z) = g (l.getD i z) := by
 rw [List.getD_eq_getElem?_getD,List.getD_eq_getElem?_getD,List.getElem?_map]
 cases l[i]? <;> rfl
noncomputable def shwD (d : L2.Deed) : Prop := (dDeed d).shw ∧ (dDeed d).wd ≤ 50000
theorem nls_set {x : D} (hx : x.nl = true) : ∀ (B : List D) (n : Nat),D.nls B = true → D.nls (B.set n x) = true
 | [],_,h => h
 | b :: B,0,h => by
  simp only [D.nls,Bool.and_eq_true,List.set_cons_zero] at h ⊢
  exact ⟨hx,h.2⟩
 | b :: B,n + 1,h => by
  simp only [D.nls,Bool.and_eq_true,List.set_cons_succ] at h ⊢
  exact ⟨h.1,nls_set hx B n h.2⟩
noncomputable def spBoxN : Sp := fun vs H Q _ => ∃ (d : L2.Deed) (v : V),vs = [v] ∧ Dt H (dDeed d) v ∧ ∀ p H',Same H H' → H' p = some (.lst (d.bn.map V.int)) → Q (.ref p) H'
theorem ok_boxn (T : Txt K mg) : FnOk P w K mg base CX0 1 T.f_box_numbers T.d_box_numbers ["deed"] spBoxN := by
 refine T.F_box_numbers.ok (k := 0) sc_box_numbers (fun vs H Q E h => ?_) (fun cdv A outer s H vs Q E hr h => ?_)
 · obtain ⟨d,v,rfl,_⟩ := h
   rfl
 obtain ⟨d,v,rfl,hd,q⟩ := h
 obtain ⟨a,rfl,ea⟩ := deed_of hd
 have nd := sc_box_numbers.nd
 refine ⟨_,(pss_cons (ps_if (pt_cmpR op_eq (pe_ix ixF (pv 0) pe_int (fun _ _ => rfl)) pe_str (nomark _)) (pss_one (ps_ret (pe_lst (pa_cons (pe_ix ixF (pv 0) pe_int (fun _ _ => rfl)) (pa_cons (pe_ix ixF (pv 0) pe_int (fun _ _ => rfl)) (pa_cons (pe_ix ixF (pv 0) pe_int (fun _ _ => rfl)) pa_nil)))))) pss_nil)
  (pss_cons (ps_if (pt_cmpR op_eq (pe_ix ixF (pv 0) pe_int (fun _ _ => rfl)) pe_str (nomark _)) (pss_one (ps_ret (pe_lst (pa_cons (pe_ix ixF (pv 0) pe_int (fun _ _ => rfl)) pa_nil)))) pss_nil)
  (pss_one (ps_ret (pe_lst (pa_cons (pe_ix ixF (pv 0) pe_int (fun _ _ => rfl)) pa_nil)))))),?_⟩
 walk_at "rd"
 cases d
 all_goals simp only [vDeed] at ea
 all_goals refine ⟨_,items_t ea,_,atI_0,rfl,?_⟩
 · exact wF w_tj ⟨_,items_t ea,_,atI_0,rfl,wF w_tp ⟨_,items_t ea,_,atI_2,by decide,NewO.mk fun p H' S n e => q p H' S e⟩⟩
 · exact wT ⟨_,items_t ea,_,atI_2,_,items_t ea,_,atI_3,_,items_t ea,_,atI_4,by decide,NewO.mk fun p H' S n e => q p H' S e⟩
 · exact wF w_pj ⟨_,items_t ea,_,atI_0,rfl,wT ⟨_,items_t ea,_,atI_1,by decide,NewO.mk fun p H' S n e => q p H' S e⟩⟩
 · exact wF w_fj ⟨_,items_t ea,_,atI_0,rfl,wF w_fp ⟨_,items_t ea,_,atI_2,by decide,NewO.mk fun p H' S n e => q p H' S e⟩⟩
noncomputable def spShelfN : Sp := fun vs H Q _ => ∃ (d : L2.Deed) (v : V),vs = [v] ∧ Dt H (dDeed d) v ∧ ∀ p H',Same H H' → H' p = some (.lst (d.sn.map V.int)) → Q (.ref p) H'
theorem ok_shelfn (T : Txt K mg) : FnOk P w K mg base CX0 1 T.f_shelf_numbers T.d_shelf_numbers ["deed"] spShelfN := by
 refine T.F_shelf_numbers.ok (k := 0) sc_shelf_numbers (fun vs H Q E h => ?_) (fun cdv A outer s H vs Q E hr h => ?_)
 · obtain ⟨d,v,rfl,_⟩ := h
   rfl
 obtain ⟨d,v,rfl,hd,q⟩ := h
 obtain ⟨a,rfl,ea⟩ := deed_of hd
 have nd := sc_shelf_numbers.nd
 refine ⟨_,(pss_cons (ps_if (pt_cmpR op_eq (pe_ix ixF (pv 0) pe_int (fun _ _ => rfl)) pe_str (nomark _)) (pss_one (ps_ret (pe_lst (pa_cons (pe_ix ixF (pv 0) pe_int (fun _ _ => rfl)) pa_nil)))) pss_nil)
  (pss_cons (ps_if (pt_cmpR op_eq (pe_ix ixF (pv 0) pe_int (fun _ _ => rfl)) pe_str (nomark _)) (pss_one (ps_ret (pe_lst (pa_cons (pe_ix ixF (pv 0) pe_int (fun _ _ => rfl)) pa_nil)))) pss_nil)
  (pss_one (ps_ret (pe_lst pa_nil))))),?_⟩
 walk_at "rd"
 cases d
 all_goals simp only [vDeed] at ea
 all_goals refine ⟨_,items_t ea,_,atI_0,rfl,?_⟩
 · exact wF w_tp ⟨_,items_t ea,_,atI_0,rfl,wF w_tf ⟨by decide,NewO.mk fun p H' S n e => q p H' S e⟩⟩
 · exact wF w_jp ⟨_,items_t ea,_,atI_0,rfl,wF w_jf ⟨by decide,NewO.mk fun p H' S n e => q p H' S e⟩⟩
 · exact wT ⟨_,items_t ea,_,atI_2,by decide,NewO.mk fun p H' S n e => q p H' S e⟩
 · exact wF w_fp ⟨_,items_t ea,_,atI_0,rfl,wT ⟨_,items_t ea,_,atI_1,by decide,NewO.mk fun p H' S n e => q p H' S e⟩⟩
noncomputable def spChkN (T : Txt K mg) : Sp := fun vs H Q E => ∃ (d : L2.Deed) (v : V) (p : Addr) (is : List Int) (n : Int),vs = [v,.ref p,.int n] ∧ Dt H (dDeed d) v ∧ H p = some (.lst (is.map V.int)) ∧ n.natAbs.log2 < 1900 ∧
 ((∀ i ∈ is,M.inN n i) → Q .non H) ∧ (¬ (∀ i ∈ is,M.inN n i) → shwD d ∧ (∀ i ∈ is,i.natAbs.log2 < 1900) ∧ E (.ref T.C_NoDeed) none H)
theorem ok_chkn (T : Txt K mg) : FnOk P w K mg base (CXE P w) 1 T.f_check_numbers T.d_check_numbers ["deed","asked","there"] (spChkN T) := by
 refine T.F_check_numbers.okE (k := 0) sc_check_numbers (fun vs H Q E h => ?_) (fun cdv A outer s H vs Q E hr h L => ?_)
 · obtain ⟨d,v,p,is,n,rfl,_⟩ := h
   rfl
 obtain ⟨d,v,p,is,n,rfl,hd,ep,hn,q,qe⟩ := h
 obtain ⟨a,rfl,ea⟩ := deed_of hd
 have nd := sc_check_numbers.nd
 refine ⟨_,(pss_one (ps_for PassesOwn.leaving rfl (piL (pv 1)) (pg_name (i := 3) nd rfl (Or.inl rfl)) (pss_one (ps_if (pt_not (pt_chain op_le op_lt pe_int (pv 3) (pv 2))) (pss_one (ps_raise L rfl T.m_NoDeed T.x_NoDeed rfl (pa_cons (pe_js (.cons pe_str (.cons (pe_fmtI (pv 2)) (.cons pe_str (.cons (pe_fmtI (pv 3)) (.cons pe_str (.cons (pe_fmtRD hr (pv 0)) .nil))))))) pa_nil))) pss_nil)))),?_⟩
 walk_at "rd"
 obtain ⟨Pv,hPv⟩ : ∃ Pv : Nat → St → Hp → Prop,∀ i σ H',Pv i σ H' ↔ H' = H ∧ (∀ j ∈ is.take i,M.inN n j) ∧ ∃ o3 : Option V,σ = [some (.ref a),some (.ref p),some (.int n),o3] := ⟨_,fun _ _ _ => Iff.rfl⟩
 refine WalkL.for ep Pv ((hPv _ _ _).mpr ⟨rfl,by simp,none,rfl⟩) (fun i σ H' _ h => ((hPv _ _ _).mp h).1 ▸ ep) ?_ ?_
 · intro i y σ H' ey h
   obtain ⟨rfl,hj,o3,rfl⟩ := (hPv _ _ _).mp h
   have hi : i < is.length := by have := (List.getElem?_eq_some_iff.mp ey).1; simpa using this
   have e2 : is[i]? = some is[i] := List.getElem?_eq_getElem hi
   rw [List.getElem?_map,e2] at ey
   cases ey
   generalize is[i] = z at e2
   have hz := List.mem_of_getElem? e2
   walk_at "rd"
   have good : M.inN n z → ∀ j ∈ is.take (i + 1),M.inN n j := by
    intro g j hj'
    rw [List.take_add_one,e2] at hj'
    rcases List.mem_append.mp hj' with hj' | hj'
    · exact hj j hj'
    · simp at hj'
      exact hj' ▸ g
   refine ite2 (fun c => ite2 (fun e => ?b1) (fun e => (hPv _ _ _).mpr ⟨rfl,good ⟨of_decide_eq_true c,by simpa using e⟩,_,rfl⟩)) (fun c => ?b2)
   case' b1 => have nb : ¬ M.inN n z := fun g => by simp at e; have := g.2; (clear hn ep q qe ea hi e2 good c; lia)
   case' b2 => have nb : ¬ M.inN n z := fun g => c (decide_eq_true g.1)
   all_goals
    obtain ⟨hs,hi',he⟩ := qe fun h => nb (h z hz)
    have hz' := hi' z hz
    have hw := hs.2
    have l1 : (Str.ofString "there are ").length = 10 := by decide +kernel
    have l2 : (Str.ofString ", and none has the number ").length = 26 := by decide +kernel
    have l3 : (Str.ofString ": ").length = 2 := by decide +kernel
    have zl : ∀ y : Nat,y ≤ 90000 → y ≤ sizeLine := fun y hy => small_le (by (clear hn ep q qe ea hi e2 good c nb hz' hw l1 l2 l3; lia))
    refine ⟨zl _ ?_,by lia,fun z1 h1 => ⟨zl _ ?_,zl _ ?_,by (clear hn ep q qe ea hi e2 good l1 l2 l3 h1 c nb hw; lia),fun z2 h2 => ⟨zl _ ?_,zl _ ?_,⟨_,rfl⟩,_,hd,hs.1,by have := dDeed_dp d; (clear hn ep q qe ea hi e2 good c nb hz' hw l1 l2 l3 h1 h2; lia),by (clear hn ep q qe ea hi e2 good c l3 h1 h2 l1 l2 nb hz'; lia),fun z3 h3 => ⟨zl _ ?_,zl _ ?_,by decide,he⟩⟩⟩⟩
    all_goals (simp only [slen,len_nil,l1,l2,l3]; omega)
 · intro σ H' h
   obtain ⟨rfl,hj,o3,rfl⟩ := (hPv _ _ _).mp h
   walk_at "rd"
   rw [List.length_map,List.take_length] at hj
   exact q hj
noncomputable def spChk (T : Txt K mg) : Sp := fun vs H Q E => ∃ (d : L2.Deed) (B S : List D) (v u : V),vs = [v,u] ∧ Dt H (dDeed d) v ∧ Dt H (.tup [.lst B,.lst S]) u ∧ B.length ≤ 1000 ∧ S.length ≤ 1000 ∧
 (d.ok B.length S.length → ∀ H',Same H H' → Q .non H') ∧ (¬ d.ok B.length S.length → shwD d ∧ (∀ i ∈ d.bn ++ d.sn,i.natAbs.log2 < 1900) ∧ ∀ H',Same H H' → E (.ref T.C_NoDeed) none H')
theorem small_log {n : Nat} (h : n ≤ 1000) : (n : Int).natAbs.log2 < 1900 := by
 have : (n : Int).natAbs = n := by lia
 rw [this]
 exact Nat.lt_of_le_of_lt (Nat.log2_le_self n) (by (clear this; omega))
theorem ok_chk (T : Txt K mg) : FnOk P w K mg base (CXE P w) 2 T.f_check_deed T.d_check_deed ["deed","state"] (spChk T) := by
 refine T.F_check_deed.okE (k := 1) sc_check_deed (fun vs H Q E h => ?_) (fun cdv A outer s H vs Q E hr h L => ?_)
 · obtain ⟨d,B,S,v,u,rfl,_⟩ := h
   rfl
 obtain ⟨d,B,S,v,u,rfl,hd,hu,lB,lS,q,qe⟩ := h
 obtain ⟨p,b,s',vs,us,rfl,ep,eb,es,db,ds⟩ := st_of hu
 have nd := sc_check_deed.nd
 have G_box_numbers := ok_boxn (P := P) (w := w) (base := base) T
 have G_shelf_numbers := ok_shelfn (P := P) (w := w) (base := base) T
 have G_check_numbers := ok_chkn (P := P) (w := w) (base := base) T
 refine ⟨_,(pss_cons (ps_expr (pe_call G_check_numbers hr rfl T.m_check_numbers T.F_check_numbers.kp T.b_check_numbers .nil (passE L) (pa_cons (pv 0) (pa_cons (pe_call G_box_numbers hr rfl T.m_box_numbers T.F_box_numbers.kp T.b_box_numbers .nil pass0 (pa_cons (pv 0) pa_nil)) (pa_cons (pe_callB lenG rfl T.z_len bt_len (pa_cons (pe_ix ixF (pv 1) pe_int (fun _ _ => rfl)) pa_nil)) pa_nil)))))
  (pss_one (ps_expr (pe_call G_check_numbers hr rfl T.m_check_numbers T.F_check_numbers.kp T.b_check_numbers .nil (passE L) (pa_cons (pv 0) (pa_cons (pe_call G_shelf_numbers hr rfl T.m_shelf_numbers T.F_shelf_numbers.kp T.b_shelf_numbers .nil pass0 (pa_cons (pv 0) pa_nil)) (pa_cons (pe_callB lenG rfl T.z_len bt_len (pa_cons (pe_ix ixF (pv 1) pe_int (fun _ _ => rfl)) pa_nil)) pa_nil))))))),?_⟩
 walk_at "rd"
 refine ⟨d,v,rfl,hd,fun p1 H1 S1 e1 => ?_⟩
 try (walk_at "rd")
 have lb := db.length
 have ls := ds.length
 refine ⟨_,items_t (S1 _ _ ep),_,atI_0,_,rfl,_,items_l (S1 _ _ eb),?_⟩
 refine ⟨d,v,p1,d.bn,(B.length : Int),by rw [lb],hd.same S1,e1,small_log lB,fun h1 => ?_,fun h1 => ?_⟩
 · refine ⟨d,v,rfl,hd.same S1,fun p2 H2 S2 e2 => ?_⟩
   have S02 := S1.trans S2
   refine ⟨_,items_t (S02 _ _ ep),_,atI_1,_,rfl,_,items_l (S02 _ _ es),?_⟩
   refine ⟨d,v,p2,d.sn,(S.length : Int),by rw [ls],hd.same S02,e2,small_log lS,fun h2 => q ⟨h1,h2⟩ H2 S02,fun h2 => ?_⟩
   obtain ⟨h3,h4,h5⟩ := qe fun h => h2 h.2
   exact ⟨h3,fun i hi => h4 i (List.mem_append.mpr (.inr hi)),h5 _ S02⟩
 · obtain ⟨h3,h4,h5⟩ := qe fun h => h1 h.1
   exact ⟨h3,fun i hi => h4 i (List.mem_append.mpr (.inl hi)),h5 _ S1⟩
noncomputable def spMoved : Sp := fun vs H Q _ => ∃ (d : L2.Deed) (B S : List D) (v u : V),vs = [v,u] ∧ Dt H (dDeed d) v ∧ Dt H (.tup [.lst B,.lst S]) u ∧ d.ok B.length S.length ∧ (match d with | .put _ _ => True | .fetch _ _ => True | _ => False) ∧ ∀ x,Dt H (d.val D.non (fun _ => .non) (fun _ _ _ => .non) (B,S)) x → Q x H
theorem ok_moved (T : Txt K mg) : FnOk P w K mg base CX0 1 T.f_moved_value T.d_moved_value ["deed","state"] spMoved := by
 refine T.F_moved_value.ok (k := 0) sc_moved_value (fun vs H Q E h => ?_) (fun cdv A outer s H vs Q E hr h => ?_)
 · obtain ⟨d,B,S,v,u,rfl,_⟩ := h
   rfl
 obtain ⟨d,B,S,v,u,rfl,hd,hu,ok,hm,q⟩ := h
 obtain ⟨a,rfl,ea⟩ := deed_of hd
 obtain ⟨p,b,s',vs,us,rfl,ep,eb,es,db,ds⟩ := st_of hu
 have nd := sc_moved_value.nd
 refine ⟨_,(pss_cons (ps_if (pt_cmpR op_eq (pe_ix ixF (pv 0) pe_int (fun _ _ => rfl)) pe_str (nomark _)) (pss_one (ps_ret (pe_ix ixF (pe_ix ixF (pv 1) pe_int (fun _ _ => rfl)) (pe_ix ixF (pv 0) pe_int (fun _ _ => rfl)) (fun _ _ => rfl)))) pss_nil)
  (pss_one (ps_ret (pe_ix ixF (pe_ix ixF (pv 1) pe_int (fun _ _ => rfl)) (pe_ix ixF (pv 0) pe_int (fun _ _ => rfl)) (fun _ _ => rfl))))),?_⟩
 walk_at "rd"
 cases d with
 | take => exact hm.elim
 | join => exact hm.elim
 | put i j =>
  obtain ⟨y,hy,dy⟩ := getD_at db (ok.1 i (by simp [M.Deed.bn]))
  refine ⟨_,items_t ea,_,atI_0,rfl,wT ?_⟩
  exact ⟨_,items_t ep,_,atI_0,_,items_t ea,_,atI_1,b,rfl,vs,i,rfl,items_l eb,y,hy,q y dy⟩
 | fetch j i =>
  obtain ⟨y,hy,dy⟩ := getD_at ds (ok.2 j (by simp [M.Deed.sn]))
  exact ⟨_,items_t ea,_,atI_0,rfl,wF w_fp ⟨_,items_t ep,_,atI_1,_,items_t ea,_,atI_1,s',rfl,us,j,rfl,items_l es,y,hy,q y dy⟩⟩
noncomputable def spBehind : Sp := fun vs H Q _ => ∃ (d : L2.Deed) (B S : List D) (x : D) (v u y : V),vs = [v,u,y] ∧ Dt H (dDeed d) v ∧ Dt H (.tup [.lst B,.lst S]) u ∧ d.ok B.length S.length ∧ D.nls B = true ∧ D.nls S = true ∧ x.nl = true ∧ Dt H x y ∧ RetS H (d.set x (B,S)) Q
theorem ok_behind (T : Txt K mg) : FnOk P w K mg base CX0 1 T.f_state_behind T.d_state_behind ["deed","state","value"] spBehind := by
 refine T.F_state_behind.ok (k := 0) sc_state_behind (fun vs H Q E h => ?_) (fun cdv A outer s H vs Q E hr h => ?_)
 · obtain ⟨d,B,S,x,v,u,y,rfl,_⟩ := h
   rfl
 obtain ⟨d,B,S,x,v,u,y,rfl,hd,hu,ok,nB,nS,nx,hy,q⟩ := h
 obtain ⟨a,rfl,ea⟩ := deed_of hd
 obtain ⟨p,b,s',vs,us,rfl,ep,eb,es,db,ds⟩ := st_of hu
 have nd := sc_state_behind.nd
 refine ⟨_,(pss_cons (ps_let (i := 3) nd rfl (Or.inl rfl) (pe_callTy call_listF rfl T.z_list bt_list (pa_cons (pe_ix ixF (pv 1) pe_int (fun _ _ => rfl)) pa_nil)))
  (pss_cons (ps_let (i := 4) nd rfl (Or.inl rfl) (pe_callTy call_listF rfl T.z_list bt_list (pa_cons (pe_ix ixF (pv 1) pe_int (fun _ _ => rfl)) pa_nil)))
  (pss_cons (ps_if (pt_cmpR op_eq (pe_ix ixF (pv 0) pe_int (fun _ _ => rfl)) pe_str (nomark _)) (pss_one (ps_asg (pv 2) (pg_sub (pv 4) (pe_ix ixF (pv 0) (pe_un un_neg pe_int) (fun _ _ => rfl)) set_list))) (pss_one (ps_asg (pv 2) (pg_sub (pv 3) (pe_ix ixF (pv 0) (pe_un un_neg pe_int) (fun _ _ => rfl)) set_list))))
  (pss_one (ps_ret (pe_tup (pa_cons (pv 3) (pa_cons (pv 4) pa_nil)))))))),?_⟩
 walk_at "rd"
 refine ⟨_,items_t ep,_,atI_0,_,rfl,_,items_l eb,NewO.mk fun p1 H1 S1 n1 e1 => ?_⟩
 refine ⟨_,items_t (S1 _ _ ep),_,atI_1,_,rfl,_,items_l (S1 _ _ es),NewO.mk fun p2 H2 S2 n2 e2 => ?_⟩
 have S12 := S1.trans S2
 have ea2 := S12 _ _ ea
 have put : ∀ (l : Addr) (X : List D) (zs : List V) (i : Int),M.inN X.length i → H2 l = some (.lst zs) → Dts H X zs → D.nls X = true → H l = none → ∀ R : Hp → Prop,(∀ H3,Same H H3 → H3 l = some (.lst (zs.set i.toNat y)) → Dts H3 (X.set i.toNat x) (zs.set i.toNat y) → (∀ c,c ≠ l → H3 c = H2 c) → R H3) →
  ∃ p,V.ref l = V.ref p ∧ ∃ xs k,V.int i = V.int k ∧ H2 p = some (.lst xs) ∧ ∃ j,ixN xs.length k = some j ∧ PutO H2 p (.lst (xs.set j y)) R := by
  intro l X zs i hi el dz nX nl R hR
  have ll := dz.length
  refine ⟨l,rfl,zs,i,rfl,el,_,ixN_int hi.1 (by have := hi.2; omega),PutO.mk fun H3 k3 e3 => hR H3 (Same.put_new S12 nl k3) e3 ?_ k3⟩
  exact (Dts.set (hy.same S12) i.toNat (dz.same S12)).of_put el k3 (nls_set nx _ _ nX)
 have h12 : p1 ≠ p2 := ne_of_none e1 n2
 cases d
 all_goals
  simp only [vDeed] at ea2
  refine ⟨_,items_t ea2,_,atI_0,rfl,?_⟩
 · exact wF w_tp ⟨_,items_t ea2,_,rfl,put p1 B vs _ (ok.1 _ (by simp [M.Deed.bn])) (S2 _ _ e1) db nB n1 _ fun H3 S3 e3 D3 k3 => ⟨by decide,NewO.mk fun p4 H4 S4 n4 e4 => q p4 p1 p2 _ _ H4 (S3.trans S4) e4 n1 (S1.free n2) h12 (S4 _ _ e3) (S4 _ _ (by rw [k3 _ h12.symm]; exact e2)) (D3.same S4) (ds.same (S3.trans S4))⟩⟩
 · exact wF w_jp ⟨_,items_t ea2,_,rfl,put p1 B vs _ (ok.1 _ (by simp [M.Deed.bn])) (S2 _ _ e1) db nB n1 _ fun H3 S3 e3 D3 k3 => ⟨by decide,NewO.mk fun p4 H4 S4 n4 e4 => q p4 p1 p2 _ _ H4 (S3.trans S4) e4 n1 (S1.free n2) h12 (S4 _ _ e3) (S4 _ _ (by rw [k3 _ h12.symm]; exact e2)) (D3.same S4) (ds.same (S3.trans S4))⟩⟩
 · exact wT ⟨_,items_t ea2,_,rfl,put p2 S us _ (ok.2 _ (by simp [M.Deed.sn])) e2 ds nS (S1.free n2) _ fun H3 S3 e3 D3 k3 => ⟨by decide,NewO.mk fun p4 H4 S4 n4 e4 => q p4 p1 p2 _ _ H4 (S3.trans S4) e4 n1 (S1.free n2) h12 (S4 _ _ (by rw [k3 _ h12]; exact S2 _ _ e1)) (S4 _ _ e3) (db.same (S3.trans S4)) (D3.same S4)⟩⟩
 · exact wF w_fp ⟨_,items_t ea2,_,rfl,put p1 B vs _ (ok.1 _ (by simp [M.Deed.bn])) (S2 _ _ e1) db nB n1 _ fun H3 S3 e3 D3 k3 => ⟨by decide,NewO.mk fun p4 H4 S4 n4 e4 => q p4 p1 p2 _ _ H4 (S3.trans S4) e4 n1 (S1.free n2) h12 (S4 _ _ e3) (S4 _ _ (by rw [k3 _ h12.symm]; exact e2)) (D3.same S4) (ds.same (S3.trans S4))⟩⟩
noncomputable abbrev MS := List (Option (List Nat)) × List (Option (List Nat))
theorem cut_last (xs : List V) : (cutV xs none (some (-1)) = xs.dropLast) ∧ (HT.sIx xs.length xs.length (some (-1)) = xs.length ↔ xs = []) := by
 have e : HT.sIx xs.length xs.length (some (-1)) = xs.length - 1 := by
  show (if (-1 : Int) < 0 then ((-1 : Int) + (xs.length : Int)).toNat else min (-1 : Int).toNat xs.length) = _
  rw [if_pos (by decide)]; lia
 refine ⟨?_,?_⟩
 · unfold cutV
   rw [e]
   show (xs.drop 0).take (xs.length - 1 - 0) = _
   rw [List.drop_zero,List.dropLast_eq_take]; rfl
 · rw [e]
   cases xs with
   | nil => simp
   | cons a l => simp
theorem vP_drop (p : List Nat) : (vP p).dropLast = vP p.dropLast := by
 unfold vP; rw [List.map_dropLast]
theorem dO_eq (a b : Option (List Nat)) : D.eq (dO a) (dO b) = decide (a = b) := D.eq_dec (dO_cl a) (dO_cl b) ⟨dO_inj,fun h => by rw [h]⟩
theorem dts_rep {H : Hp} (d : D) (v : V) (h : Dt H d v) : ∀ n,Dts H (List.replicate n d) (List.replicate n v)
 | 0 => .nil
 | n + 1 => .cons h (dts_rep d v h n)
theorem rep_flat {β : Type} (x : β) (n : Nat) : (List.replicate n [x]).flatten = List.replicate n x := by
 induction n with
 | zero => rfl
 | succ n ih => simp only [List.replicate_succ,List.flatten_cons,ih]; rfl
noncomputable def spFresh : Sp := fun vs H Q _ => ∃ (k m : Nat),vs = [.int k,.int m] ∧ k ≤ 1000 ∧ m ≤ 1000 ∧ RetS H (List.replicate k .non,List.replicate m .non) Q
theorem ok_fresh (T : Txt K mg) : FnOk P w K mg base CX0 1 T.f_fresh T.d_fresh ["k","many"] spFresh := by
 refine T.F_fresh.ok (k := 0) sc_fresh (fun vs H Q E h => ?_) (fun cdv A outer s H vs Q E hr h => ?_)
 · obtain ⟨k,m,rfl,_⟩ := h
   rfl
 obtain ⟨k,m,rfl,hk,hm,q⟩ := h
 have nd := sc_fresh.nd
 refine ⟨_,(pss_one (ps_ret (pe_tup (pa_cons (pe_op op_rep (pe_lst (pa_cons pe_non pa_nil)) (pv 0)) (pa_cons (pe_op op_rep (pe_lst (pa_cons pe_non pa_nil)) (pv 1)) pa_nil))))),?_⟩
 walk_at "rd"
 have hn : ∀ n : Nat,n ≤ 1000 → -(2 ^ 63) ≤ (n : Int) ∧ (n : Int) < 2 ^ 63 ∧ [V.non].length * (n : Int).toNat ≤ sizeLine := fun n h => ⟨by (clear hk hm h; lia),by omega,small_le (by simp; lia)⟩
 refine ⟨by decide,NewO.mk fun p1 H1 S1 n1 e1 => ⟨p1,rfl,_,e1,(hn k hk).1,(hn k hk).2.1,(hn k hk).2.2,NewO.mk fun p2 H2 S2 n2 e2 => ⟨by decide,NewO.mk fun p3 H3 S3 n3 e3 => ⟨p3,rfl,_,e3,(hn m hm).1,(hn m hm).2.1,(hn m hm).2.2,NewO.mk fun p4 H4 S4 n4 e4 => ⟨by decide,NewO.mk fun p5 H5 S5 n5 e5 => ?_⟩⟩⟩⟩⟩
 rw [rep_flat,Int.toNat_natCast] at e2 e4
 have S24 := S3.trans S4
 have S25 := S24.trans S5
 have n4' : H2 p4 = none := S3.free n4
 refine q p5 p2 p4 _ _ H5 ((S1.trans S2).trans S25) e5 (S1.free n2) ((S1.trans S2).free n4') (ne_of_none e2 n4') (S25 _ _ e2) (S5 _ _ e4) (dts_rep _ _ (isD_non.mpr rfl) k) (dts_rep _ _ (isD_non.mpr rfl) m)
noncomputable def spOver : Sp := fun vs H Q _ => ∃ (t : L2.Tree) (f : Str) (a b : Option (List Nat)) (v va vb : V),vs = [v,.str f,va,vb] ∧ Dt H (dT t) v ∧ t.dp ≤ 1000 ∧ M.Vld t a ∧ Dt H (dO a) va ∧ Dt H (dO b) vb ∧ RetD H (dO (M.over t f a b)) Q
theorem ok_over (T : Txt K mg) : FnOk P w K mg base CX0 2 T.f_knot_over T.d_knot_over ["tree","f","left","right"] spOver := by
 refine T.F_knot_over.ok (k := 1) sc_knot_over (fun vs H Q E h => ?_) (fun cdv A outer s H vs Q E hr h => ?_)
 · obtain ⟨t,f,a,b,v,va,vb,rfl,_⟩ := h
   rfl
 obtain ⟨t,f,a,b,v,va,vb,rfl,ht,hdp,hv,ha,hb,q⟩ := h
 have nd := sc_knot_over.nd
 have G_part_at := ok_part (P := P) (w := w) (base := base) T
 refine ⟨_,(pss_cons (ps_if (PW.pt (pw_or (pt_cmp (pc_isN (pv 2))) (pw_or1 (pt_cmp (pc_isN (pv 3)))))) (pss_one (ps_ret pe_non)) pss_nil)
  (pss_cons (ps_let (i := 4) nd rfl (Or.inl rfl) (pe_slice sl_tupU (pv 2) po_none (po_some (pe_un un_neg pe_int))))
  (pss_cons (ps_if (PW.pt (pw_or (pt_cmpR (op_neD hr) (pv 2) (pe_op op_catD (pv 4) (pe_tup (pa_cons pe_int pa_nil))) (nomark _)) (pw_or1 (pt_cmpR (op_neD hr) (pv 3) (pe_op op_catD (pv 4) (pe_tup (pa_cons pe_int pa_nil))) (nomark _))))) (pss_one (ps_ret pe_non)) pss_nil)
  (pss_one (ps_ret (pe_ifExp (pt_cmpR op_eq (pe_ix ixF (pe_call G_part_at hr rfl T.m_part_at T.F_part_at.kp T.b_part_at .nil pass0 (pa_cons (pv 0) (pa_cons (pv 4) pa_nil))) pe_int (fun _ _ => rfl)) (pv 1) (nomark _)) (pv 4) pe_non)))))),?_⟩
 walk_at "rd"
 cases a with
 | none =>
  cases isD_non.mp ha
  exact iteT (q _ _ (Same.refl _) (isD_non.mpr rfl))
 | some p =>
 obtain ⟨x1,rfl,ex1⟩ := dP_of ha
 cases b with
 | none =>
  cases isD_non.mp hb
  exact iteF (iteT (q _ _ (Same.refl _) (isD_non.mpr rfl)))
 | some r =>
 obtain ⟨x2,rfl,ex2⟩ := dP_of hb
 have hpl := M.pl_dp (hv p rfl)
 have lvP : ∀ l : List Nat,(vP l).length = l.length := fun l => by simp [vP]
 obtain ⟨ct1,ct2⟩ := cut_last (vP p)
 refine iteF (iteF ⟨x1,rfl,_,ex1,fun h => ?_,fun h => ?_⟩)
 · have hp0 : p = [] := by have := ct2.mp h.2; simpa [vP] using this
   subst hp0
   refine ⟨by decide,NewO.mk fun p1 H1 S1 n1 e1 => ⟨_,rfl,_,S1 _ _ ex1,_,e1,small_le (by simp [vP]),fun p2 H2 S2 e2 => ⟨dO (some []),ha.same (S1.trans S2),dO (some [0]),dP_mk (by rw [e2]; simp [vP]),by have := dO_dp (some []); (clear hdp ex2 ex1 hpl ct1 ct2 h n1 e1 e2; lia),?_⟩⟩⟩
   rw [dO_eq,decide_eq_false (by decide)]
   exact iteT (q _ _ (S1.trans S2) (isD_non.mpr rfl))
 · refine NewO.mk fun p0 H0 S0 n0 e0 => ⟨by decide,NewO.mk fun p1 H1 S1 n1 e1 => ⟨p0,rfl,_,rfl,_,S1 _ _ e0,_,e1,small_le ?_,fun p2 H2 S2 e2 => ⟨dO (some p),ha.same ((S0.trans S1).trans S2),dO (some (p.dropLast ++ [0])),dP_mk ?_,by have := dO_dp (some p); lia,?_⟩⟩⟩
   · rw [ct1]; simp [vP]; lia
   · rw [e2,ct1,vP_drop]; simp [vP]
   rw [ct1,vP_drop] at e0
   have S02 := (S0.trans S1).trans S2
   have S12 := S1.trans S2
   rw [dO_eq]
   by_cases c1 : some p = some (p.dropLast ++ [0])
   · rw [decide_eq_true c1]
     have c1 := Option.some.inj c1
     refine iteF ⟨by decide,NewO.mk fun p3 H3 S3 n3 e3 => ⟨p0,rfl,_,rfl,_,S3 _ _ (S12 _ _ e0),_,e3,small_le (by simp [vP]; lia),fun p4 H4 S4 e4 => ⟨dO (some r),hb.same ((S02.trans S3).trans S4),dO (some (p.dropLast ++ [1])),dP_mk (by rw [e4]; simp [vP]),by have := dO_dp (some r); (clear hdp ex1 ex2 hpl ct1 ct2 h n0 e0 n1 e1 e2 c1 n3 e3 e4; lia),?_⟩⟩⟩
     have S04 := (S02.trans S3).trans S4
     rw [dO_eq]
     by_cases c2 : some r = some (p.dropLast ++ [1])
     · rw [decide_eq_true c2]
       have c2 := Option.some.inj c2
       obtain ⟨s0,hs0,_⟩ := M.pl_sub (hv p rfl)
       rw [c1,M.Tr.sub_app] at hs0
       obtain ⟨u,hu,hu2⟩ := Option.bind_eq_some_iff.mp hs0
       cases u with
       | leaf x => simp [M.Tr.sub] at hu2
       | knot g l r' =>
       have ep0 : H4 p0 = some (.tup (vP p.dropLast)) := S4 _ _ (S3 _ _ (S12 _ _ e0))
       refine iteF ⟨t,_,p.dropLast,v,.ref p0,rfl,ht.same S04,dP_mk ep0,hu,fun v' hv' => ?_⟩
       obtain ⟨a',vl,vr,rfl,ea',hl',hr'⟩ := dT_knot hv'
       refine ⟨a',rfl,_,items_t ea',_,atI_1,?_⟩
       rw [show M.over t f (some p) (some r) = if g = f then some p.dropLast else none from ?_] at q
       · refine ⟨rfl,ite2 (fun c3 => ?_) (fun c3 => ?_)⟩
         · rw [if_pos (V.str.inj (of_decide_eq_true c3))] at q
           exact q _ _ S04 (dP_mk ep0)
         · rw [if_neg fun z => c3 (by rw [z]; exact decide_eq_true rfl)] at q
           exact q _ _ S04 (isD_non.mpr rfl)
       · show (if p = p.dropLast ++ [0] ∧ r = p.dropLast ++ [1] ∧ M.knotAt t f p.dropLast = true then some p.dropLast else none) = _
         have hk : M.knotAt t f p.dropLast = decide (g = f) := by unfold M.knotAt; rw [hu]
         rw [hk]
         by_cases c3 : g = f
         · rw [if_pos ⟨c1,c2,decide_eq_true c3⟩,if_pos c3]
         · rw [if_neg fun z => c3 (of_decide_eq_true z.2.2),if_neg c3]
     · rw [decide_eq_false c2]
       rw [show M.over t f (some p) (some r) = none from if_neg fun z => c2 (congrArg some z.2.1)] at q
       exact iteT (q _ _ S04 (isD_non.mpr rfl))
   · rw [decide_eq_false c1]
     rw [show M.over t f (some p) (some r) = none from if_neg fun z => c1 (congrArg some z.1)] at q
     exact iteT (q _ _ S02 (isD_non.mpr rfl))
noncomputable def mval (t : L2.Tree) (d : L2.Deed) (st : MS) : Option (List Nat) := d.val none (fun x => M.firstOf x (t.wk [])) (M.over t) st
noncomputable def spMBr : Sp := fun vs H Q _ => ∃ (t : L2.Tree) (d : L2.Deed) (st : MS) (v vd u : V),vs = [v,vd,u] ∧ Dt H (dT t) v ∧ t.dp ≤ 24 ∧ t.lv.length ≤ 32 ∧ Dt H (dDeed d) vd ∧ Dt H (.tup [.lst (st.1.map dO),.lst (st.2.map dO)]) u ∧ d.ok st.1.length st.2.length ∧ M.Deed.All2 (M.Vld t) st ∧ RetD H (dO (mval t d st)) Q
theorem ok_mbr (T : Txt K mg) : FnOk P w K mg base CX0 29 T.f_mark_brought T.d_mark_brought ["tree","deed","state"] spMBr := by
 refine T.F_mark_brought.ok (k := 28) sc_mark_brought (fun vs H Q E h => ?_) (fun cdv A outer s H vs Q E hr h => ?_)
 · obtain ⟨t,d,st,v,vd,u,rfl,_⟩ := h
   rfl
 obtain ⟨t,d,st,v,vd,u,rfl,ht,hdp,hlv,hd,hu,ok,vld,q⟩ := h
 obtain ⟨a,rfl,ea⟩ := deed_of hd
 obtain ⟨p,b,s',ws,us,rfl,ep,eb,es,db,ds⟩ := st_of hu
 have nd := sc_mark_brought.nd
 have G_place_of := (ok_placeof (P := P) (w := w) (base := base) T 24).mono (k := 28) (by omega)
 have G_knot_over := (ok_over (P := P) (w := w) (base := base) T).mono (k := 28) (by omega)
 have G_moved_value := (ok_moved (P := P) (w := w) (base := base) T).mono (k := 28) (by omega)
 refine ⟨_,(pss_cons (ps_if (pt_cmpR op_eq (pe_ix ixF (pv 1) pe_int (fun _ _ => rfl)) pe_str (nomark _)) (pss_one (ps_ret (pe_call G_place_of hr rfl T.m_place_of T.F_place_of.kp T.b_place_of .nil pass0 (pa_cons (pv 0) (pa_cons (pe_ix ixF (pv 1) pe_int (fun _ _ => rfl)) pa_nil))))) pss_nil)
  (pss_cons (ps_if (pt_cmpR op_eq (pe_ix ixF (pv 1) pe_int (fun _ _ => rfl)) pe_str (nomark _)) (pss_one (ps_ret (pe_call G_knot_over hr rfl T.m_knot_over T.F_knot_over.kp T.b_knot_over .nil pass0 (pa_cons (pv 0) (pa_cons (pe_ix ixF (pv 1) pe_int (fun _ _ => rfl)) (pa_cons (pe_ix ixF (pe_ix ixF (pv 2) pe_int (fun _ _ => rfl)) (pe_ix ixF (pv 1) pe_int (fun _ _ => rfl)) (fun _ _ => rfl)) (pa_cons (pe_ix ixF (pe_ix ixF (pv 2) pe_int (fun _ _ => rfl)) (pe_ix ixF (pv 1) pe_int (fun _ _ => rfl)) (fun _ _ => rfl)) pa_nil))))))) pss_nil)
  (pss_one (ps_ret (pe_call G_moved_value hr rfl T.m_moved_value T.F_moved_value.kp T.b_moved_value .nil pass0 (pa_cons (pv 1) (pa_cons (pv 2) pa_nil))))))),?_⟩
 walk_at "rd"
 cases d with
 | take x i =>
  simp only [vDeed] at ea
  refine ⟨_,items_t ea,_,atI_0,rfl,wT ⟨_,items_t ea,_,atI_1,?_⟩⟩
  exact ⟨t,x,v,rfl,ht,hdp,by lia,fun v' H' S' d' => q v' H' S' d'⟩
 | join f i j h =>
  simp only [vDeed] at ea
  obtain ⟨y1,hy1,dy1⟩ := getD_at db (by rw [List.length_map]; exact ok.1 i (by simp [M.Deed.bn]))
  obtain ⟨y2,hy2,dy2⟩ := getD_at db (by rw [List.length_map]; exact ok.1 j (by simp [M.Deed.bn]))
  rw [show D.non = dO none from rfl,getD_map] at dy1 dy2
  refine ⟨_,items_t ea,_,atI_0,rfl,wF w_jt ⟨_,items_t ea,_,atI_0,rfl,wT ?_⟩⟩
  exact ⟨_,items_t ea,_,atI_1,_,items_t ep,_,atI_0,_,items_t ea,_,atI_2,b,rfl,_,i,rfl,items_l eb,y1,hy1,_,items_t ep,_,atI_0,_,items_t ea,_,atI_3,b,rfl,_,j,rfl,items_l eb,y2,hy2,t,f,_,_,v,y1,y2,rfl,ht,by lia,M.Deed.getD_all (C := M.Vld t) (show M.Vld t none from fun _ z => nomatch z) vld.1 _,dy1,dy2,q⟩
 | put i j =>
  simp only [vDeed] at ea
  refine ⟨_,items_t ea,_,atI_0,rfl,wF w_pt ⟨_,items_t ea,_,atI_0,rfl,wF w_pj ?_⟩⟩
  refine ⟨.put i j,_,_,_,_,rfl,hd,hu,by simpa using ok,trivial,fun x hx => q x H (Same.refl _) ?_⟩
  change Dt H ((st.1.map dO).getD i.toNat D.non) x at hx
  rw [show D.non = dO none from rfl,getD_map] at hx
  exact hx
 | fetch j i =>
  simp only [vDeed] at ea
  refine ⟨_,items_t ea,_,atI_0,rfl,wF w_ft ⟨_,items_t ea,_,atI_0,rfl,wF w_fj ?_⟩⟩
  refine ⟨.fetch j i,_,_,_,_,rfl,hd,hu,by simpa using ok,trivial,fun x hx => q x H (Same.refl _) ?_⟩
  change Dt H ((st.2.map dO).getD j.toNat D.non) x at hx
  rw [show D.non = dO none from rfl,getD_map] at hx
  exact hx
noncomputable def dS (st : MS) : D := .tup [.lst (st.1.map dO),.lst (st.2.map dO)]
noncomputable def spMarked (T : Txt K mg) : Sp := fun vs H Q E => ∃ (t : L2.Tree) (d : L2.Deed) (st : MS) (v vd u : V),vs = [v,vd,u] ∧ Dt H (dT t) v ∧ t.dp ≤ 24 ∧ t.lv.length ≤ 32 ∧ Dt H (dDeed d) vd ∧ Dt H (dS st) u ∧ st.1.length ≤ 1000 ∧ st.2.length ≤ 1000 ∧ M.Deed.All2 (M.Vld t) st ∧
 (d.ok st.1.length st.2.length → RetS H ((M.mark t st d).1.map dO,(M.mark t st d).2.map dO) Q) ∧ (¬ d.ok st.1.length st.2.length → shwD d ∧ (∀ i ∈ d.bn ++ d.sn,i.natAbs.log2 < 1900) ∧ ∀ H',Same H H' → E (.ref T.C_NoDeed) none H')
theorem nls_map {α : Type} (g : α → D) (hg : ∀ x,(g x).nl = true) : ∀ l : List α,D.nls (l.map g) = true
 | [] => rfl
 | x :: l => by simp only [List.map_cons,D.nls,hg x,nls_map g hg l,Bool.and_self]
theorem ok_marked (T : Txt K mg) : FnOk P w K mg base (CXE P w) 30 T.f_marked T.d_marked ["tree","deed","state"] (spMarked T) := by
 refine T.F_marked.okE (k := 29) sc_marked (fun vs H Q E h => ?_) (fun cdv A outer s H vs Q E hr h L => ?_)
 · obtain ⟨t,d,st,v,vd,u,rfl,_⟩ := h
   rfl
 obtain ⟨t,d,st,v,vd,u,rfl,ht,hdp,hlv,hd,hu,l1,l2,vld,q,qe⟩ := h
 have nd := sc_marked.nd
 have G_check_deed := (ok_chk (P := P) (w := w) (base := base) T).mono (k := 29) (by omega)
 have G_mark_brought := (ok_mbr (P := P) (w := w) (base := base) T).mono (k := 29) (by omega)
 have G_state_behind := (ok_behind (P := P) (w := w) (base := base) T).mono (k := 29) (by omega)
 refine ⟨_,(pss_cons (ps_expr (pe_call G_check_deed hr rfl T.m_check_deed T.F_check_deed.kp T.b_check_deed .nil (passE L) (pa_cons (pv 1) (pa_cons (pv 2) pa_nil))))
  (pss_one (ps_ret (pe_call G_state_behind hr rfl T.m_state_behind T.F_state_behind.kp T.b_state_behind .nil pass0 (pa_cons (pv 1) (pa_cons (pv 2) (pa_cons (pe_call G_mark_brought hr rfl T.m_mark_brought T.F_mark_brought.kp T.b_mark_brought .nil pass0 (pa_cons (pv 0) (pa_cons (pv 1) (pa_cons (pv 2) pa_nil)))) pa_nil))))))),?_⟩
 walk_at "rd"
 refine ⟨d,_,_,vd,u,rfl,hd,hu,by simpa using l1,by simpa using l2,fun ok H1 S1 => ?_,fun ok => ?_⟩
 · simp only [List.length_map] at ok
   refine ⟨t,d,st,v,vd,u,rfl,ht.same S1,hdp,hlv,hd.same S1,hu.same S1,ok,vld,fun x H2 S2 dx => ?_⟩
   have S12 := S1.trans S2
   refine ⟨d,_,_,_,vd,u,x,rfl,hd.same S12,hu.same S12,by simpa using ok,nls_map _ dO_nl _,nls_map _ dO_nl _,dO_nl _,dx,?_⟩
   have e := M.Deed.set_map d dO (mval t d st) st
   rw [e]
   intro p b s vs us H' S e n1 n2 ne e1 e2 d1 d2
   exact q ok p b s vs us H' (S12.trans S) e (S12.free n1) (S12.free n2) ne e1 e2 d1 d2
 · simp only [List.length_map] at ok
   exact qe ok
noncomputable def moms (t : L2.Tree) (st : MS) : List L2.Deed → List MS
 | [] => [st]
 | d :: r => st :: moms t (M.mark t st d) r
noncomputable def new2 (k m : Nat) : MS := (List.replicate k none,List.replicate m none)
noncomputable def okRow (k m : Nat) (row : List L2.Deed) : Prop := ∀ d ∈ row,d.ok k m
noncomputable def RetM (H : Hp) (sts : List MS) (Q : VK) : Prop := ∀ p vs l b s ws us G H' (st : MS) (pre : List MS),sts = pre ++ [st] → Same H G → Same G H' → G p = none → H' p = some (.lst (vs ++ [.ref l])) → Dts G (pre.map dS) vs → H' l = some (.tup [.ref b,.ref s]) →
 G b = none → G s = none → b ≠ s → b ≠ p → s ≠ p → H' b = some (.lst ws) → H' s = some (.lst us) → Dts H' (st.1.map dO) ws → Dts H' (st.2.map dO) us → Q (.ref p) H'
theorem moms_ne (t : L2.Tree) (st : MS) (r : List L2.Deed) : moms t st r ≠ [] := by cases r <;> simp [moms]
theorem moms_snoc (t : L2.Tree) (d : L2.Deed) : ∀ (r : List L2.Deed) (st0 : MS) (pre : List MS) (st : MS),moms t st0 r = pre ++ [st] → moms t st0 (r ++ [d]) = (pre ++ [st]) ++ [M.mark t st d]
 | [],st0,pre,st,h => by
  cases pre with
  | nil => simp only [moms,List.nil_append,List.cons.injEq,and_true] at h; simp [moms,h]
  | cons a pre => simp [moms] at h
 | e :: r,st0,pre,st,h => by
  cases pre with
  | nil => simp only [moms,List.nil_append,List.cons.injEq] at h; exact absurd h.2 (moms_ne _ _ _)
  | cons a pre =>
   simp only [moms,List.cons_append,List.cons.injEq] at h
   have := moms_snoc t d r _ pre st h.2
   rw [List.cons_append,moms,this,h.1]; rfl
theorem dS_nl1 (st : MS) : D.nls (st.1.map dO) = true ∧ D.nls (st.2.map dO) = true := ⟨nls_map _ dO_nl _,nls_map _ dO_nl _⟩
theorem atI_last {β : Type} (xs : List β) (x : β) : atI (xs ++ [x]) (-1) = some x := by
 unfold atI ixN
 rw [if_neg (by decide),if_pos (by simp; lia)]
 have : ((-1 : Int) + ((xs ++ [x]).length : Nat)).toNat = xs.length := by simp; lia
 show (xs ++ [x])[((-1 : Int) + ((xs ++ [x]).length : Nat)).toNat]? = some x
 rw [this]; simp
noncomputable def spMom (T : Txt K mg) : Sp := fun vs H Q E => ∃ (t : L2.Tree) (k m : Nat) (row : List L2.Deed) (v : V) (pr : Addr) (rs : List V),vs = [v,.int k,.int m,.ref pr] ∧ Dt H (dT t) v ∧ t.dp ≤ 24 ∧ t.lv.length ≤ 32 ∧ k ≤ 1000 ∧ m ≤ 1000 ∧ row.length ≤ 5000 ∧ H pr = some (.lst rs) ∧ Dts H (row.map dDeed) rs ∧
 (okRow k m row → RetM H (moms t (new2 k m) row) Q) ∧ (¬ okRow k m row → (∀ d ∈ row,shwD d ∧ (∀ i ∈ d.bn ++ d.sn,i.natAbs.log2 < 1900)) ∧ ∀ H',Same H H' → E (.ref T.C_NoDeed) none H')
theorem ok_mom (T : Txt K mg) : FnOk P w K mg base (CXE P w) 31 T.f_moments T.d_moments ["tree","k","many","row"] (spMom T) := by
 refine T.F_moments.okE (k := 30) sc_moments (fun vs H Q E h => ?_) (fun cdv A outer s H vs Q E hr h L => ?_)
 · obtain ⟨t,k,m,row,v,pr,rs,rfl,_⟩ := h
   rfl
 obtain ⟨t,k,m,row,v,pr,rs,rfl,ht,hdp,hlv,hk,hm,hrl,er,dr,q,qe⟩ := h
 have nd := sc_moments.nd
 have G_fresh := (ok_fresh (P := P) (w := w) (base := base) T).mono (k := 30) (by omega)
 have G_marked := (ok_marked (P := P) (w := w) (base := base) T).mono (k := 30) (by omega)
 refine ⟨_,(pss_cons (ps_let (i := 4) nd rfl (Or.inl rfl) (pe_lst (pa_cons (pe_call G_fresh hr rfl T.m_fresh T.F_fresh.kp T.b_fresh .nil pass0 (pa_cons (pv 1) (pa_cons (pv 2) pa_nil))) pa_nil)))
  (pss_cons (ps_for PassesOwn.leaving rfl (piL (pv 3)) (pg_name (i := 5) nd rfl (Or.inl rfl)) (pss_one (ps_expr (pe_bm PySem.F.plainAttrs_list PySem.F.slot_list_append PySem.F.type_list_append mt_append (pv 4) (pa_cons (pe_call G_marked hr rfl T.m_marked T.F_marked.kp T.b_marked .nil (passE L) (pa_cons (pv 0) (pa_cons (pv 5) (pa_cons (pe_ix ixF (pv 4) (pe_un un_neg pe_int) (fun _ _ => rfl)) pa_nil)))) pa_nil)))))
  (pss_one (ps_ret (pv 4))))),?_⟩
 walk_at "rd"
 refine ⟨k,m,rfl,hk,hm,fun l0 b0 s0 ws0 us0 H1 S1 el0 nb0 ns0 h0 eb0 es0 db0 ds0 => ⟨by decide,NewO.mk fun p H2 S2 n2 e2 => ?_⟩⟩
 have np : H p = none := S1.free n2
 have S12 := S1.trans S2
 obtain ⟨Pv,hPv⟩ : ∃ Pv : Nat → St → Hp → Prop,∀ i σ H',Pv i σ H' ↔ (∀ d ∈ row.take i,d.ok k m) ∧ (∃ vs l b s ws us G st pre,moms t (new2 k m) (row.take i) = pre ++ [st] ∧ st.1.length = k ∧ st.2.length = m ∧ M.Deed.All2 (M.Vld t) st ∧ Same H G ∧ Same G H' ∧ G p = none ∧ H' p = some (.lst (vs ++ [.ref l])) ∧ Dts G (pre.map dS) vs ∧ H' l = some (.tup [.ref b,.ref s]) ∧
  G b = none ∧ G s = none ∧ b ≠ s ∧ b ≠ p ∧ s ≠ p ∧ H' b = some (.lst ws) ∧ H' s = some (.lst us) ∧ Dts H' (st.1.map dO) ws ∧ Dts H' (st.2.map dO) us) ∧ ∃ o5 : Option V,σ = [some v,some (.int k),some (.int m),some (.ref pr),some (.ref p),o5] := ⟨_,fun _ _ _ => Iff.rfl⟩
 have cut : ∀ {H' G : Hp},Same H G → Same G H' → Same H H' := fun a b => a.trans b
 refine WalkL.for (S12 _ _ er) Pv ((hPv _ _ _).mpr ⟨by simp,⟨[],l0,b0,s0,ws0,us0,H,new2 k m,[],rfl,by simp [new2],by simp [new2],M.Deed.all_new (show M.Vld t none from fun _ z => nomatch z) k m,Same.refl _,S12,np,e2,.nil,S2 _ _ el0,nb0,ns0,h0,?_,?_,S2 _ _ eb0,S2 _ _ es0,?_,?_⟩,none,rfl⟩) (fun i σ H' _ h => ?_) ?_ ?_
 · exact ne_of_none eb0 n2
 · exact ne_of_none es0 n2
 · simp only [new2,List.map_replicate]; exact db0.same S2
 · simp only [new2,List.map_replicate]; exact ds0.same S2
 · obtain ⟨_,⟨vs,l,b,s,ws,us,G,st,pre,_,_,_,_,h1,h2,_⟩,_⟩ := (hPv _ _ _).mp h
   exact h2 _ _ (h1 _ _ er)
 · intro i y σ H' ey h
   obtain ⟨hok,⟨vs,l,b,s1,ws,us,G,st,pre,hmo,hl1,hl2,vld,SG,SGH,gp,ep,dpre,el,gb,gs,hbs,hbp,hsp,eb,es,db,ds⟩,o5,rfl⟩ := (hPv _ _ _).mp h
   have lr := dr.length
   rw [List.length_map] at lr
   have hi : i < row.length := by have := (List.getElem?_eq_some_iff.mp ey).1; (clear hdp hlv hk hm hrl er q qe el0 nb0 ns0 h0 eb0 es0 n2 e2 np ey hmo hl1 hl2 gp ep el gb gs hbs hbp hsp eb es; lia)
   obtain ⟨y',hy',dy⟩ := Dts.map_of dr (List.getElem?_eq_getElem hi)
   rw [ey] at hy'; cases hy'
   have e0 : row[i]? = some row[i] := List.getElem?_eq_getElem hi
   generalize row[i] = d at dy e0
   have S0 := SG.trans SGH
   have dst : Dt H' (dS st) (.ref l) := st_mk el eb es db ds
   walk_at "rd"
   refine ⟨ty_lst ep,_,items_l ep,_,atI_last vs _,?_⟩
   refine ⟨t,d,st,v,y,_,rfl,ht.same S0,hdp,hlv,dy.same S0,dst,by (clear nb0 ns0 h0 eb0 es0 n2 e2 np ey hbp hsp eb es lr hi e0 er q qe el0 hmo gb gs hbs hl2 gp ep el hdp hlv hm hrl; lia),by (clear nb0 ns0 h0 eb0 es0 n2 e2 np ey hbp hsp eb es lr hi e0 er q qe el0 hmo gb gs hbs hdp hlv hk el gp ep hrl hl1; lia),vld,fun ok => ?_,fun ok => ?_⟩
   · rw [hl1,hl2] at ok
     intro l' b' s' ws' us' H1 S1' el' nb' ns' hbs' eb' es' db' ds'
     have lvs : vs.length ≤ 5000 := by
      have h1 := dpre.length
      have h2 : (moms t (new2 k m) (row.take i)).length = i + 1 := by
       have : ∀ (r : List L2.Deed) (st : MS),(moms t st r).length = r.length + 1 := by
        intro r; induction r with
        | nil => intro st; rfl
        | cons e r ih => intro st; simp [moms,ih]
       rw [this,List.length_take]; (clear hdp hlv hk hm hrl er q qe el0 nb0 ns0 h0 eb0 es0 n2 e2 np ey hmo hl1 hl2 gp ep el gb gs hbs hbp hsp eb es lr eb' es' h1 nb' ns' hbs' el' e0; lia)
      rw [hmo,List.length_append] at h2
      rw [List.length_map] at h1
      simp at h2; (clear h0 eb0 es0 n2 e2 np ey hmo hl1 hl2 gp q qe el0 nb0 ns0 ep el gb gs hbs hbp hsp hdp hlv hk eb es lr nb' ns' hbs' e0 el' eb' es' hm er; lia)
     refine ⟨_,S1' _ _ ep,small_size (by simp; (clear hdp hlv hk hm hrl er q qe el0 nb0 ns0 h0 eb0 es0 n2 e2 np ey hmo hl1 hl2 gp ep el gb gs hbs hbp hsp eb es lr hi e0 el' nb' ns' hbs' eb' es'; lia)),PutO.mk fun H3 k3 e3 => (hPv _ _ _).mpr ⟨?_,⟨vs ++ [.ref l],l',b',s',ws',us',fun a => if a = p then none else H' a,M.mark t st d,pre ++ [st],?_,?_,?_,M.mark_vld vld d,?_,?_,by simp,e3,?_,?_,?_,?_,hbs',?_,?_,?_,?_,?_,?_⟩,_,rfl⟩⟩
     · intro e he
       rw [List.take_add_one,e0] at he
       rcases List.mem_append.mp he with he | he
       · exact hok e he
       · simp at he
         rw [he]; exact ok
     · rw [List.take_add_one,e0]
       exact moms_snoc t d _ _ _ _ hmo
     · exact (M.Deed.go_len st d).1.trans hl1
     · exact (M.Deed.go_len st d).2.trans hl2
     · intro a o e
       show (if a = p then none else H' a) = some o
       rw [if_neg (ne_of_none e np)]; exact S0 _ _ e
     · intro a o e
       change (if a = p then none else H' a) = some o at e
       by_cases c : a = p
       · rw [if_pos c] at e; cases e
       · rw [if_neg c] at e
         rw [k3 a c]; exact S1' _ _ e
     · have GG : Same G (fun a => if a = p then none else H' a) := fun a o e => by
        show (if a = p then none else H' a) = some o
        rw [if_neg (ne_of_none e gp)]; exact SGH _ _ e
       have TT : Tups H' (fun a => if a = p then none else H' a) := fun a xs e => by
        show (if a = p then none else H' a) = _
        rw [if_neg (ne_of e ep (by intro z; cases z))]; exact e
       rw [List.map_append]
       refine (dpre.same GG).append (.one (st_mk (b := b) (s := s1) (TT _ _ el) ?_ ?_ (db.tups TT (dS_nl1 st).1) (ds.tups TT (dS_nl1 st).2)))
       · show (if b = p then none else H' b) = _
         rw [if_neg hbp]; exact eb
       · show (if s1 = p then none else H' s1) = _
         rw [if_neg hsp]; exact es
     · rw [k3 l' (ne_of el' (S1' _ _ ep) (by intro z; cases z))]; exact el'
     · show (if b' = p then none else H' b') = none
       rw [nb']; simp
     · show (if s' = p then none else H' s') = none
       rw [ns']; simp
     · exact (ne_of_none ep nb').symm
     · exact (ne_of_none ep ns').symm
     · rw [k3 _ (ne_of_none ep nb').symm]; exact eb'
     · rw [k3 _ (ne_of_none ep ns').symm]; exact es'
     · exact db'.of_put (S1' _ _ ep) k3 (dS_nl1 _).1
     · exact ds'.of_put (S1' _ _ ep) k3 (dS_nl1 _).2
   · rw [hl1,hl2] at ok
     obtain ⟨h1,h2⟩ := qe fun h => ok (h d (List.mem_of_getElem? e0))
     exact ⟨(h1 d (List.mem_of_getElem? e0)).1,(h1 d (List.mem_of_getElem? e0)).2,fun H1 S1 => h2 H1 (S0.trans S1)⟩
 · intro σ H' h
   obtain ⟨hok,⟨vs,l,b,s1,ws,us,G,st,pre,hmo,hl1,hl2,vld,SG,SGH,gp,ep,dpre,el,gb,gs,hbs,hbp,hsp,eb,es,db,ds⟩,o5,rfl⟩ := (hPv _ _ _).mp h
   have lr := dr.length
   rw [List.length_map] at lr
   rw [lr,List.take_length] at hok hmo
   walk_at "rd"
   exact q hok p vs l b s1 ws us G H' st pre hmo SG SGH gp ep dpre el gb gs hbs hbp hsp eb es db ds
noncomputable def rowInto (k : Int) : L2.Tree → Nat → Nat → List L2.Deed
 | .leaf x,box,_ => [.take x box]
 | .knot f l r,box,sh =>
  if mustT k (.knot f l r) = true then rowInto k r 0 sh ++ [.put 0 sh] ++ rowInto k l 0 (sh + 1) ++ [.fetch sh 1,.join f 0 1 0]
  else if r.rk ≤ l.rk then rowInto k l box sh ++ rowInto k r (box + 1) sh ++ [.join f box (box + 1 : Nat) box]
  else rowInto k r box sh ++ rowInto k l (box + 1) sh ++ [.join f (box + 1 : Nat) box box]
theorem rowInto_len (k : Int) : ∀ (t : L2.Tree) (b s : Nat),(rowInto k t b s).length + 3 ≤ 4 * t.lv.length
 | .leaf x,b,s => by simp [rowInto,M.Tr.lv]
 | .knot f l r,b,s => by
  have h1 := rowInto_len k r 0 s
  have h2 := rowInto_len k l 0 (s + 1)
  have h3 := rowInto_len k l b s
  have h4 := rowInto_len k r (b + 1) s
  have h5 := rowInto_len k r b s
  have h6 := rowInto_len k l (b + 1) s
  simp only [rowInto,M.Tr.lv,List.length_append]
  split
  · simp only [List.length_append,List.length_cons,List.length_nil]; lia
  · split <;> (simp only [List.length_append,List.length_cons,List.length_nil]; (clear h1 h2; lia))
noncomputable def spInto (n : Nat) : Sp := fun vs H Q _ => ∃ (t : L2.Tree) (k : Int) (b s : Nat) (v : V),vs = [v,.int k,.int b,.int s] ∧ Dt H (dT t) v ∧ t.dp ≤ n ∧ t.lv.length ≤ 5000 ∧ RetL H ((rowInto k t b s).map dDeed) Q
noncomputable def spShelf (n : Nat) : Sp := fun vs H Q _ => ∃ (f : Str) (l r : L2.Tree) (k : Int) (s : Nat) (v : V),vs = [v,.int k,.int s] ∧ Dt H (dT (.knot f l r)) v ∧ l.dp ≤ n ∧ r.dp ≤ n ∧ l.lv.length + r.lv.length ≤ 5000 ∧ RetL H ((rowInto k r 0 s ++ [(M.Deed.put 0 s : L2.Deed)] ++ rowInto k l 0 (s + 1) ++ [(M.Deed.fetch s 1 : L2.Deed),M.Deed.join f 0 1 0]).map dDeed) Q
theorem ok_bshelf (T : Txt K mg) {n c : Nat} (G_row_into : FnOk P w K mg base CX0 c T.f_row_into T.d_row_into ["tree","k","box","shelf"] (spInto n)) : FnOk P w K mg base CX0 (c + 1) T.f_row_by_shelf T.d_row_by_shelf ["tree","k","shelf"] (spShelf n) := by
 refine T.F_row_by_shelf.ok (k := c) sc_row_by_shelf (fun vs H Q E h => ?_) (fun cdv A outer s H vs Q E hr h => ?_)
 · obtain ⟨f,l,r,k,s,v,rfl,_⟩ := h
   rfl
 obtain ⟨f,l,r,k,sh,v,rfl,ht,hl,hr',hlv,q⟩ := h
 obtain ⟨a,vl,vr,rfl,ea,dl,dr⟩ := dT_knot ht
 have nd := sc_row_by_shelf.nd
 refine ⟨_,(pss_cons (ps_let (i := 3) nd rfl (Or.inl rfl) (pe_call G_row_into hr rfl T.m_row_into T.F_row_into.kp T.b_row_into .nil pass0 (pa_cons (pe_ix ixF (pv 0) pe_int (fun _ _ => rfl)) (pa_cons (pv 1) (pa_cons pe_int (pa_cons (pv 2) pa_nil))))))
  (pss_cons (ps_let (i := 4) nd rfl (Or.inl rfl) (pe_call G_row_into hr rfl T.m_row_into T.F_row_into.kp T.b_row_into .nil pass0 (pa_cons (pe_ix ixF (pv 0) pe_int (fun _ _ => rfl)) (pa_cons (pv 1) (pa_cons pe_int (pa_cons (pe_op op_add (pv 2) pe_int) pa_nil))))))
  (pss_one (ps_ret (pe_op op_cat (pe_op op_cat (pe_op op_cat (pv 3) (pe_lst (pa_cons (pe_tup (pa_cons pe_str (pa_cons pe_int (pa_cons (pv 2) pa_nil)))) pa_nil))) (pv 4)) (pe_lst (pa_cons (pe_tup (pa_cons pe_str (pa_cons (pv 2) (pa_cons pe_int pa_nil)))) (pa_cons (pe_tup (pa_cons pe_str (pa_cons (pe_ix ixF (pv 0) pe_int (fun _ _ => rfl)) (pa_cons pe_int (pa_cons pe_int (pa_cons pe_int pa_nil)))))) pa_nil)))))))),?_⟩
 walk_at "rd"
 have b1 := rowInto_len k r 0 sh
 have b2 := rowInto_len k l 0 (sh + 1)
 refine ⟨_,items_t ea,_,atI_3,r,k,0,sh,vr,rfl,dr,hr',by (clear ea b1 b2 hl hr'; lia),fun p1 xs H1 S1 n1 e1 D1 => ?_⟩
 refine ⟨_,items_t (S1 _ _ ea),_,atI_2,l,k,0,sh + 1,vl,by simp,dl.same S1,hl,by (clear b1 b2 n1 e1 hl hr' ea; lia),fun p2 ys H2 S2 n2 e2 D2 => ?_⟩
 have l1 := D1.length
 have l2 := D2.length
 rw [List.length_map] at l1 l2
 refine ⟨by decide,NewO.mk fun p3 H3 S3 n3 e3 => ⟨by decide,NewO.mk fun p4 H4 S4 n4 e4 => ⟨p1,rfl,_,rfl,_,S4 _ _ (S3 _ _ (S2 _ _ e1)),_,e4,small_le (by simp; lia),NewO.mk fun p5 H5 S5 n5 e5 => ?_⟩⟩⟩
 have S25 := (S3.trans S4).trans S5
 refine ⟨p5,rfl,_,rfl,_,e5,_,S25 _ _ e2,small_le (by simp; (clear e4 n5 e5 n1 e1 n2 n3 e3 n4 hl hr' ea e2; lia)),NewO.mk fun p6 H6 S6 n6 e6 => ?_⟩
 have S26 := S25.trans S6
 have S06 := (S1.trans S2).trans S26
 refine ⟨by decide,NewO.mk fun p7 H7 S7 n7 e7 => ⟨_,items_t (S7 _ _ (S06 _ _ ea)),_,atI_1,by decide,NewO.mk fun p8 H8 S8 n8 e8 => ⟨by decide,NewO.mk fun p9 H9 S9 n9 e9 => ⟨p6,rfl,_,rfl,_,S9 _ _ (S8 _ _ (S7 _ _ e6)),_,e9,small_le (by simp; (clear e3 n4 e4 n5 e5 n6 e6 n7 e7 n8 e8 n9 e9 n3 hl hr' n1 e1 n2 e2 ea; lia)),NewO.mk fun pA HA SA nA eA => ?_⟩⟩⟩⟩
 have S6A := ((S7.trans S8).trans S9).trans SA
 have S2A := S26.trans S6A
 have S0A := (S1.trans S2).trans S2A
 refine q pA _ HA S0A (S06.free (((S7.trans S8).trans S9).free nA)) eA ?_
 have d3 : Dt HA (dDeed (M.Deed.put 0 sh)) (.ref p3) := deed_mk (S6A _ _ (S6 _ _ (S5 _ _ (S4 _ _ e3))))
 have d7 : Dt HA (dDeed (M.Deed.fetch sh 1)) (.ref p7) := deed_mk (SA _ _ (S9 _ _ (S8 _ _ e7)))
 have d8 : Dt HA (dDeed (M.Deed.join f 0 1 0)) (.ref p8) := deed_mk (SA _ _ (S9 _ _ e8))
 simp only [List.map_append,List.map_cons,List.map_nil]
 exact Dts.append (Dts.append (Dts.append (D1.same (S2.trans S2A)) (.one d3)) (D2.same S2A)) (.cons d7 (.one d8))
noncomputable def spBoxes (n : Nat) : Sp := fun vs H Q _ => ∃ (f : Str) (l r : L2.Tree) (k : Int) (b s : Nat) (v : V),vs = [v,.int k,.int b,.int s] ∧ Dt H (dT (.knot f l r)) v ∧ l.dp ≤ n ∧ r.dp ≤ n ∧ l.lv.length + r.lv.length ≤ 5000 ∧
 RetL H ((if r.rk ≤ l.rk then rowInto k l b s ++ rowInto k r (b + 1) s ++ [(M.Deed.join f b (b + 1 : Nat) b : L2.Deed)] else rowInto k r b s ++ rowInto k l (b + 1) s ++ [(M.Deed.join f (b + 1 : Nat) b b : L2.Deed)]).map dDeed) Q
theorem ok_bboxes (T : Txt K mg) {n c : Nat} (hc : n + 2 ≤ c) (G_row_into : FnOk P w K mg base CX0 c T.f_row_into T.d_row_into ["tree","k","box","shelf"] (spInto n)) : FnOk P w K mg base CX0 (c + 1) T.f_row_by_boxes T.d_row_by_boxes ["tree","k","box","shelf"] (spBoxes n) := by
 refine T.F_row_by_boxes.ok (k := c) sc_row_by_boxes (fun vs H Q E h => ?_) (fun cdv A outer s H vs Q E hr h => ?_)
 · obtain ⟨f,l,r,k,b,s,v,rfl,_⟩ := h
   rfl
 obtain ⟨f,l,r,k,b,sh,v,rfl,ht,hl,hr',hlv,q⟩ := h
 obtain ⟨a,vl,vr,rfl,ea,dl,dr⟩ := dT_knot ht
 have nd := sc_row_by_boxes.nd
 have G_rank := (ok_rank (P := P) (w := w) (base := base) T n).mono (k := c) (by omega)
 refine ⟨_,(pss_cons (ps_if (pt_cmpR op_ge (pe_call G_rank hr rfl T.m_rank T.F_rank.kp T.b_rank .nil pass0 (pa_cons (pe_ix ixF (pv 0) pe_int (fun _ _ => rfl)) pa_nil)) (pe_call G_rank hr rfl T.m_rank T.F_rank.kp T.b_rank .nil pass0 (pa_cons (pe_ix ixF (pv 0) pe_int (fun _ _ => rfl)) pa_nil)) (nomark _)) (pss_cons (ps_let (i := 4) nd rfl (Or.inl rfl) (pe_op op_cat (pe_call G_row_into hr rfl T.m_row_into T.F_row_into.kp T.b_row_into .nil pass0 (pa_cons (pe_ix ixF (pv 0) pe_int (fun _ _ => rfl)) (pa_cons (pv 1) (pa_cons (pv 2) (pa_cons (pv 3) pa_nil))))) (pe_call G_row_into hr rfl T.m_row_into T.F_row_into.kp T.b_row_into .nil pass0 (pa_cons (pe_ix ixF (pv 0) pe_int (fun _ _ => rfl)) (pa_cons (pv 1) (pa_cons (pe_op op_add (pv 2) pe_int) (pa_cons (pv 3) pa_nil)))))))
  (pss_one (ps_ret (pe_op op_cat (pv 4) (pe_lst (pa_cons (pe_tup (pa_cons pe_str (pa_cons (pe_ix ixF (pv 0) pe_int (fun _ _ => rfl)) (pa_cons (pv 2) (pa_cons (pe_op op_add (pv 2) pe_int) (pa_cons (pv 2) pa_nil)))))) pa_nil)))))) pss_nil)
  (pss_cons (ps_let (i := 4) nd rfl (Or.inl rfl) (pe_op op_cat (pe_call G_row_into hr rfl T.m_row_into T.F_row_into.kp T.b_row_into .nil pass0 (pa_cons (pe_ix ixF (pv 0) pe_int (fun _ _ => rfl)) (pa_cons (pv 1) (pa_cons (pv 2) (pa_cons (pv 3) pa_nil))))) (pe_call G_row_into hr rfl T.m_row_into T.F_row_into.kp T.b_row_into .nil pass0 (pa_cons (pe_ix ixF (pv 0) pe_int (fun _ _ => rfl)) (pa_cons (pv 1) (pa_cons (pe_op op_add (pv 2) pe_int) (pa_cons (pv 3) pa_nil)))))))
  (pss_one (ps_ret (pe_op op_cat (pv 4) (pe_lst (pa_cons (pe_tup (pa_cons pe_str (pa_cons (pe_ix ixF (pv 0) pe_int (fun _ _ => rfl)) (pa_cons (pe_op op_add (pv 2) pe_int) (pa_cons (pv 2) (pa_cons (pv 2) pa_nil)))))) pa_nil))))))),?_⟩
 walk_at "rd"
 have b1 := rowInto_len k l b sh
 have b2 := rowInto_len k r (b + 1) sh
 have b3 := rowInto_len k r b sh
 have b4 := rowInto_len k l (b + 1) sh
 refine ⟨_,items_t ea,_,atI_2,l,vl,rfl,dl,hl,_,items_t ea,_,atI_3,r,vr,rfl,dr,hr',?_⟩
 refine ⟨_,rfl,_,rfl,ite2 (fun c => ?_) (fun c => ?_)⟩
 · have c : r.rk ≤ l.rk := by have := of_decide_eq_true c; (clear hc hl hr' hlv ea b1 b2 b3 b4 c; lia)
   rw [if_pos c] at q
   refine ⟨_,items_t ea,_,atI_2,l,k,b,sh,vl,rfl,dl,hl,by (clear b1 b2 b3 b4 c hc hl hr' ea; lia),fun p1 xs H1 S1 n1 e1 D1 => ?_⟩
   refine ⟨_,items_t (S1 _ _ ea),_,atI_3,r,k,b + 1,sh,vr,rfl,dr.same S1,hr',by (clear hc hl hr' c n1 e1 b1 b2 b3 b4 ea; lia),fun p2 ys H2 S2 n2 e2 D2 => ?_⟩
   have l1 := D1.length
   have l2 := D2.length
   rw [List.length_map] at l1 l2
   refine ⟨p1,rfl,_,rfl,_,S2 _ _ e1,_,e2,small_le (by (clear b4 c n1 e1 hc hl n2 e2 hr' ea b3; lia)),NewO.mk fun p3 H3 S3 n3 e3 => ?_⟩
   have S03 := (S1.trans S2).trans S3
   refine ⟨_,items_t (S03 _ _ ea),_,atI_1,by decide,NewO.mk fun p4 H4 S4 n4 e4 => ⟨by decide,NewO.mk fun p5 H5 S5 n5 e5 => ⟨p3,rfl,_,rfl,_,S5 _ _ (S4 _ _ e3),_,e5,small_le (by simp; (clear n4 e4 n5 e5 hc hl hr' c n1 e1 b3 b4 n2 e2 n3 e3 ea; lia)),NewO.mk fun p6 H6 S6 n6 e6 => ?_⟩⟩⟩
   have S36 := (S4.trans S5).trans S6
   refine q p6 _ H6 (S03.trans S36) (S03.free ((S4.trans S5).free n6)) e6 ?_
   have d4 : Dt H6 (dDeed (M.Deed.join f b (b + 1 : Nat) b)) (.ref p4) := deed_mk (S6 _ _ (S5 _ _ e4))
   simp only [List.map_append,List.map_cons,List.map_nil]
   exact Dts.append (Dts.append (D1.same ((S2.trans S3).trans S36)) (D2.same (S3.trans S36))) (.one d4)
 · have c : ¬ r.rk ≤ l.rk := fun z => c (decide_eq_true (by (clear hc hl hr' hlv ea b1 b2 b3 b4 c; lia)))
   rw [if_neg c] at q
   refine ⟨_,items_t ea,_,atI_3,r,k,b,sh,vr,rfl,dr,hr',by (clear b1 b2 b3 b4 c hc hl hr' ea; lia),fun p1 xs H1 S1 n1 e1 D1 => ?_⟩
   refine ⟨_,items_t (S1 _ _ ea),_,atI_2,l,k,b + 1,sh,vl,rfl,dl.same S1,hl,by (clear b2 b3 b4 c n1 e1 hc hl hr' b1 ea; lia),fun p2 ys H2 S2 n2 e2 D2 => ?_⟩
   have l1 := D1.length
   have l2 := D2.length
   rw [List.length_map] at l1 l2
   refine ⟨p1,rfl,_,rfl,_,S2 _ _ e1,_,e2,small_le (by (clear hc hl ea b1 n1 e1 n2 e2 hr' b2 c; lia)),NewO.mk fun p3 H3 S3 n3 e3 => ?_⟩
   have S03 := (S1.trans S2).trans S3
   refine ⟨_,items_t (S03 _ _ ea),_,atI_1,by decide,NewO.mk fun p4 H4 S4 n4 e4 => ⟨by decide,NewO.mk fun p5 H5 S5 n5 e5 => ⟨p3,rfl,_,rfl,_,S5 _ _ (S4 _ _ e3),_,e5,small_le (by simp; (clear n4 e4 n5 e5 hc hl hr' c n1 e1 b1 b2 n2 e2 n3 e3 ea; lia)),NewO.mk fun p6 H6 S6 n6 e6 => ?_⟩⟩⟩
   have S36 := (S4.trans S5).trans S6
   refine q p6 _ H6 (S03.trans S36) (S03.free ((S4.trans S5).free n6)) e6 ?_
   have d4 : Dt H6 (dDeed (M.Deed.join f (b + 1 : Nat) b b)) (.ref p4) := deed_mk (S6 _ _ (S5 _ _ e4))
   simp only [List.map_append,List.map_cons,List.map_nil]
   exact Dts.append (Dts.append (D1.same ((S2.trans S3).trans S36)) (D2.same (S3.trans S36))) (.one d4)
theorem ok_into (T : Txt K mg) : ∀ n : Nat,FnOk P w K mg base CX0 (2 * n + 5) T.f_row_into T.d_row_into ["tree","k","box","shelf"] (spInto n)
 | 0 => by
  refine T.F_row_into.ok (k := 4) sc_row_into (fun vs H Q E h => ?_) (fun cdv A outer s H vs Q E hr h => ?_)
  · obtain ⟨t,k,b,s,v,rfl,_⟩ := h
    rfl
  · obtain ⟨t,k,b,s,v,rfl,_,h,_⟩ := h
    have := t.dp_pos
    omega
 | n + 1 => by
  refine T.F_row_into.ok (k := 2 * n + 6) sc_row_into (fun vs H Q E h => ?_) (fun cdv A outer s H vs Q E hr h => ?_)
  · obtain ⟨t,k,b,s,v,rfl,_⟩ := h
    rfl
  obtain ⟨t,k,b,sh,v,rfl,ht,hd,hlv,q⟩ := h
  have nd := sc_row_into.nd
  have G_is_leaf := (ok_leaf (P := P) (w := w) (base := base) T).mono (k := 2 * n + 6) (by lia)
  have G_puts := (ok_puts (P := P) (w := w) (base := base) T (n + 1)).mono (k := 2 * n + 6) (by lia)
  have G_row_by_shelf := ok_bshelf T (ok_into T n)
  have G_row_by_boxes := ok_bboxes T (by lia) (ok_into T n)
  refine ⟨_,(pss_cons (ps_if (pt_val (pe_call G_is_leaf hr rfl T.m_is_leaf T.F_is_leaf.kp T.b_is_leaf .nil pass0 (pa_cons (pv 0) pa_nil))) (pss_one (ps_ret (pe_lst (pa_cons (pe_tup (pa_cons pe_str (pa_cons (pe_ix ixF (pv 0) pe_int (fun _ _ => rfl)) (pa_cons (pv 2) pa_nil)))) pa_nil)))) pss_nil)
  (pss_cons (ps_if (pt_val (pe_call G_puts hr rfl T.m_puts T.F_puts.kp T.b_puts .nil pass0 (pa_cons (pv 0) (pa_cons (pv 1) pa_nil)))) (pss_one (ps_ret (pe_call G_row_by_shelf hr rfl T.m_row_by_shelf T.F_row_by_shelf.kp T.b_row_by_shelf .nil pass0 (pa_cons (pv 0) (pa_cons (pv 1) (pa_cons (pv 3) pa_nil)))))) pss_nil)
  (pss_one (ps_ret (pe_call G_row_by_boxes hr rfl T.m_row_by_boxes T.F_row_by_boxes.kp T.b_row_by_boxes .nil pass0 (pa_cons (pv 0) (pa_cons (pv 1) (pa_cons (pv 2) (pa_cons (pv 3) pa_nil))))))))),?_⟩
  walk_at "rd"
  refine ⟨t,v,rfl,ht,_,rfl,?_⟩
  cases t with
  | leaf x =>
   obtain ⟨a,rfl,ea⟩ := dT_leaf ht
   refine iteT ⟨_,rfl,_,items_t ea,_,atI_1,by decide,NewO.mk fun p1 H1 S1 n1 e1 => ⟨by decide,NewO.mk fun p2 H2 S2 n2 e2 => ?_⟩⟩
   exact q p2 _ H2 (S1.trans S2) (S1.free n2) e2 (.one (deed_mk (d := .take x b) (S2 _ _ e1)))
  | knot f l r =>
   simp only [M.Tr.dp] at hd
   simp only [M.Tr.lv,List.length_append] at hlv
   refine iteF ⟨_,k,v,rfl,ht,by simp only [M.Tr.dp]; omega,_,rfl,ite2 (fun c => ?_) (fun c => ?_)⟩
   · simp only [rowInto,if_pos c] at q
     exact ⟨f,l,r,k,sh,v,rfl,ht,by (clear c hlv; lia),by (clear c hlv; lia),hlv,q⟩
   · simp only [rowInto,if_neg c] at q
     exact ⟨f,l,r,k,b,sh,v,rfl,ht,by lia,by lia,hlv,q⟩
noncomputable def spFor (T : Txt K mg) : Sp := fun vs H Q E => ∃ (t : L2.Tree) (k : Int) (v : V),vs = [v,.int k] ∧ Dt H (dT t) v ∧ t.dp ≤ 24 ∧ t.lv.length ≤ 32 ∧ k.natAbs.log2 < 1900 ∧ (few t k → ∀ H',Same H H' → E (.ref T.C_TooFew) none H') ∧
 (¬ few t k → RetL H ((rowInto k t 0 0).map dDeed) Q)
theorem ok_for (T : Txt K mg) : FnOk P w K mg base (CXE P w) 54 T.f_row_for T.d_row_for ["tree","k"] (spFor T) := by
 refine T.F_row_for.okE (k := 53) sc_row_for (fun vs H Q E h => ?_) (fun cdv A outer s H vs Q E hr h L => ?_)
 · obtain ⟨t,k,v,rfl,_⟩ := h
   rfl
 obtain ⟨t,k,v,rfl,ht,hd,hlv,hk,qe,q⟩ := h
 have nd := sc_row_for.nd
 have G_least := (ok_least (P := P) (w := w) (base := base) T).mono (k := 53) (by omega)
 have G_row_into := ok_into (P := P) (w := w) (base := base) T 24
 refine ⟨_,(pss_cons (ps_expr (pe_call G_least hr rfl T.m_least T.F_least.kp T.b_least .nil (passE L) (pa_cons (pv 0) (pa_cons (pv 1) pa_nil))))
  (pss_one (ps_ret (pe_call G_row_into hr rfl T.m_row_into T.F_row_into.kp T.b_row_into .nil pass0 (pa_cons (pv 0) (pa_cons (pv 1) (pa_cons pe_int (pa_cons pe_int pa_nil)))))))),?_⟩
 walk_at "rd"
 refine ⟨t,k,v,rfl,ht,hd,hlv,hk,qe,fun nf v' H1 S1 d1 => ?_⟩
 refine ⟨t,k,0,0,v,rfl,ht.same S1,hd,by lia,fun p xs H2 S2 n2 e2 D2 => ?_⟩
 exact q nf p xs H2 (S1.trans S2) (S1.free n2) e2 D2
noncomputable def cM (k : Int) : L2.Tree → Nat
 | .leaf _ => 0
 | .knot f l r => (if mustT k (.knot f l r) = true then 1 else 0) + cM k l + cM k r
theorem cM_wk (k : Int) (t : L2.Tree) : ∀ p,((t.wk p).filter (mustQ k)).length = cM k t := by
 induction t with
 | leaf x => intro p; simp [M.Tr.wk,cM,mustQ,isK,M.Tr.isL]
 | knot f l r ihl ihr =>
  intro p
  have e : mustQ k (p,M.Tr.knot f l r) = mustT k (.knot f l r) := rfl
  simp only [M.Tr.wk,List.filter_cons,List.filter_append,cM,e]
  split <;> simp only [List.length_cons,List.length_append,ihl,ihr] <;> lia
noncomputable def Wt {β : Type} (tk : Str → β) (jn : Str → β → β → β) : L2.Tree → β
 | .leaf x => tk x
 | .knot f l r => jn f (Wt tk jn l) (Wt tk jn r)
theorem getD_set {β : Type} (l : List β) (i j : Nat) (v z : β) : (l.set i v).getD j z = if j = i ∧ i < l.length then v else l.getD j z := by
 rw [List.getD_eq_getElem?_getD,List.getD_eq_getElem?_getD,List.getElem?_set]
 by_cases c : i = j
 · subst c
   by_cases d : i < l.length
   · rw [if_pos rfl,if_pos d,if_pos ⟨rfl,d⟩]; rfl
   · rw [if_pos rfl,if_neg d,if_neg fun z => d z.2,List.getElem?_eq_none (by lia)]
 · rw [if_neg c,if_neg fun z => c z.1.symm]
theorem must_iff (k : Int) (f : Str) (l r : L2.Tree) : mustT k (.knot f l r) = true ↔ k ≤ l.rk ∧ k ≤ r.rk := by
 show (true && decide (k ≤ ((min l.rk r.rk : Nat) : Int))) = true ↔ _
 simp; lia
theorem rk_knot (f : Str) (l r : L2.Tree) : (M.Tr.knot f l r).rk = if l.rk = r.rk then l.rk + 1 else max l.rk r.rk := rfl
section
variable {β : Type} {z : β} {tk : Str → β} {jn : Str → β → β → β}
theorem row_ok (k m : Nat) (hk : 2 ≤ k) : ∀ (t : L2.Tree) (b s : Nat),(b = 0 ∨ t.rk + b ≤ k) → s + cM k t ≤ m → ∀ d ∈ rowInto k t b s,d.ok k m
 | .leaf x,b,s,hb,hs,d,hd => by
  simp only [rowInto,List.mem_singleton] at hd
  subst hd
  refine ⟨fun i hi => ?_,fun i hi => by simp [M.Deed.sn] at hi⟩
  simp only [M.Deed.bn,List.mem_singleton] at hi
  subst hi
  have : b < k := by
   rcases hb with rfl | hb
   · omega
   · simp only [M.Tr.rk] at hb; (clear hk hs; omega)
  exact ⟨by (clear hs this hk hb; lia),by (clear hb hs; omega)⟩
 | .knot f l r,b,s,hb,hs,d,hd => by
  simp only [cM] at hs
  rw [rk_knot] at hb
  have jok : ∀ (i j h : Nat),i < k → j < k → h < k → (M.Deed.join f i j h : L2.Deed).ok k m := fun i j h h1 h2 h3 => ⟨fun x hx => by
   simp only [M.Deed.bn,List.mem_cons,List.not_mem_nil,or_false] at hx
   rcases hx with rfl | rfl | rfl <;> exact ⟨by (clear hk hb hs h1 h2 h3; lia),by (clear hk hb hs; omega)⟩,fun x hx => by simp [M.Deed.sn] at hx⟩
  have lp := l.rk_pos
  have rp := r.rk_pos
  by_cases c : mustT k (.knot f l r) = true
  · simp only [rowInto,if_pos c,List.mem_append,List.mem_cons,List.not_mem_nil,or_false] at hd
    rw [if_pos c] at hs
    rw [must_iff] at c
    rcases hd with ((hd | rfl) | hd) | rfl | rfl
    · exact row_ok k m hk r 0 s (.inl rfl) (by (clear lp rp c hk hb; lia)) d hd
    · refine ⟨fun x hx => ?_,fun x hx => ?_⟩
      · simp only [M.Deed.bn,List.mem_singleton] at hx; subst hx; exact ⟨by omega,by omega⟩
      · simp only [M.Deed.sn,List.mem_singleton] at hx; subst hx; exact ⟨by (clear lp rp c hk hb hs; lia),by (clear lp rp c hk hb; lia)⟩
    · exact row_ok k m hk l 0 (s + 1) (.inl rfl) (by (clear lp rp c hk hb; lia)) d hd
    · refine ⟨fun x hx => ?_,fun x hx => ?_⟩
      · simp only [M.Deed.bn,List.mem_singleton] at hx; subst hx; exact ⟨by omega,by omega⟩
      · simp only [M.Deed.sn,List.mem_singleton] at hx; subst hx; exact ⟨by lia,by lia⟩
    · exact jok 0 1 0 (by omega) (by omega) (by omega)
  · rw [if_neg c] at hs
    have c' : ¬ ((k : Int) ≤ l.rk ∧ (k : Int) ≤ r.rk) := fun y => c ((must_iff ..).mpr y)
    by_cases c2 : r.rk ≤ l.rk
    · simp only [rowInto,if_neg c,if_pos c2,List.mem_append,List.mem_cons,List.not_mem_nil,or_false] at hd
      have h1 : b = 0 ∨ l.rk + b ≤ k := by rcases hb with hb | hb; exact .inl hb; exact .inr (by split at hb <;> (clear hk hs lp rp c c' c2 hd; lia))
      have h2 : r.rk + (b + 1) ≤ k := by rcases hb with hb | hb; (clear hk hs lp rp c hd h1; lia); (split at hb <;> (clear hk hs lp rp c c' hd h1; lia))
      rcases hd with (hd | hd) | rfl
      · exact row_ok k m hk l b s h1 (by (clear c c' c2 h1 h2 lp rp hk hb; lia)) d hd
      · exact row_ok k m hk r (b + 1) s (.inr h2) (by (clear c c' c2 h1 h2 lp rp hk hb; lia)) d hd
      · exact jok b (b + 1) b (by (clear hk hb hs lp rp c c' c2 h1; lia)) (by (clear hk hb hs c' c2 h1 lp c; lia)) (by (clear hk hb hs lp rp c c' c2 h1; lia))
    · simp only [rowInto,if_neg c,if_neg c2,List.mem_append,List.mem_cons,List.not_mem_nil,or_false] at hd
      have h1 : b = 0 ∨ r.rk + b ≤ k := by rcases hb with hb | hb; exact .inl hb; exact .inr (by split at hb <;> (clear hk hs lp rp c hd c'; lia))
      have h2 : l.rk + (b + 1) ≤ k := by rcases hb with hb | hb; (clear hk hs lp rp c hd h1; lia); (split at hb <;> (clear hk hs lp rp c h1 c'; lia))
      rcases hd with (hd | hd) | rfl
      · exact row_ok k m hk r b s h1 (by lia) d hd
      · exact row_ok k m hk l (b + 1) s (.inr h2) (by (clear lp rp c c' c2 h1 hk hb h2; lia)) d hd
      · exact jok (b + 1) b b (by (clear hk hb hs c' c2 h1 rp c; lia)) (by (clear hk hb hs lp rp c c' c2 h1; lia)) (by (clear hk hb hs lp rp c c' c2 h1; lia))
theorem fold_len (row : List L2.Deed) (st : List β × List β) : (row.foldl (M.Deed.go z tk jn) st).1.length = st.1.length ∧ (row.foldl (M.Deed.go z tk jn) st).2.length = st.2.length := M.Deed.rows_len row st
theorem row_run (k m : Nat) (hk : 2 ≤ k) : ∀ (t : L2.Tree) (b s : Nat) (st : List β × List β),st.1.length = k → st.2.length = m → (b = 0 ∨ t.rk + b ≤ k) → s + cM k t ≤ m →
 ((rowInto k t b s).foldl (M.Deed.go z tk jn) st).1.getD b z = Wt tk jn t ∧ (∀ i < b,((rowInto k t b s).foldl (M.Deed.go z tk jn) st).1.getD i z = st.1.getD i z) ∧ ∀ j < s,((rowInto k t b s).foldl (M.Deed.go z tk jn) st).2.getD j z = st.2.getD j z
 | .leaf x,b,s,st,l1,l2,hb,hs => by
  have : b < k := by
   rcases hb with rfl | hb
   · (clear l2 hs l1; omega)
   · simp only [M.Tr.rk] at hb; (clear hk l1 l2 hs; omega)
  simp only [rowInto,List.foldl_cons,List.foldl_nil,M.Deed.go,M.Deed.set,M.Deed.val,Wt,getD_set,Int.toNat_natCast]
  refine ⟨by rw [if_pos ⟨trivial,by (clear l2 hb hk hs; lia)⟩],fun i hi => by rw [if_neg (by (clear hk l1 l2 hb hs this; lia))],fun j hj => trivial⟩
 | .knot f l r,b,s,st,l1,l2,hb,hs => by
  simp only [cM] at hs
  rw [rk_knot] at hb
  have lp := l.rk_pos
  have rp := r.rk_pos
  by_cases c : mustT k (.knot f l r) = true
  · rw [if_pos c] at hs
    have c' := (must_iff ..).mp c
    have b0 : b = 0 := by
     rcases hb with hb | hb
     · exact hb
     · split at hb <;> (clear hk l1 l2 hs lp c; lia)
    subst b0
    simp only [rowInto,if_pos c,List.foldl_append]
    have r1 := row_run k m hk r 0 s st l1 l2 (.inl rfl) (by (clear rp c c' hb hk l1 l2 lp; lia))
    have q1 := fold_len (z := z) (tk := tk) (jn := jn) (rowInto k r 0 s) st
    generalize (rowInto k r 0 s).foldl (M.Deed.go z tk jn) st = s1 at r1 q1
    simp only [List.foldl_cons,List.foldl_nil]
    generalize h2 : M.Deed.go z tk jn s1 (.put 0 s) = s2
    have e2 : s2.1 = s1.1 ∧ s2.2 = s1.2.set s (s1.1.getD 0 z) := by rw [← h2]; exact ⟨rfl,rfl⟩
    have r3 := row_run k m hk l 0 (s + 1) s2 (by rw [e2.1]; (clear lp rp c c' e2 l2 hs hb r1 hk h2; lia)) (by rw [e2.2,List.length_set]; (clear lp rp c c' e2 hk l1 hb r1 hs h2; lia)) (.inl rfl) (by (clear c' hb r1 q1 h2 e2 lp rp c hk l1 l2; lia))
    have q3 := fold_len (z := z) (tk := tk) (jn := jn) (rowInto k l 0 (s + 1)) s2
    generalize (rowInto k l 0 (s + 1)).foldl (M.Deed.go z tk jn) s2 = s3 at r3 q3
    rw [e2.1,e2.2,List.length_set] at q3
    have hs3 : s3.2.getD s z = Wt tk jn r := by
     rw [r3.2.2 s (by (clear hb r1 q1 h2 e2 r3 q3 hk l1 l2 hs lp rp c c'; lia)),e2.2,getD_set,if_pos ⟨rfl,by (clear lp rp c c' e2 r3 q3 hk l1 hb r1 h2; lia)⟩]; exact r1.1
    simp only [M.Deed.go,M.Deed.set,M.Deed.val,Wt,getD_set,Int.toNat_natCast,List.length_set]
    refine ⟨?_,fun i hi => by (clear hk l1 l2 hs lp rp c c' hb r1 q1 h2 e2 r3 q3 hs3; omega),fun j hj => ?_⟩
    · rw [if_pos ⟨by decide,by simp; (clear lp rp c c' l2 hs hb r1 e2 r3 h2 hs3; lia)⟩,if_neg (by simp),if_pos ⟨by decide,by simp; (clear lp rp c c' l2 hs hb r1 e2 r3 h2 hs3; lia)⟩,hs3]
      have := r3.1
      simp only [Int.toNat_zero] at *
      rw [this]
    · rw [r3.2.2 j (by (clear hk l1 l2 hs lp rp c c' hb r1 q1 h2 e2 r3 q3 hs3; lia)),e2.2,getD_set,if_neg (by (clear hk l1 l2 hs lp rp c c' hb r1 q1 h2 e2 r3 q3 hs3; lia))]; exact r1.2.2 j hj
  · rw [if_neg c] at hs
    have c' : ¬ ((k : Int) ≤ l.rk ∧ (k : Int) ≤ r.rk) := fun y => c ((must_iff ..).mpr y)
    by_cases c2 : r.rk ≤ l.rk
    · have h1 : b = 0 ∨ l.rk + b ≤ k := by rcases hb with hb | hb; exact .inl hb; exact .inr (by split at hb <;> (clear hk l1 l2 hs lp c' c; lia))
      have h2 : r.rk + (b + 1) ≤ k := by rcases hb with hb | hb; (clear hk l1 l2 hs lp rp h1; lia); (split at hb <;> (clear hk l1 l2 hs lp rp c c' h1; lia))
      simp only [rowInto,if_neg c,if_pos c2,List.foldl_append]
      have r1 := row_run k m hk l b s st l1 l2 h1 (by (clear rp c c' c2 h1 h2 hk l1 l2 lp hb; lia))
      have q1 := fold_len (z := z) (tk := tk) (jn := jn) (rowInto k l b s) st
      generalize (rowInto k l b s).foldl (M.Deed.go z tk jn) st = s1 at r1 q1
      have r2 := row_run k m hk r (b + 1) s s1 (by (clear hs lp rp c c' c2 h1 h2 l2 hb hk r1; lia)) (by (clear hs lp rp c c' c2 h1 h2 hk l1 hb r1; lia)) (.inr h2) (by (clear c c' c2 h1 h2 r1 q1 hk l1 l2 hb rp lp; lia))
      have q2 := fold_len (z := z) (tk := tk) (jn := jn) (rowInto k r (b + 1) s) s1
      generalize (rowInto k r (b + 1) s).foldl (M.Deed.go z tk jn) s1 = s2 at r2 q2
      simp only [List.foldl_cons,List.foldl_nil,M.Deed.go,M.Deed.set,M.Deed.val,Wt,getD_set,Int.toNat_natCast]
      refine ⟨?_,fun i hi => ?_,fun j hj => ?_⟩
      · rw [if_pos ⟨trivial,by (clear hs lp rp c l2 hb c' c2 hk h1 r1 r2; lia)⟩,r2.1,r2.2.1 b (by (clear hk l1 l2 hb hs lp rp c c' c2 h1 h2 r1 q1 r2 q2; lia)),r1.1]
      · rw [if_neg (by (clear hk l1 l2 hb hs lp rp c c' c2 h1 h2 r1 q1 r2 q2; lia)),r2.2.1 i (by (clear hk l1 l2 hb hs lp rp c c' c2 h1 h2 r1 q1 r2 q2; lia))]; exact r1.2.1 i hi
      · rw [r2.2.2 j hj]; exact r1.2.2 j hj
    · have h1 : b = 0 ∨ r.rk + b ≤ k := by rcases hb with hb | hb; exact .inl hb; exact .inr (by split at hb <;> (clear hk l1 l2 hs lp rp c c'; lia))
      have h2 : l.rk + (b + 1) ≤ k := by rcases hb with hb | hb; (clear hk l1 l2 hs lp rp c h1; lia); (split at hb <;> (clear hk l1 l2 hs lp rp c c'; lia))
      simp only [rowInto,if_neg c,if_neg c2,List.foldl_append]
      have r1 := row_run k m hk r b s st l1 l2 h1 (by (clear rp c c' c2 h1 h2 hk l1 l2 lp hb; lia))
      have q1 := fold_len (z := z) (tk := tk) (jn := jn) (rowInto k r b s) st
      generalize (rowInto k r b s).foldl (M.Deed.go z tk jn) st = s1 at r1 q1
      have r2 := row_run k m hk l (b + 1) s s1 (by (clear hs lp rp c c' c2 h1 h2 l2 hb hk r1; lia)) (by (clear hs lp rp c c' c2 h1 h2 hk l1 hb r1; lia)) (.inr h2) (by (clear c c' c2 h1 h2 r1 q1 hk l1 l2 hb rp lp; lia))
      have q2 := fold_len (z := z) (tk := tk) (jn := jn) (rowInto k l (b + 1) s) s1
      generalize (rowInto k l (b + 1) s).foldl (M.Deed.go z tk jn) s1 = s2 at r2 q2
      simp only [List.foldl_cons,List.foldl_nil,M.Deed.go,M.Deed.set,M.Deed.val,Wt,getD_set,Int.toNat_natCast]
      refine ⟨?_,fun i hi => ?_,fun j hj => ?_⟩
      · rw [if_pos ⟨trivial,by (clear hs lp rp c l2 hb c' c2 hk h1 r1 r2; lia)⟩,r2.1,r2.2.1 b (by (clear hk l1 l2 hb hs lp rp c c' c2 h1 h2 r1 q1 r2 q2; lia)),r1.1]
      · rw [if_neg (by (clear hk l1 l2 hb hs lp rp c c' c2 h1 h2 r1 q1 r2 q2; lia)),r2.2.1 i (by (clear hk l1 l2 hb hs lp rp c c' c2 h1 h2 r1 q1 r2 q2; lia))]; exact r1.2.1 i hi
      · rw [r2.2.2 j hj]; exact r1.2.2 j hj
end
noncomputable def wordD : L2.Deed → Str
 | .take _ _ => Str.ofString "take"
 | .join _ _ _ _ => Str.ofString "join"
 | .put _ _ => Str.ofString "put"
 | .fetch _ _ => Str.ofString "fetch"
theorem nK_lv2 (t : L2.Tree) : t.lv.length = nK t + 1 := (nK_lv t).symm
noncomputable def cnt (x : Str) (row : List L2.Deed) : Nat := row.countP fun d => decide (wordD d = x)
theorem ww : Str.ofString "take" ≠ Str.ofString "join" ∧ Str.ofString "take" ≠ Str.ofString "put" ∧ Str.ofString "take" ≠ Str.ofString "fetch" ∧ Str.ofString "join" ≠ Str.ofString "put" ∧ Str.ofString "join" ≠ Str.ofString "fetch" ∧ Str.ofString "put" ≠ Str.ofString "fetch" := by
 refine ⟨?_,?_,?_,?_,?_,?_⟩ <;> decide +kernel
theorem cnt_app (x : Str) (a b : List L2.Deed) : cnt x (a ++ b) = cnt x a + cnt x b := List.countP_append
theorem cnt_cons (x : Str) (d : L2.Deed) (a : List L2.Deed) : cnt x (d :: a) = cnt x a + if wordD d = x then 1 else 0 := by
 unfold cnt; rw [List.countP_cons]; simp
theorem cnt_nil (x : Str) : cnt x [] = 0 := rfl
theorem cnt_row (k : Int) : ∀ (t : L2.Tree) (b s : Nat),cnt (Str.ofString "take") (rowInto k t b s) = t.lv.length ∧ cnt (Str.ofString "join") (rowInto k t b s) + 1 = t.lv.length ∧ cnt (Str.ofString "put") (rowInto k t b s) = cM k t ∧ cnt (Str.ofString "fetch") (rowInto k t b s) = cM k t
 | .leaf x,b,s => by
  obtain ⟨h1,h2,h3,h4,h5,h6⟩ := ww
  simp only [rowInto,cnt_cons,cnt_nil,wordD,M.Tr.lv,cM,h1,h2,h3,if_true,if_false,List.length_cons,List.length_nil]
  decide
 | .knot f l r,b,s => by
  obtain ⟨h1,h2,h3,h4,h5,h6⟩ := ww
  have a1 := cnt_row k r 0 s
  have a2 := cnt_row k l 0 (s + 1)
  have a3 := cnt_row k l b s
  have a4 := cnt_row k r (b + 1) s
  have a5 := cnt_row k r b s
  have a6 := cnt_row k l (b + 1) s
  have w : ∀ (x : Str) (d : L2.Deed) (n : Nat),(if wordD d = x then 1 else 0) = n → ∀ m,m + (if wordD d = x then 1 else 0) = m + n := fun x d n h m => by rw [h]
  simp only [rowInto,M.Tr.lv,List.length_append,cM]
  by_cases c : mustT k (.knot f l r) = true
  · simp only [if_pos c,cnt_app,cnt_cons,cnt_nil,wordD,h1,h2,h3,h4,h5,h6,h1.symm,h2.symm,h3.symm,h4.symm,h5.symm,h6.symm,if_true,if_false]
    (clear h1 h2 h3 h4 a3 a4 a5 a6 c h5 h6; lia)
  · simp only [if_neg c]
    by_cases c2 : r.rk ≤ l.rk
    · simp only [if_pos c2,cnt_app,cnt_cons,cnt_nil,wordD,h1,h2,h3,h4,h5,h6,h1.symm,h2.symm,h3.symm,h4.symm,h5.symm,h6.symm,if_true,if_false]
      (clear h1 h2 h3 h4 h5 h6 a1 a6 c c2 a2 a5; lia)
    · simp only [if_neg c2,cnt_app,cnt_cons,cnt_nil,wordD,h1,h2,h3,h4,h5,h6,h1.symm,h2.symm,h3.symm,h4.symm,h5.symm,h6.symm,if_true,if_false]
      (clear h1 h2 h3 h4 h5 h6 a1 a2 a3 c2 a4 c; lia)
theorem vDeed_0 (d : L2.Deed) : ∃ r,vDeed d = .str (wordD d) :: r := by cases d <;> exact ⟨_,rfl⟩
theorem anyH (hs : List (Option (List Nat))) (p : List Nat) : ((hs.map dO).any fun d => D.eq d (dP p)) = M.held hs p := by
 unfold M.held
 rw [List.any_map]
 congr 1
 funext o
 show D.eq (dO o) (dO (some p)) = _
 rw [dO_eq]
 cases o <;> (rw [Bool.eq_iff_iff]; simp)
theorem dpsM : ∀ l : List (Option (List Nat)),D.dps (l.map dO) ≤ 1
 | [] => Nat.zero_le _
 | o :: l => by
  have := dpsM l
  have := dO_dp o
  simp only [List.map_cons,D.dps]
  lia
noncomputable def spHeldF : Sp := fun vs H Q _ => ∃ (st : MS) (v : V),vs = [v] ∧ Dt H (dS st) v ∧ ∀ H',Same H H' → Q (.bl (M.held st.1 [])) H'
seal PSs PS PE PT PA PI PIfs in
theorem ok_heldF (T : Txt K mg) : FnOk P w K mg base CX0 1 T.f_formula_held T.d_formula_held ["state"] spHeldF := by
 refine T.F_formula_held.ok (k := 0) sc_formula_held (fun vs H Q E h => ?_) (fun cdv A outer s H vs Q E hr h => ?_)
 · obtain ⟨st,v,rfl,_⟩ := h
   rfl
 obtain ⟨st,v,rfl,dv,q⟩ := h
 obtain ⟨p,b,s',ws,us,rfl,ep,eb,es,db,ds⟩ := st_of dv
 have nd := sc_formula_held.nd
 refine ⟨_,(pss_one (ps_ret (pe_cmpR (op_inD hr) (pe_tup pa_nil) (pe_ix ixF (pv 0) pe_int (fun _ _ => rfl)) (by with_unfolding_all rfl)))),?_⟩
 walk_at "rd"
 refine ⟨Nat.zero_le _,NewO.mk fun p1 H1 S1 n1 e1 => ⟨_,items_t (S1 _ _ ep),_,atI_0,b,rfl,_,.inl (S1 _ _ eb),_,db.same S1,dP [],dP_mk e1,Nat.le_trans (dpsM _) (by decide),?_⟩⟩
 have := q H1 S1
 rw [← anyH] at this
 exact this
noncomputable def partsK (t1 t2 t3 t4 : Addr) : List (Key × V) := [(.inr (Str.ofString "take"),.ref t1),(.inr (Str.ofString "join"),.ref t2),(.inr (Str.ofString "put"),.ref t3),(.inr (Str.ofString "fetch"),.ref t4)]
structure Prts (P : Program) (w : World) (K : PySem.W.Frag) (mg : Str → Option Value) where
 a : Addr
 t1 : Addr
 t2 : Addr
 t3 : Addr
 t4 : Addr
 m : mg "PARTS" = some (.ref a)
 d : KD P w K a (partsK t1 t2 t3 t4)
 k1 : KTup K t1 [.str (Str.ofString "name"),.str (Str.ofString "number")]
 k2 : KTup K t2 [.str (Str.ofString "name"),.str (Str.ofString "number"),.str (Str.ofString "number"),.str (Str.ofString "number")]
 k3 : KTup K t3 [.str (Str.ofString "number"),.str (Str.ofString "number")]
 k4 : KTup K t4 [.str (Str.ofString "number"),.str (Str.ofString "number")]
noncomputable def deedW : L2.Deed → List Str
 | .take x i => [Str.ofString "take",x,intT i]
 | .join f i j l => [Str.ofString "join",f,intT i,intT j,intT l]
 | .put i s => [Str.ofString "put",intT i,intT s]
 | .fetch s i => [Str.ofString "fetch",intT s,intT i]
noncomputable def deedT (d : L2.Deed) : Str := Txt.join (Str.ofString " ") (deedW d)
noncomputable def rowT (r : List L2.Deed) : Str := Txt.join (Str.ofString "; ") (r.map deedT)
noncomputable def nmOf : L2.Deed → Option Str
 | .take x _ => some x
 | .join f _ _ _ => some f
 | _ => none
noncomputable def okT (d : L2.Deed) : Prop := (∀ i ∈ d.bn ++ d.sn,0 ≤ i ∧ i < 10000) ∧ ∀ x,nmOf d = some x → nameOk x = true
noncomputable def strOfV : V → Str
 | .str x => x
 | .int i => intT i
 | _ => Str.ofString ""
theorem words_of (d : L2.Deed) : (vDeed d).map strOfV = deedW d := by cases d <;> rfl
theorem intT_len {i : Int} (h : 0 ≤ i ∧ i < 10000) : (intT i).length ≤ 4 ∧ (intT i).cps.toList = numL i.toNat := by
 obtain ⟨n,rfl⟩ : ∃ n : Nat,i = n := ⟨i.toNat,by lia⟩
 have := num_facts (n := n) (by omega)
 rw [intT_nat]
 refine ⟨?_,by simp [numT]⟩
 have e : (numT n).length = (numL n).length := by simp [numT,Str.length]
 rw [e]; exact this.2.1
theorem nameOk_len {x : Str} (h : nameOk x = true) : 1 ≤ x.length ∧ x.length ≤ 8 ∧ ∀ c ∈ x.cps.toList,97 ≤ c ∧ c ≤ 122 := by
 unfold nameOk isName at h
 simp only [Bool.and_eq_true,decide_eq_true_eq,List.all_eq_true] at h
 have el : x.cps.toList.length = x.length := by simp [Str.length]
 rw [el] at h
 exact ⟨h.1,h.2.1,fun c hc => h.2.2 c hc⟩
theorem word_lit : ∀ z ∈ [Str.ofString "take",Str.ofString "join",Str.ofString "put",Str.ofString "fetch"],z.length ≤ 8 ∧ ∀ c ∈ z.cps.toList,97 ≤ c ∧ c ≤ 122 := by decide +kernel
theorem word_ok {d : L2.Deed} (h : okT d) : ∀ z ∈ deedW d,z.length ≤ 8 ∧ ∀ c ∈ z.cps.toList,48 ≤ c ∧ c ≤ 122 ∧ c ≠ 59 := by
 have w0 : ∀ z ∈ [Str.ofString "take",Str.ofString "join",Str.ofString "put",Str.ofString "fetch"],z.length ≤ 8 ∧ ∀ c ∈ z.cps.toList,48 ≤ c ∧ c ≤ 122 ∧ c ≠ 59 := fun z hz => by
  obtain ⟨h1,h2⟩ := word_lit z hz
  exact ⟨h1,fun c hc => by have := h2 c hc; (clear h1; lia)⟩
 have wn : ∀ x,nmOf d = some x → x.length ≤ 8 ∧ ∀ c ∈ x.cps.toList,48 ≤ c ∧ c ≤ 122 ∧ c ≠ 59 := fun x hx => by
  obtain ⟨_,h1,h2⟩ := nameOk_len (h.2 x hx)
  exact ⟨h1,fun c hc => by have := h2 c hc; lia⟩
 have wi : ∀ i ∈ d.bn ++ d.sn,(intT i).length ≤ 8 ∧ ∀ c ∈ (intT i).cps.toList,48 ≤ c ∧ c ≤ 122 ∧ c ≠ 59 := fun i hi => by
  have hb := h.1 i hi
  obtain ⟨h1,h2⟩ := intT_len hb
  refine ⟨by lia,fun c hc => ?_⟩
  rw [h2] at hc
  have := (num_facts (n := i.toNat) (by lia)).2.2.1 c hc
  (clear hb h1 h2; lia)
 intro z hz
 cases d with
 | take x i =>
  simp only [deedW,List.mem_cons,List.not_mem_nil,or_false] at hz
  rcases hz with rfl | rfl | rfl
  · exact w0 _ (by simp)
  · exact wn _ rfl
  · exact wi _ (by simp [M.Deed.bn])
 | join f i j l =>
  simp only [deedW,List.mem_cons,List.not_mem_nil,or_false] at hz
  rcases hz with rfl | rfl | rfl | rfl | rfl
  · exact w0 _ (by simp)
  · exact wn _ rfl
  · exact wi _ (by simp [M.Deed.bn])
  · exact wi _ (by simp [M.Deed.bn])
  · exact wi _ (by simp [M.Deed.bn])
 | put i s =>
  simp only [deedW,List.mem_cons,List.not_mem_nil,or_false] at hz
  rcases hz with rfl | rfl | rfl
  · exact w0 _ (by simp)
  · exact wi _ (by simp [M.Deed.bn])
  · exact wi _ (by simp [M.Deed.sn])
 | fetch s i =>
  simp only [deedW,List.mem_cons,List.not_mem_nil,or_false] at hz
  rcases hz with rfl | rfl | rfl
  · exact w0 _ (by simp)
  · exact wi _ (by simp [M.Deed.sn])
  · exact wi _ (by simp [M.Deed.bn])
theorem deedW_len (d : L2.Deed) : 3 ≤ (deedW d).length ∧ (deedW d).length ≤ 5 := by cases d <;> simp [deedW]
theorem sep1 : (Str.ofString " ") = ⟨([32] : List Nat).toArray⟩ := by decide +kernel
theorem sep2 : (Str.ofString "; ") = ⟨([59,32] : List Nat).toArray⟩ := by decide +kernel
theorem sum_le8 : ∀ l : List Str,(∀ z ∈ l,z.length ≤ 8) → (l.map (·.length)).sum ≤ 8 * l.length
 | [],_ => by simp
 | a :: l,h => by
  have h1 := h a (by simp)
  have h2 := sum_le8 l fun z hz => h z (by simp [hz])
  simp only [List.map_cons,List.sum_cons,List.length_cons]
  lia
theorem deedT_len {d : L2.Deed} (h : okT d) : (deedT d).length ≤ 50 ∧ ∀ c ∈ (deedT d).cps.toList,c ≠ 59 := by
 have e : (deedT d).cps.toList = jn [32] ((deedW d).map fun z => z.cps.toList) := by
  unfold deedT Txt.join
  rw [StrLaws.glued_eq_join,jn_cps,sep1]
 have hw := word_ok h
 have l5 := (deedW_len d).2
 constructor
 · have h1 := len_jn [32] ((deedW d).map fun z => z.cps.toList)
   rw [← e] at h1
   have h2 := sum_le8 (deedW d) fun z hz => (hw z hz).1
   have h3 : (((deedW d).map fun z => z.cps.toList).map List.length) = (deedW d).map (·.length) := by rw [List.map_map]; rfl
   rw [h3] at h1
   simp only [List.length_map,List.length_cons,List.length_nil] at h1
   have h4 : (deedT d).cps.toList.length = (deedT d).length := by simp [Str.length]
   lia
 · rw [e]
   have go : ∀ l : List (List Nat),(∀ z ∈ l,∀ c ∈ z,c ≠ 59) → ∀ c ∈ jn [32] l,c ≠ 59 := by
    intro l
    induction l with
    | nil => intro _ c hc; simp [jn] at hc
    | cons a l ih =>
     intro hl c hc
     cases l with
     | nil => exact hl a (by simp) c hc
     | cons b l =>
      simp only [jn,List.mem_append,List.mem_singleton] at hc
      rcases hc with (hc | hc) | hc
      · exact hl a (by simp) c hc
      · lia
      · exact ih (fun z hz => hl z (by simp [List.mem_cons.mp hz])) c hc
   refine go _ fun z hz c hc => ?_
   obtain ⟨y,hy,rfl⟩ := List.mem_map.mp hz
   exact ((hw y hy).2 c hc).2.2
theorem split_deed {d : L2.Deed} (h : okT d) : Txt.split (deedT d) (Str.ofString " ") = deedW d := by
 unfold deedT
 rw [sep1]
 refine split_join (c := 32) (r := []) (deedW d) (by simp) (by decide +kernel) (fun e => by have := (deedW_len d).1; rw [e] at this; simp at this) fun z hz hc => ?_
 have := (word_ok h z hz).2 32 hc
 omega
theorem split_row {r : List L2.Deed} (h0 : r ≠ []) (h : ∀ d ∈ r,okT d) : Txt.split (rowT r) (Str.ofString "; ") = r.map deedT := by
 unfold rowT
 rw [sep2]
 refine split_join (c := 59) (r := [32]) (r.map deedT) (by simp) (by decide +kernel) (by simpa using h0) fun z hz hc => ?_
 obtain ⟨d,hd,rfl⟩ := List.mem_map.mp hz
 exact (deedT_len (h d hd)).2 59 hc rfl
theorem rowT_len {r : List L2.Deed} (h : ∀ d ∈ r,okT d) : (rowT r).length ≤ 60 * r.length := by
 have e : (rowT r).cps.toList = jn [59,32] ((r.map deedT).map fun z => z.cps.toList) := by
  unfold rowT Txt.join
  rw [StrLaws.glued_eq_join,jn_cps,sep2]
 have h1 := len_jn [59,32] ((r.map deedT).map fun z => z.cps.toList)
 rw [← e] at h1
 have h2 : ∀ r : List L2.Deed,(∀ d ∈ r,okT d) → ((((r.map deedT).map fun z : Str => z.cps.toList)).map List.length).sum ≤ 50 * r.length := by
  intro r
  induction r with
  | nil => intro _; simp
  | cons d r ih =>
   intro h
   have a1 := (deedT_len (h d (by simp))).1
   have a2 := ih fun d hd => h d (by simp [hd])
   have a3 : (deedT d).cps.toList.length = (deedT d).length := by simp [Str.length]
   simp only [List.map_cons,List.sum_cons,List.length_cons] at a2 ⊢
   (clear e h1 ih; lia)
 have h3 := h2 r h
 simp only [List.length_map,List.length_cons,List.length_nil] at h1
 have h4 : (rowT r).cps.toList.length = (rowT r).length := by simp [Str.length]
 lia
theorem vdeed_mem (d : L2.Deed) : ∀ x ∈ vDeed d,(∃ z,x = V.str z) ∨ ∃ i ∈ d.bn ++ d.sn,x = V.int i := by
 intro x hx
 cases d with
 | take y i =>
  simp only [vDeed,List.mem_cons,List.not_mem_nil,or_false] at hx
  rcases hx with rfl | rfl | rfl
  · exact .inl ⟨_,rfl⟩
  · exact .inl ⟨_,rfl⟩
  · exact .inr ⟨_,by simp [M.Deed.bn],rfl⟩
 | join f i j l =>
  simp only [vDeed,List.mem_cons,List.not_mem_nil,or_false] at hx
  rcases hx with rfl | rfl | rfl | rfl | rfl
  · exact .inl ⟨_,rfl⟩
  · exact .inl ⟨_,rfl⟩
  · exact .inr ⟨_,by simp [M.Deed.bn],rfl⟩
  · exact .inr ⟨_,by simp [M.Deed.bn],rfl⟩
  · exact .inr ⟨_,by simp [M.Deed.bn],rfl⟩
 | put i s =>
  simp only [vDeed,List.mem_cons,List.not_mem_nil,or_false] at hx
  rcases hx with rfl | rfl | rfl
  · exact .inl ⟨_,rfl⟩
  · exact .inr ⟨_,by simp [M.Deed.bn],rfl⟩
  · exact .inr ⟨_,by simp [M.Deed.sn],rfl⟩
 | fetch s i =>
  simp only [vDeed,List.mem_cons,List.not_mem_nil,or_false] at hx
  rcases hx with rfl | rfl | rfl
  · exact .inl ⟨_,rfl⟩
  · exact .inr ⟨_,by simp [M.Deed.sn],rfl⟩
  · exact .inr ⟨_,by simp [M.Deed.bn],rfl⟩
theorem lg4 {n : Nat} (h : n < 10000) : n.log2 < 1900 := by
 by_cases z : n = 0
 · rw [z]; decide
 · exact (Nat.log2_lt z).mpr (Nat.lt_of_lt_of_le (show n < 2 ^ 14 by lia) (Nat.pow_le_pow_right (by decide) (by decide)))
noncomputable def spShowD : Sp := fun vs H Q _ => ∃ (d : L2.Deed) (vd : V),vs = [vd] ∧ Dt H (dDeed d) vd ∧ okT d ∧ ∀ H',Same H H' → Q (.str (deedT d)) H'
seal PSs PS PE PT PA PI PIfs in
theorem ok_showd (T : Txt K mg) : FnOk P w K mg base CX0 1 T.f_show_deed T.d_show_deed ["deed"] spShowD := by
 refine T.F_show_deed.ok (k := 0) sc_show_deed (fun vs H Q E h => ?_) (fun cdv A outer s H vs Q E hr h => ?_)
 · obtain ⟨d,vd,rfl,_⟩ := h
   rfl
 obtain ⟨d,vd,rfl,hd,ok,q⟩ := h
 obtain ⟨b,rfl,eb⟩ := deed_of hd
 have nd := sc_show_deed.nd
 refine ⟨_,(pss_one (ps_ret (pe_bm PySem.F.plainAttrs_str PySem.F.slot_str_join PySem.F.type_str_join mt_join pe_str (pa_cons (pe_comp (N := ["part"]) (caps := []) rfl ⟨rfl,rfl,rfl,rfl,by decide +kernel,rfl,rfl,rfl,rfl⟩ (piT (pv 0)) (fun _ _ _ _ => pif_nil) (fun _ _ _ _ => (pe_callTy call_strV rfl T.z_str bt_str (pa_cons (pv 0) pa_nil)))) pa_nil)))),?_⟩
 walk_at "rd"
 have hl : (vDeed d).length ≤ 5 := by cases d <;> simp [vDeed]
 refine WalkT.comp eb (fun i ys H' => ys = ((vDeed d).take i).map fun v => V.str (strOfV v)) rfl (by lia) (fun i ys H' h => by rw [h]; simp; lia) (fun i x ys H' ex S' h => ?_) (fun p ys H1 H2 S1 S2 h n2 e2 => ?_)
 · have enext : ((vDeed d).take (i + 1)).map (fun v => V.str (strOfV v)) = ys ++ [V.str (strOfV x)] := by rw [List.take_add_one,ex,h]; simp
   walk_at "rd"
   rcases vdeed_mem d x (List.mem_of_getElem? ex) with ⟨z,rfl⟩ | ⟨k,hk,rfl⟩
   · exact .inl ⟨z,rfl,S',enext.symm⟩
   · have := ok.1 k hk
     exact .inr ⟨k,rfl,lg4 (by (clear eb hl h ex enext; lia)),S',enext.symm⟩
 · rw [List.take_length] at h
   have e : ys = (deedW d).map V.str := by rw [h,← words_of d,List.map_map]; rfl
   rw [e] at e2
   have hw := word_ok ok
   have l5 := (deedW_len d).2
   have s8 := sum_le8 (deedW d) fun z hz => (hw z hz).1
   refine ⟨p,rfl,deedW d,.inl (SqL.of e2),?_,q H2 (S1.trans S2)⟩
   have : (Str.ofString " ").length = 1 := by decide +kernel
   rw [this]; (clear eb hl h n2 e2 this e; lia)
noncomputable def spShowR : Sp := fun vs H Q _ => ∃ (row : List L2.Deed) (pr : Addr) (rs : List V),vs = [.ref pr] ∧ H pr = some (.lst rs) ∧ Dts H (row.map dDeed) rs ∧ row.length ≤ 1000 ∧ (∀ d ∈ row,okT d) ∧ ∀ H',Same H H' → Q (.str (rowT row)) H'
seal PSs PS PE PT PA PI PIfs in
theorem ok_showr (T : Txt K mg) : FnOk P w K mg base CX0 2 T.f_show_row T.d_show_row ["row"] spShowR := by
 refine T.F_show_row.ok (k := 1) sc_show_row (fun vs H Q E h => ?_) (fun cdv A outer s H vs Q E hr h => ?_)
 · obtain ⟨row,pr,rs,rfl,_⟩ := h
   rfl
 obtain ⟨row,pr,rs,rfl,er,dr,hl,ok,q⟩ := h
 have nd := sc_show_row.nd
 have G_show_deed := ok_showd (P := P) (w := w) (base := base) T
 refine ⟨_,(pss_one (ps_ret (pe_bm PySem.F.plainAttrs_str PySem.F.slot_str_join PySem.F.type_str_join mt_join pe_str (pa_cons (pe_comp (N := ["deed"]) (caps := []) rfl ⟨rfl,rfl,rfl,rfl,by decide +kernel,rfl,rfl,rfl,rfl⟩ (piL (pv 0)) (fun _ _ _ _ => pif_nil) (fun _ _ _ _ => (pe_call G_show_deed hr rfl T.m_show_deed T.F_show_deed.kp T.b_show_deed .nil pass0 (pa_cons (pv 0) pa_nil)))) pa_nil)))),?_⟩
 walk_at "rd"
 have lr := dr.length
 rw [List.length_map] at lr
 refine WalkL.comp er (fun i ys H' => ys = ((row.take i).map deedT).map V.str) rfl (by lia) (fun i ys H' h => by rw [h]; simp; (clear er hl lr h; lia)) (fun i x ys H' ex S' h => ?_) (fun p ys H1 H2 S1 S2 h n2 e2 => ?_)
 · have hi : i < row.length := by have := (List.getElem?_eq_some_iff.mp ex).1; lia
   have e0 : row[i]? = some row[i] := List.getElem?_eq_getElem hi
   obtain ⟨y,hy,dy⟩ := Dts.map_of dr e0
   rw [ex] at hy; cases hy
   have okd := ok _ (List.getElem_mem hi)
   generalize row[i] = d at e0 dy okd
   walk_at "rd"
   refine ⟨d,x,rfl,dy.same S',okd,fun H3 S3 => ⟨S'.trans S3,?_⟩⟩
   rw [h,List.take_add_one,e0]; simp
 · rw [lr,List.take_length] at h
   rw [h] at e2
   refine ⟨p,rfl,row.map deedT,.inl (SqL.of e2),?_,q H2 (S1.trans S2)⟩
   have h2 : ∀ r : List L2.Deed,(∀ d ∈ r,okT d) → ((r.map deedT).map fun x => x.length).sum ≤ 50 * r.length := by
    intro r
    induction r with
    | nil => intro _; simp
    | cons d r ih =>
     intro h
     have a1 := (deedT_len (h d (by simp))).1
     have a2 := ih fun d hd => h d (by simp [hd])
     simp only [List.map_cons,List.sum_cons,List.length_cons] at a2 ⊢
     (clear er hl lr n2 e2 ih; lia)
   have h3 := h2 row ok
   have : (Str.ofString "; ").length = 2 := by decide +kernel
   rw [this,List.length_map]
   (clear lr h n2 e2 er this; lia)
noncomputable def numOk (x : Str) : Bool := (decide (1 ≤ x.length) && (decide (x.length ≤ 4) && x.cps.toList.all fun c => decide (48 ≤ c) && decide (c ≤ 57))) && (decide (x = Str.ofString "0") || decide (x.cps.toList.head? ≠ some 48))
noncomputable def spNum : Sp := fun vs H Q _ => ∃ (x : Str),vs = [.str x] ∧ x.length ≤ 1000000 ∧ ∀ H',Same H H' → Q (.bl (numOk x)) H'
seal PSs PS PE PT PA PI PIfs in
theorem ok_num (T : Txt K mg) : FnOk P w K mg base CX0 1 T.f_is_number T.d_is_number ["word"] spNum := by
 refine T.F_is_number.ok (k := 0) sc_is_number (fun vs H Q E h => ?_) (fun cdv A outer s H vs Q E hr h => ?_)
 · obtain ⟨x,rfl,_⟩ := h
   rfl
 obtain ⟨x,rfl,hx,q⟩ := h
 have nd := sc_is_number.nd
 refine ⟨_,(pss_cons (ps_if (PW.pt (pw_or (pt_not (pt_chain op_le op_le pe_int (pe_callB call_len_str rfl T.z_len bt_len (pa_cons (pv 0) pa_nil)) (pe_glob (v := .int 4) rfl T.c_MOST_FIGURES ⟨_,rfl⟩))) (pw_or1 (pt_not (pt_val (pe_callB (call_all rfl) rfl T.z_all bt_all (pa_cons (pe_comp (N := ["sign"]) (caps := []) rfl ⟨rfl,rfl,rfl,rfl,by decide +kernel,rfl,rfl,rfl,rfl⟩ (pi_str (pv 0)) (fun _ _ _ _ => pif_nil) (fun _ _ _ _ => (pe_chain op_le_str op_le_str pe_str (pv 0) pe_str))) pa_nil))))))) (pss_one (ps_ret pe_bl)) pss_nil)
  (pss_one (ps_ret (pe_or (pe_cmpR op_eq (pv 0) pe_str (nomark _)) (pe_one (pe_cmpR op_ne (pe_ix ix_str (pv 0) pe_int (fun _ _ => rfl)) pe_str (nomark _))))))),?_⟩
 refine cutC1 fun C hC => ?_
 walk_at "rd"
 have hz : x.length ≤ sizeLine := Nat.le_trans hx (by decide)
 have el : x.cps.toList.length = x.length := by simp [Str.length]
 have no : ∀ b : Bool,numOk x = (false && b) → ∀ H',Same H H' → Q (.bl false) H' := fun b e H' S' => by
  have := q H' S'
  rw [e] at this
  exact this
 refine ⟨hz,ite2 (fun c1 => ?_) (fun c1 => iteT ?_)⟩
 · have c1 : 1 ≤ x.length := by have := of_decide_eq_true c1; (clear hx hC hz el c1; omega)
   refine ite2 (fun c2 => ?_) (fun c2 => ?_)
   · have c2 : ¬ x.length ≤ 4 := fun z => by
      have : decide ((x.length : Int) ≤ 4) = true := decide_eq_true (by (clear hx hC hz el c1 c2; lia))
      rw [this] at c2; cases c2
     exact no true (by unfold numOk; rw [decide_eq_false c2]; simp) H (Same.refl _)
   · have c2 : x.length ≤ 4 := by
      have : decide ((x.length : Int) ≤ 4) = true := by simpa using c2
      have := of_decide_eq_true this
      (clear hx hC hz el c1 c2; omega)
     refine comp_str (fun i ys H' => H' = H ∧ i ≤ x.cps.size ∧ ys = (x.cps.toList.take i).map (fun c => V.bl (decide (48 ≤ c) && decide (c ≤ 57)))) ⟨rfl,Nat.zero_le _,rfl⟩ (Nat.lt_of_le_of_lt c2 (by decide)) (fun i ys H' h => ?_) (fun i c ys H' ec h => ?_) (fun ys H' h p hp => ?_)
     · rw [h.2.2]; simp; (clear hx hC hz el c1 c2 h; lia)
     · obtain ⟨rfl,hi,rfl⟩ := h
       walk_at "rd"
       have hlt : i < x.cps.size := (Array.getElem?_eq_some_iff.mp ec).1
       have ec' : x.cps.toList[i]? = some c := by simpa using ec
       have e : (x.cps.toList.take (i + 1)).map (fun c => V.bl (decide (48 ≤ c) && decide (c ≤ 57))) = (x.cps.toList.take i).map (fun c => V.bl (decide (48 ≤ c) && decide (c ≤ 57))) ++ [V.bl (decide (48 ≤ c) && decide (c ≤ 57))] := by
        rw [List.take_add_one,ec']; simp
       have l1 : (!decide ((Str.mk #[c]).cps.toList < (Str.ofString "0").cps.toList)) = decide (48 ≤ c) := by
        have : (Str.ofString "0").cps.toList = [48] := by decide +kernel
        rw [this]; exact one_ge c 48
       have l2 : (!decide ((Str.ofString "9").cps.toList < (Str.mk #[c]).cps.toList)) = decide (c ≤ 57) := by
        have : (Str.ofString "9").cps.toList = [57] := by decide +kernel
        rw [this]; exact one_ge 57 c
       rw [l1,l2]
       refine ite2 (fun d => ?_) (fun d => ?_)
       · refine ⟨hlt,?_⟩
         rw [e,d]; simp
       · refine ⟨hlt,?_⟩
         have d : decide (48 ≤ c) = false := by simpa using d
         rw [e,d]; simp
     · obtain ⟨rfl,_,rfl⟩ := h
       have ew : x.cps.toList.take x.cps.size = x.cps.toList := List.take_of_length_le (by simp)
       refine ⟨p,rfl,x.cps.toList.map (fun c => decide (48 ≤ c) && decide (c ≤ 57)),SqL.of ?_,?_⟩
       · rw [upd_same,ew,List.map_map]; rfl
       have S1 := same_new hp (.lst ((x.cps.toList.take x.cps.size).map (fun c => V.bl (decide (48 ≤ c) && decide (c ≤ 57)))))
       refine ite2 (fun c3 => ?_) (fun c3 => ?_)
       · refine no true ?_ _ S1
         have c3 : (x.cps.toList.all fun c => decide (48 ≤ c) && decide (c ≤ 57)) = false := by
          rw [List.all_map] at c3
          simpa using c3
         unfold numOk
         rw [c3]; simp
       · rw [hC]
         clear hC C
         walk_at "rd"
         have c3 : (x.cps.toList.all fun c => decide (48 ≤ c) && decide (c ≤ 57)) = true := by
          rw [List.all_map] at c3
          simpa using c3
         have := q _ S1
         unfold numOk at this
         rw [c3,decide_eq_true c1,decide_eq_true c2] at this
         refine ite2 (fun c4 => ?_) (fun c4 => ?_)
         · rw [c4] at this; simpa using this
         · have c4 : decide (x = Str.ofString "0") = false := by simpa using c4
           rw [c4] at this
           obtain ⟨c0,rest,e0⟩ : ∃ c0 rest,x.cps.toList = c0 :: rest := by
            cases hh : x.cps.toList with
            | nil => rw [hh] at el; simp at el; omega
            | cons a r => exact ⟨a,r,rfl⟩
           rw [e0] at this ⊢
           refine ⟨hz,c0,atI_0,?_⟩
           have e48 : decide ((Str.mk #[c0]) = Str.ofString "0") = decide (c0 = 48) := by
            have : Str.ofString "0" = ⟨#[48]⟩ := by decide +kernel
            rw [this,Bool.eq_iff_iff]; simp
           rw [e48]
           simpa using this
 · have c1 : ¬ 1 ≤ x.length := fun z => c1 (decide_eq_true (by (clear hx hC hz el c1; lia)))
   exact no true (by unfold numOk; rw [decide_eq_false c1]; simp) H (Same.refl _)
theorem numOk_num {n : Nat} (h : n < 10000) : numOk (numT n) = true := by
 obtain ⟨f1,f2,f3,f4,_⟩ := num_facts h
 have e : (numT n).length = (numL n).length := by simp [numT,Str.length]
 have e2 : (numT n).cps.toList = numL n := by simp [numT]
 have e3 : decide (numT n = Str.ofString "0") = decide (numL n = [48]) := by
  have : Str.ofString "0" = ⟨([48] : List Nat).toArray⟩ := by decide +kernel
  rw [this]
  refine decide_eq_decide.mpr ⟨fun h => ?_,fun h => ?_⟩
  · have := congrArg (fun z : Str => z.cps.toList) h
    simpa [numT] using this
  · unfold numT; rw [h]
 unfold numOk
 rw [e,e2,e3,decide_eq_true f1,decide_eq_true f2]
 have a : (numL n).all (fun c => decide (48 ≤ c) && decide (c ≤ 57)) = true := by
  rw [List.all_eq_true]
  intro c hc
  have := f3 c hc
  simp; omega
 rw [a]
 rcases f4 with f4 | f4
 · rw [decide_eq_true f4]; rfl
 · rw [decide_eq_true f4]; simp
noncomputable def spWrd : Sp := fun vs H Q _ => ∃ (x : Str),(vs = [.str (Str.ofString "name"),.str x] ∧ nameOk x = true ∧ ∀ H',Same H H' → Q (.str x) H') ∨ ∃ n : Nat,x = numT n ∧ n < 10000 ∧ vs = [.str (Str.ofString "number"),.str x] ∧ ∀ H',Same H H' → Q (.int n) H'
seal PSs PS PE PT PA PI PIfs in
theorem ok_part' (T : Txt K mg) : FnOk P w K mg base CX0 2 T.f_read_part T.d_read_part ["kind","word"] spWrd := by
 refine T.F_read_part.ok (k := 1) sc_read_part (fun vs H Q E h => ?_) (fun cdv A outer s H vs Q E hr h => ?_)
 · obtain ⟨x,⟨rfl,_⟩ | ⟨n,rfl,_,rfl,_⟩⟩ := h <;> rfl
 have nd := sc_read_part.nd
 have G_is_name := (ok_name (P := P) (w := w) (base := base) T).mono (k := 1) (by omega)
 have G_is_number := (ok_num (P := P) (w := w) (base := base) T).mono (k := 1) (by omega)
 obtain ⟨x,⟨rfl,hn,q⟩ | ⟨n,rfl,hn,rfl,q⟩⟩ := h
 · refine ⟨_,(pss_cons (ps_if (PW.pt (pw_and (pt_cmpR op_eq (pv 0) pe_str (nomark _)) (pw_and1 (pt_val (pe_call G_is_name hr rfl T.m_is_name T.F_is_name.kp T.b_is_name .nil pass0 (pa_cons (pv 1) pa_nil)))))) (pss_one (ps_ret (pv 1))) pss_nil)
   (pss_cons (ps_if (PW.pt (pw_and (pt_cmpR op_eq (pv 0) pe_str (nomark _)) (pw_and1 (pt_val (pe_call G_is_number hr rfl T.m_is_number T.F_is_number.kp T.b_is_number .nil pass0 (pa_cons (pv 1) pa_nil)))))) (pss_one (ps_ret (pe_callTy call_intT rfl T.z_int bt_int (pa_cons (pv 1) pa_nil)))) pss_nil)
   (pss_one ps_never))),?_⟩
   walk_at "rd"
   have := nameOk_len hn
   refine iteT ⟨x,rfl,by lia,fun H1 S1 => ⟨_,rfl,?_⟩⟩
   rw [hn]
   exact iteT (q H1 S1)
 · refine ⟨_,(pss_cons (ps_if (PW.pt (pw_and (pt_cmpR op_eq (pv 0) pe_str (nomark _)) (pw_and1 (pt_val (pe_call G_is_name hr rfl T.m_is_name T.F_is_name.kp T.b_is_name .nil pass0 (pa_cons (pv 1) pa_nil)))))) (pss_one (ps_ret (pv 1))) pss_nil)
   (pss_cons (ps_if (PW.pt (pw_and (pt_cmpR op_eq (pv 0) pe_str (nomark _)) (pw_and1 (pt_val (pe_call G_is_number hr rfl T.m_is_number T.F_is_number.kp T.b_is_number .nil pass0 (pa_cons (pv 1) pa_nil)))))) (pss_one (ps_ret (pe_callTy call_intT rfl T.z_int bt_int (pa_cons (pv 1) pa_nil)))) pss_nil)
   (pss_one ps_never))),?_⟩
   walk_at "rd"
   have e : (numT n).length = (numL n).length := by simp [numT,Str.length]
   have := num_facts hn
   rw [decide_eq_false (show ¬ Str.ofString "number" = Str.ofString "name" by decide +kernel)]
   refine iteF (iteT ⟨_,rfl,by lia,fun H1 S1 => ⟨_,rfl,?_⟩⟩)
   rw [numOk_num hn]
   exact iteT ⟨n,rfl,hn,q H1 S1⟩
noncomputable def kindsOf : L2.Deed → List Str
 | .take _ _ => [Str.ofString "name",Str.ofString "number"]
 | .join _ _ _ _ => [Str.ofString "name",Str.ofString "number",Str.ofString "number",Str.ofString "number"]
 | .put _ _ => [Str.ofString "number",Str.ofString "number"]
 | .fetch _ _ => [Str.ofString "number",Str.ofString "number"]
noncomputable def PRel (k w : Str) (v : V) : Prop := (k = Str.ofString "name" ∧ nameOk w = true ∧ v = .str w) ∨ ∃ n : Nat,k = Str.ofString "number" ∧ w = numT n ∧ n < 10000 ∧ v = .int n
inductive PRels : List Str → List Str → List V → Prop
 | nil : PRels [] [] []
 | cons {k w : Str} {v : V} {ks ws : List Str} {vs : List V} : PRel k w v → PRels ks ws vs → PRels (k :: ks) (w :: ws) (v :: vs)
theorem PRels.at {ks ws : List Str} {vs : List V} (h : PRels ks ws vs) : ∀ {i : Nat} {k w : Str},ks[i]? = some k → ws[i]? = some w → ∃ v,vs[i]? = some v ∧ PRel k w v := by
 induction h with
 | nil => intro i k w h; simp at h
 | cons r _ ih =>
  intro i k w h1 h2
  cases i with
  | zero =>
   simp only [List.getElem?_cons_zero,Option.some.injEq] at h1 h2
   subst h1 h2
   exact ⟨_,rfl,r⟩
  | succ i =>
   simp only [List.getElem?_cons_succ] at h1 h2
   obtain ⟨v,e,r⟩ := ih h1 h2
   exact ⟨v,by rw [List.getElem?_cons_succ]; exact e,r⟩
theorem PRels.len {ks ws : List Str} {vs : List V} (h : PRels ks ws vs) : ks.length = ws.length ∧ vs.length = ws.length := by
 induction h with
 | nil => exact ⟨rfl,rfl⟩
 | cons _ _ ih => exact ⟨by simp [ih.1],by simp [ih.2]⟩
theorem prels (d : L2.Deed) (ok : okT d) : PRels (kindsOf d) (deedW d).tail (vDeed d).tail := by
 have nm : ∀ x,nmOf d = some x → PRel (Str.ofString "name") x (.str x) := fun x hx => .inl ⟨rfl,ok.2 x hx,rfl⟩
 have nb : ∀ i ∈ d.bn ++ d.sn,PRel (Str.ofString "number") (intT i) (.int i) := fun i hi => by
  have hb := ok.1 i hi
  obtain ⟨n,rfl⟩ : ∃ n : Nat,i = n := ⟨i.toNat,by lia⟩
  exact .inr ⟨n,rfl,intT_nat n,by omega,rfl⟩
 cases d with
 | take x i => exact .cons (nm x rfl) (.cons (nb i (by simp [M.Deed.bn])) .nil)
 | join f i j l => exact .cons (nm f rfl) (.cons (nb i (by simp [M.Deed.bn])) (.cons (nb j (by simp [M.Deed.bn])) (.cons (nb l (by simp [M.Deed.bn])) .nil)))
 | put i j => exact .cons (nb i (by simp [M.Deed.bn])) (.cons (nb j (by simp [M.Deed.sn])) .nil)
 | fetch i j => exact .cons (nb i (by simp [M.Deed.sn])) (.cons (nb j (by simp [M.Deed.bn])) .nil)
noncomputable def wrdD (d : L2.Deed) : Str := (deedW d).headD (Str.ofString "")
theorem deedW_cons (d : L2.Deed) : deedW d = wrdD d :: (deedW d).tail := by cases d <;> rfl
theorem vDeed_cons (d : L2.Deed) : vDeed d = .str (wrdD d) :: (vDeed d).tail := by cases d <;> rfl
theorem kinds_at (R : Prts P w K mg) (d : L2.Deed) : ∃ t,valV (partsK R.t1 R.t2 R.t3 R.t4) (.inr (wrdD d)) = some (.ref t) ∧ KTup K t ((kindsOf d).map V.str) := by
 have n1 : ¬ (Sum.inr (Str.ofString "take") : Key) = .inr (Str.ofString "join") := by decide +kernel
 have n2 : ¬ (Sum.inr (Str.ofString "take") : Key) = .inr (Str.ofString "put") := by decide +kernel
 have n3 : ¬ (Sum.inr (Str.ofString "take") : Key) = .inr (Str.ofString "fetch") := by decide +kernel
 have n4 : ¬ (Sum.inr (Str.ofString "join") : Key) = .inr (Str.ofString "put") := by decide +kernel
 have n5 : ¬ (Sum.inr (Str.ofString "join") : Key) = .inr (Str.ofString "fetch") := by decide +kernel
 have n6 : ¬ (Sum.inr (Str.ofString "put") : Key) = .inr (Str.ofString "fetch") := by decide +kernel
 cases d with
 | take x i => exact ⟨R.t1,by simp [partsK,valV,wrdD,deedW],R.k1⟩
 | join f i j l => exact ⟨R.t2,by simp [partsK,valV,wrdD,deedW,n1],R.k2⟩
 | put i j => exact ⟨R.t3,by simp [partsK,valV,wrdD,deedW,n2,n4],R.k3⟩
 | fetch i j => exact ⟨R.t4,by simp [partsK,valV,wrdD,deedW,n3,n5,n6],R.k4⟩
noncomputable def spReadD : Sp := fun vs H Q _ => ∃ (d : L2.Deed),vs = [.str (deedT d)] ∧ okT d ∧ ∀ v H',Same H H' → Dt H' (dDeed d) v → Q v H'
seal PSs PS PE PT PA PI PIfs in
theorem ok_readd (T : Txt K mg) (R : Prts P w K mg) : FnOk P w K mg base CX0 3 T.f_read_deed T.d_read_deed ["text"] spReadD := by
 refine T.F_read_deed.ok (k := 2) sc_read_deed (fun vs H Q E h => ?_) (fun cdv A outer s H vs Q E hr h => ?_)
 · obtain ⟨d,rfl,_⟩ := h
   rfl
 obtain ⟨d,rfl,ok,q⟩ := h
 have nd := sc_read_deed.nd
 have G_read_part := ok_part' (P := P) (w := w) (base := base) T
 obtain ⟨t,ht,kt⟩ := kinds_at R d
 refine ⟨_,(pss_cons (ps_let (i := 1) nd rfl (Or.inl rfl) (pe_bm PySem.F.plainAttrs_str PySem.F.slot_str_split PySem.F.type_str_split mt_split (pv 0) (pa_cons pe_str pa_nil)))
  (pss_cons (ps_if (pt_cmp (pc_knotin R.d rfl R.m (pe_ix ixF (pv 1) pe_int (fun _ _ => rfl)))) (pss_one ps_never) pss_nil)
  (pss_cons (ps_let (i := 2) nd rfl (Or.inl rfl) (pe_kget R.d rfl R.m (pe_ix ixF (pv 1) pe_int (fun _ _ => rfl)) (fun _ _ => rfl)))
  (pss_cons (ps_if (pt_cmpR op_ne (pe_callB lenG rfl T.z_len bt_len (pa_cons (pv 1) pa_nil)) (pe_op op_add pe_int (pe_callB call_len_seq rfl T.z_len bt_len (pa_cons (pv 2) pa_nil))) (nomark _)) (pss_one ps_never) pss_nil)
  (pss_one (ps_ret (pe_op op_catD (pe_tup (pa_cons (pe_ix ixF (pv 1) pe_int (fun _ _ => rfl)) pa_nil)) (pe_callTy call_tupF rfl T.z_tuple bt_tuple (pa_cons (pe_comp2 (K := K) (N := ["kind","word"]) (caps := []) rfl rfl ⟨rfl,rfl,rfl,rfl,rfl,by decide +kernel,rfl,rfl,rfl,rfl,rfl⟩ (pi_zipK (K := K) rfl rfl T.z_zip (pa_cons (pv 2) (pa_cons (pe_slice slLG (pv 1) (po_some pe_int) po_none) pa_nil))) (fun _ _ _ _ => pif_nil) (fun _ _ _ _ => (pe_call G_read_part hr rfl T.m_read_part T.F_read_part.kp T.b_read_part .nil pass0 (pa_cons (pv 0) (pa_cons (pv 1) pa_nil))))) pa_nil))))))))),?_⟩
 walk_at "rd"
 have rl := prels d ok
 have ll := rl.len
 have el : (Str.ofString " ").length ≠ 0 := by decide +kernel
 refine ⟨el,by have := (deedT_len ok).1; (clear ht ll el; lia),NewO.mk fun p1 H1 S1 n1 e1 => ?_⟩
 rw [split_deed ok,deedW_cons d,List.map_cons] at e1
 refine ⟨p1,rfl,_,items_l e1,_,atI_0,.inr (wrdD d),rfl,?_⟩
 rw [ht]
 refine iteF ⟨p1,rfl,_,items_l e1,_,atI_0,.inr (wrdD d),rfl,_,ht,p1,rfl,_,items_l e1,t,rfl,_,.inr (kt.sq H1),?_⟩
 have lk : (((V.str (wrdD d) :: List.map V.str (deedW d).tail).length : Nat) : Int) = 1 + ((((kindsOf d).map V.str).length : Nat) : Int) := by rw [List.length_cons,List.length_map,List.length_map]; lia
 rw [decide_eq_true lk]
 have l4 : (kindsOf d).length ≤ 4 := by cases d <;> simp [kindsOf]
 have ecut : cutV (V.str (wrdD d) :: List.map V.str (deedW d).tail) (some 1) none = List.map V.str (deedW d).tail := by
  have := cutV_from (xs := V.str (wrdD d) :: List.map V.str (deedW d).tail) (p := 1) (by simp)
  exact this
 refine iteF ⟨p1,rfl,_,items_l e1,_,atI_0,by decide,NewO.mk fun p2 H2 S2 n2 e2 => ⟨p1,rfl,_,S2 _ _ e1,NewO.mk fun p3 H3 S3 n3 e3 => ⟨_,_,⟨rfl,rfl⟩,?_⟩⟩⟩
 rw [ecut] at e3
 refine WalkK.comp (p := .t t) (q := .l p3) (kt.sq H3) (SqL.of e3) (by rw [List.length_map,List.length_map]; lia) (fun i ys H' => ys = (vDeed d).tail.take i) (by simp) (by rw [List.length_map]; (clear ht ll el n1 e1 lk e2 n3 e3 n2 ecut; lia)) (fun i ys H' h => by rw [h]; simp; (clear ht ll el n1 e1 lk l4 ecut n2 e2 n3 e3 h; lia)) (fun i x z ys H' ex ez S' h => ?_) (fun p4 ys H4 H5 S4 S5 h n5 e5 => ?_)
 · obtain ⟨Hx,_,_,h⟩ := h
   rw [List.getElem?_map] at ex ez
   obtain ⟨k,ek,rfl⟩ := Option.map_eq_some_iff.mp ex
   obtain ⟨z,ew,rfl⟩ := Option.map_eq_some_iff.mp ez
   obtain ⟨v,ev,r⟩ := rl.at ek ew
   have enx : ys ++ [v] = (vDeed d).tail.take (i + 1) := by rw [List.take_add_one,ev,h]; rfl
   walk_at "rd"
   refine ⟨_,rfl,_,rfl,z,?_⟩
   rcases r with ⟨rfl,hn,rfl⟩ | ⟨n,rfl,rfl,hn,rfl⟩
   · exact .inl ⟨rfl,hn,fun H6 S6 => ⟨S'.trans S6,enx⟩⟩
   · exact .inr ⟨n,rfl,hn,rfl,fun H6 S6 => ⟨S'.trans S6,enx⟩⟩
 · have e6 : ys = (vDeed d).tail := by rw [h]; exact List.take_of_length_le (by rw [List.length_map]; lia)
   rw [e6] at e5
   have l5 : (vDeed d).tail.length ≤ 4 := by lia
   refine ⟨p4,rfl,_,e5,NewO.mk fun p6 H6 S6 n6 e7 => ⟨p2,rfl,p6,rfl,_,S6 _ _ (S5 _ _ (S4 _ _ (S3 _ _ e2))),_,e7,small_le (by rw [List.length_singleton]; (clear ht ll el n1 e1 lk l4 ecut n2 e2 n3 e3 h n5 e5 e7 n6 e6; lia)),fun p7 H7 S7 e8 => ?_⟩⟩
   have e9 : H7 p7 = some (.tup (vDeed d)) := by rw [vDeed_cons d]; exact e8
   exact q _ H7 ((((((S1.trans S2).trans S3).trans S4).trans S5).trans S6).trans S7) (deed_mk e9)
noncomputable def spReadR : Sp := fun vs H Q _ => ∃ (row : List L2.Deed),vs = [.str (rowT row)] ∧ row.length ≤ 1000 ∧ (∀ d ∈ row,okT d) ∧ ∀ p rs H',Same H H' → H' p = some (.lst rs) → Dts H' (row.map dDeed) rs → Q (.ref p) H'
theorem rowT_empty {row : List L2.Deed} (h : row ≠ []) : rowT row ≠ Str.ofString "" := fun e => by
 obtain ⟨d,r,rfl⟩ : ∃ d r,row = d :: r := by
  cases row with
  | nil => exact absurd rfl h
  | cons d r => exact ⟨d,r,rfl⟩
 have e1 : (rowT (d :: r)).cps.toList = [] := by rw [e]; decide +kernel
 have e2 : (rowT (d :: r)).cps.toList = jn [59,32] (((d :: r).map deedT).map fun z => z.cps.toList) := by
  unfold rowT Txt.join
  rw [StrLaws.glued_eq_join,jn_cps,sep2]
 have e3 : (deedT d).cps.toList = jn [32] ((deedW d).map fun z => z.cps.toList) := by
  unfold deedT Txt.join
  rw [StrLaws.glued_eq_join,jn_cps,sep1]
 have e4 : (deedT d).cps.toList ≠ [] := by
  rw [e3]
  cases d <;> simp [deedW,jn]
 rw [e2] at e1
 cases r with
 | nil => exact e4 e1
 | cons a r => simp only [List.map_cons,jn,List.append_eq_nil_iff] at e1; exact e4 e1.1.1
seal PSs PS PE PT PA PI PIfs in
theorem ok_readr (T : Txt K mg) (R : Prts P w K mg) : FnOk P w K mg base CX0 4 T.f_read_row T.d_read_row ["text"] spReadR := by
 refine T.F_read_row.ok (k := 3) sc_read_row (fun vs H Q E h => ?_) (fun cdv A outer s H vs Q E hr h => ?_)
 · obtain ⟨row,rfl,_⟩ := h
   rfl
 obtain ⟨row,rfl,hl,ok,q⟩ := h
 have nd := sc_read_row.nd
 have G_read_deed := ok_readd (P := P) (w := w) (base := base) T R
 refine ⟨_,(pss_cons (ps_if (pt_cmpR op_eq (pv 0) pe_str (nomark _)) (pss_one (ps_ret (pe_lst pa_nil))) pss_nil)
  (pss_one (ps_ret (pe_comp (N := ["deed"]) (caps := []) rfl ⟨rfl,rfl,rfl,rfl,by decide +kernel,rfl,rfl,rfl,rfl⟩ (piL (pe_bm PySem.F.plainAttrs_str PySem.F.slot_str_split PySem.F.type_str_split mt_split (pv 0) (pa_cons pe_str pa_nil))) (fun _ _ _ _ => pif_nil) (fun _ _ _ _ => (pe_call G_read_deed hr rfl T.m_read_deed T.F_read_deed.kp T.b_read_deed .nil pass0 (pa_cons (pv 0) pa_nil))))))),?_⟩
 walk_at "rd"
 by_cases h0 : row = []
 · subst h0
   rw [decide_eq_true (show rowT [] = Str.ofString "" by decide +kernel)]
   exact iteT ⟨Nat.zero_le _,NewO.mk fun p1 H1 S1 n1 e1 => q p1 [] H1 S1 e1 .nil⟩
 · rw [decide_eq_false (rowT_empty h0)]
   have el : (Str.ofString "; ").length ≠ 0 := by decide +kernel
   have lr := rowT_len ok
   refine iteF ⟨el,by lia,NewO.mk fun p1 H1 S1 n1 e1 => ?_⟩
   rw [split_row h0 ok] at e1
   refine WalkL.comp e1 (fun i ys H' => Dts H' ((row.take i).map dDeed) ys) .nil (by simp; lia) (fun i ys H' h => by have := h.length; rw [List.length_map] at this; simp at this; (clear hl h0 el lr n1 e1; lia)) (fun i x ys H' ex S' h => ?_) (fun p2 ys H2 H3 S2 S3 h n3 e3 => ?_)
   · have hi : i < row.length := by have := (List.getElem?_eq_some_iff.mp ex).1; simpa using this
     have e0 : row[i]? = some row[i] := List.getElem?_eq_getElem hi
     rw [List.getElem?_map,List.getElem?_map,e0] at ex
     cases ex
     have okd := ok _ (List.getElem_mem hi)
     generalize row[i] = d at e0 okd
     walk_at "rd"
     refine ⟨d,rfl,okd,fun v H4 S4 dv => ⟨S'.trans S4,?_⟩⟩
     rw [List.take_add_one,e0,List.map_append]
     exact (h.same S4).append (.one dv)
   · rw [List.length_map,List.length_map,List.take_length] at h
     exact q p2 ys H3 ((S1.trans S2).trans S3) e3 (h.same S3)
theorem wt_place {t : L2.Tree} (nd : t.lv.Nodup) : ∀ (u : L2.Tree) (p : List Nat),t.sub p = some u → Wt (fun x => M.firstOf x (t.wk [])) (M.over t) u = some p
 | .leaf x,p,h => by
  have hm := M.sub_wk t [] p _ h
  have e := M.Tr.wk_lv t []
  exact M.firstOf_some (by rw [e]; exact nd) (by simpa using hm)
 | .knot f l r,p,h => by
  have h0 : t.sub (p ++ [0]) = some l := by rw [M.Tr.sub_app,h]; simp [M.Tr.sub]
  have h1 : t.sub (p ++ [1]) = some r := by rw [M.Tr.sub_app,h]; simp [M.Tr.sub]
  show M.over t f (Wt _ _ l) (Wt _ _ r) = some p
  rw [wt_place nd l _ h0,wt_place nd r _ h1]
  have hd : (p ++ [0]).dropLast = p := by simp
  have hk : M.knotAt t f p = true := by unfold M.knotAt; rw [h]; simp
  simp only [M.over,hd]
  rw [if_pos ⟨trivial,trivial,hk⟩]
theorem told_held {t : L2.Tree} (nd : t.lv.Nodup) {k m : Nat} (hk : 2 ≤ k) (hm : cM k t ≤ m) (st : MS) (l1 : st.1.length = k) (l2 : st.2.length = m) : M.held ((rowInto k t 0 0).foldl (M.mark t) st).1 [] = true := by
 have h := (row_run (z := none) (tk := fun x => M.firstOf x (t.wk [])) (jn := M.over t) k m hk t 0 0 st l1 l2 (.inl rfl) (by (clear l1 l2 hk; lia))).1
 have hs : t.sub [] = some t := by cases t <;> rfl
 rw [wt_place nd t [] hs] at h
 have hl := (fold_len (z := none) (tk := fun x => M.firstOf x (t.wk [])) (jn := M.over t) (rowInto k t 0 0) st).1
 change ((rowInto k t 0 0).foldl (M.mark t) st).1.getD 0 none = some [] at h
 change ((rowInto k t 0 0).foldl (M.mark t) st).1.length = _ at hl
 generalize (rowInto k t 0 0).foldl (M.mark t) st = s2 at h hl
 rw [M.held_mem]
 cases hc : s2.1 with
 | nil => rw [hc] at hl; simp at hl; (clear hs h hm l2 hc; lia)
 | cons a r =>
  rw [hc] at h
  have h : a = some [] := by simpa using h
  rw [h]; simp
theorem moms_last (t : L2.Tree) : ∀ (row : List L2.Deed) (st : MS) (pre : List MS) (s1 : MS),moms t st row = pre ++ [s1] → s1 = row.foldl (M.mark t) st
 | [],st,pre,s1,h => by
  cases pre with
  | nil => simp [moms] at h; exact h.symm
  | cons a pre => simp [moms] at h
 | d :: row,st,pre,s1,h => by
  cases pre with
  | nil => simp [moms] at h; exact absurd h.2 (moms_ne _ _ _)
  | cons a pre =>
   simp only [moms,List.cons_append,List.cons.injEq] at h
   rw [List.foldl_cons]
   exact moms_last t row _ pre s1 h.2
noncomputable def figV (row : List L2.Deed) : List V := [.int (cnt (Str.ofString "take") row),.int (cnt (Str.ofString "join") row),.int (cnt (Str.ofString "put") row),.int (cnt (Str.ofString "fetch") row)]
noncomputable def spFig : Sp := fun vs H Q _ => ∃ (row : List L2.Deed) (pr : Addr) (rs : List V),vs = [.ref pr] ∧ H pr = some (.lst rs) ∧ Dts H (row.map dDeed) rs ∧ row.length ≤ 1000 ∧ ∀ p H',Same H H' → H' p = some (.tup (figV row)) → Q (.ref p) H'
seal PSs PS PE PT PA PI PIfs in
theorem ok_fig (T : Txt K mg) : FnOk P w K mg base CX0 1 T.f_figures T.d_figures ["row"] spFig := by
 refine T.F_figures.ok (k := 0) sc_figures (fun vs H Q E h => ?_) (fun cdv A outer s H vs Q E hr h => ?_)
 · obtain ⟨row,pr,rs,rfl,_⟩ := h
   rfl
 obtain ⟨row,pr,rs,rfl,er,dr,hl,q⟩ := h
 have nd := sc_figures.nd
 refine ⟨_,(pss_cons (ps_let (i := 1) nd rfl (Or.inr rfl) (pe_comp (N := ["deed"]) (caps := []) rfl ⟨rfl,rfl,rfl,rfl,by decide +kernel,rfl,rfl,rfl,rfl⟩ (piL (pv 0)) (fun _ _ _ _ => pif_nil) (fun _ _ _ _ => (pe_ix ixF (pv 0) pe_int (fun _ _ => rfl)))))
  (pss_one (ps_ret (pe_callTy call_tupF rfl T.z_tuple bt_tuple (pa_cons (pe_comp (N := ["kind","kinds"]) (caps := [1]) rfl ⟨rfl,rfl,rfl,rfl,by decide +kernel,rfl,rfl,rfl,rfl⟩ (piT (pe_tup (pa_cons pe_str (pa_cons pe_str (pa_cons pe_str (pa_cons pe_str pa_nil)))))) (fun _ _ _ _ => pif_nil) (fun _ _ _ _ => (pe_bmK (K := K) rfl PySem.F.plainAttrs_list PySem.F.slot_list_count PySem.F.type_list_count mt_countS (pv 1) (pa_cons (pv 0) pa_nil)))) pa_nil))))),?_⟩
 refine cutC1 fun C hC => ?_
 walk_at "rd"
 have lr := dr.length
 rw [List.length_map] at lr
 refine WalkL.comp er (fun i ys H' => ys = ((row.take i).map wordD).map V.str) rfl (by lia) (fun i ys H' h => by rw [h]; simp; (clear er hl hC lr h; lia)) (fun i x ys H' ex S' h => ?_) (fun p1 ys H1 H2 S1 S2 h n2 e2 => ?_)
 · have hi : i < row.length := by have := (List.getElem?_eq_some_iff.mp ex).1; lia
   have e0 : row[i]? = some row[i] := List.getElem?_eq_getElem hi
   obtain ⟨y,hy,dy⟩ := Dts.map_of dr e0
   rw [ex] at hy; cases hy
   generalize row[i] = d at e0 dy
   obtain ⟨b,rfl,eb⟩ := deed_of (dy.same S')
   obtain ⟨r0,ev⟩ := vDeed_0 d
   rw [ev] at eb
   walk_at "rd"
   refine ⟨_,items_t eb,_,atI_0,S',?_⟩
   rw [h,List.take_add_one,e0]; simp
 · rw [lr,List.take_length] at h
   rw [h] at e2
   rw [hC]
   clear hC C
   walk_at "rd"
   have cw : ∀ x : Str,((row.map wordD).countP fun y => decide (y = x)) = cnt x row := fun x => by rw [List.countP_map]; rfl
   refine ⟨by decide,NewO.mk fun p3 H3 S3 n3 e3 => ?_⟩
   refine WalkT.comp e3 (fun i ys H' => ys = (figV row).take i) rfl (by decide) (fun i ys H' h => by rw [h,List.length_take]; (clear er hl lr n2 e2 n3 e3 h; lia)) (fun i x ys H' ex S' h => ?_) (fun p4 ys H4 H5 S4 S5 h n5 e5 => ?_)
   · have e2' := S' _ _ (S3 _ _ e2)
     have hi : i < 4 := by have := (List.getElem?_eq_some_iff.mp ex).1; simpa using this
     walk_at "rd"
     rcases (show i = 0 ∨ i = 1 ∨ i = 2 ∨ i = 3 by (clear er hl lr n2 e2 n3 h e2' ex; lia)) with rfl | rfl | rfl | rfl
     all_goals
      cases ex
      refine ⟨ty_lst e2',_,_,rfl,e2',S',?_⟩
      rw [cw,h]; rfl
   · have h : ys = figV row := h
     rw [h] at e5
     exact ⟨p4,rfl,_,e5,NewO.mk fun p6 H6 S6 n6 e6 => q p6 H6 (((((S1.trans S2).trans S3).trans S4).trans S5).trans S6) e6⟩
theorem dFour_of' {H : Hp} {a b c d : Int} {v : V} (h : Dt H (dFour a b c d) v) : ∃ p,v = .ref p ∧ H p = some (.tup [.int a,.int b,.int c,.int d]) := by
 obtain ⟨p,vs,rfl,e,h⟩ := isD_tup.mp h
 obtain ⟨v1,r,rfl,h1,h⟩ := isDs_cons.mp h
 obtain ⟨v2,r,rfl,h2,h⟩ := isDs_cons.mp h
 obtain ⟨v3,r,rfl,h3,h⟩ := isDs_cons.mp h
 obtain ⟨v4,r,rfl,h4,h⟩ := isDs_cons.mp h
 rw [isDs_nil.mp h,isD_int.mp h1,isD_int.mp h2,isD_int.mp h3,isD_int.mp h4] at e
 exact ⟨p,rfl,e⟩
noncomputable def moreL (t : L2.Tree) (k : Nat) (row : List L2.Deed) : List Int := [(cnt (Str.ofString "take") row : Int) - (nK t + 1 : Nat),(cnt (Str.ofString "join") row : Int) - nK t,(cnt (Str.ofString "put") row : Int) - (mustP t k).length,(cnt (Str.ofString "fetch") row : Int) - (mustP t k).length]
noncomputable def endS (t : L2.Tree) (k : Nat) (row : List L2.Deed) : MS := row.foldl (M.mark t) (new2 k 100)
noncomputable def spJudge (T : Txt K mg) : Sp := fun vs H Q _ => ∃ (z : Str) (t : L2.Tree) (k : Nat) (row : List L2.Deed),vs = [.str z,.int k,.str (rowT row)] ∧ z.length ≤ 50000 ∧ z.cps.toList = txL t ∧ t.dp ≤ 24 ∧ t.lv.length ≤ 32 ∧ (∀ x ∈ t.lv,nameOk x = true) ∧ (∀ x ∈ t.kn,nameOk x = true) ∧ t.lv.Nodup ∧ 2 ≤ k ∧ k ≤ 10 ∧ row.length ≤ 1000 ∧ (∀ d ∈ row,okT d) ∧ okRow k 100 row ∧
 (M.held (endS t k row).1 [] = false → ∀ H',Same H H' → Q (.str (Str.ofString "not held")) H') ∧ (M.held (endS t k row).1 [] = true → (moreL t k row).any (fun j => j != 0) = false → ∀ H',Same H H' → Q (.str (Str.ofString "least")) H') ∧
 (M.held (endS t k row).1 [] = true → (moreL t k row).any (fun j => j != 0) = true → ∀ H',Same H H' → Q (.str (Str.ofString "held " ++ Txt.join (Str.ofString " ") ((moreL t k row).map intT))) H')
seal PSs PS PE PT PA PI PIfs in
theorem ok_judge (T : Txt K mg) (R : Prts P w K mg) : FnOk P w K mg base (CXE P w) 40 T.f_judge T.d_judge ["text","k","rowtext"] (spJudge T) := by
 refine T.F_judge.okE (k := 39) sc_judge (fun vs H Q E h => ?_) (fun cdv A outer s H vs Q E hr h L => ?_)
 · obtain ⟨z,t,k,row,rfl,_⟩ := h
   rfl
 obtain ⟨z,t,k,row,rfl,hz,ez,hd,hlen,nm1,nm2,ndp,hk2,hk10,hrl,okt,okr,q1,q2,q3⟩ := h
 have nd := sc_judge.nd
 have G_read := (ok_read0 (P := P) (w := w) (base := base) T).mono (k := 39) (by omega)
 have G_read_row := (ok_readr (P := P) (w := w) (base := base) T R).mono (k := 39) (by omega)
 have G_least := (ok_least (P := P) (w := w) (base := base) T).mono (k := 39) (by omega)
 have G_moments := (ok_mom (P := P) (w := w) (base := base) T).mono (k := 39) (by omega)
 have G_formula_held := (ok_heldF (P := P) (w := w) (base := base) T).mono (k := 39) (by omega)
 have G_figures := (ok_fig (P := P) (w := w) (base := base) T).mono (k := 39) (by omega)
 refine ⟨_,(pss_cons (ps_let (i := 3) nd rfl (Or.inl rfl) (pe_call G_read hr rfl T.m_read T.F_read.kp T.b_read .nil pass0 (pa_cons (pv 0) pa_nil)))
  (pss_cons (ps_let (i := 4) nd rfl (Or.inl rfl) (pe_call G_read_row hr rfl T.m_read_row T.F_read_row.kp T.b_read_row .nil pass0 (pa_cons (pv 2) pa_nil)))
  (pss_cons (ps_let (i := 5) nd rfl (Or.inl rfl) (pe_call G_least hr rfl T.m_least T.F_least.kp T.b_least .nil (passE L) (pa_cons (pv 3) (pa_cons (pv 1) pa_nil))))
  (pss_cons (ps_let (i := 6) nd rfl (Or.inl rfl) (pe_call G_moments hr rfl T.m_moments T.F_moments.kp T.b_moments .nil (passE L) (pa_cons (pv 3) (pa_cons (pe_callB (call_min2 rfl) rfl T.z_min bt_min (pa_cons (pv 1) (pa_cons (pe_glob (v := .int 10000) rfl T.c_BOXES_TOLD ⟨_,rfl⟩) pa_nil))) (pa_cons (pe_glob (v := .int 100) rfl T.c_SHELF_PLACES ⟨_,rfl⟩) (pa_cons (pv 4) pa_nil))))))
  (pss_cons (ps_if (pt_not (pt_val (pe_call G_formula_held hr rfl T.m_formula_held T.F_formula_held.kp T.b_formula_held .nil pass0 (pa_cons (pe_ix ixF (pv 6) (pe_un un_neg pe_int) (fun _ _ => rfl)) pa_nil)))) (pss_one (ps_ret pe_str)) pss_nil)
  (pss_cons (ps_letC2 (K := K) (i := 7) (N := ["has","need"]) (caps := []) rfl rfl ⟨rfl,rfl,rfl,rfl,rfl,by decide +kernel,rfl,rfl,rfl,rfl,rfl⟩ (pi_zipK (K := K) rfl rfl T.z_zip (pa_cons (pe_call G_figures hr rfl T.m_figures T.F_figures.kp T.b_figures .nil pass0 (pa_cons (pv 4) pa_nil)) (pa_cons (pv 5) pa_nil))) (fun _ _ _ _ => pif_nil) (fun _ _ _ _ => (pe_op op_sub (pv 0) (pv 1))) nd rfl rfl rfl)
  (pss_cons (ps_if (pt_not (pt_val (pe_callB (call_anyI rfl) rfl T.z_any bt_any (pa_cons (pv 7) pa_nil)))) (pss_one (ps_ret pe_str)) pss_nil)
  (pss_cons (ps_let (i := 8) nd rfl (Or.inl rfl) (pe_bm PySem.F.plainAttrs_str PySem.F.slot_str_join PySem.F.type_str_join mt_join pe_str (pa_cons (pe_comp (N := ["number"]) (caps := []) rfl ⟨rfl,rfl,rfl,rfl,by decide +kernel,rfl,rfl,rfl,rfl⟩ (piL (pv 7)) (fun _ _ _ _ => pif_nil) (fun _ _ _ _ => (pe_callTy call_strV rfl T.z_str bt_str (pa_cons (pv 0) pa_nil)))) pa_nil)))
  (pss_one (ps_ret (pe_js (.cons pe_str (.cons (pe_fmtS (pv 8)) .nil))))))))))))),?_⟩
 refine cutC4 fun C hC => ?_
 walk_at "rd"
 refine ⟨z,t,rfl,hz,ez,hd,hlen,nm1,nm2,ndp,fun v H1 S1 dv => ?_⟩
 refine ⟨row,rfl,hrl,okt,fun pr rs H2 S2 er dr => ?_⟩
 have nf : ¬ few t (k : Int) := fun h => by unfold few at h; (clear hz ez hd hlen q2 q3 hC er hrl q1 hk10; lia)
 refine ⟨t,k,v,rfl,dv.same S2,hd,hlen,Nat.lt_of_le_of_lt (Nat.log2_le_self _) (by (clear q1 q2 q3 hC er nf hz ez hd hlen hrl hk2; omega)),fun h => absurd h nf,fun _ v4 H3 S3 d4 => ⟨_,_,⟨rfl,rfl⟩,?_⟩⟩
 rw [if_neg (show ¬ (10000 : Int) < k by (clear q1 q2 q3 hC er nf hz ez hd hlen hrl hk2; lia))]
 refine ⟨t,k,100,row,v,pr,rs,rfl,(dv.same S2).same S3,hd,hlen,by (clear q1 q2 q3 hC er nf hz ez hd hlen hrl hk2; lia),by omega,by (clear q1 q2 q3 hC er nf hz ez hd hlen hk2 hk10; lia),S3 _ _ er,dr.same S3,fun _ => ?_,fun y => absurd okr y⟩
 intro p vs l b s1 ws us G H4 st pre hsts SG SG4 gp ep dpre el gb gs hbs hbp hsp eb es db ds
 have S34 := SG.trans SG4
 have est : st = endS t k row := moms_last t row _ pre st hsts
 have S04 := ((S1.trans S2).trans S3).trans S34
 have er4 := S34 _ _ (S3 _ _ er)
 have dr4 := (dr.same S3).same S34
 obtain ⟨pf,rfl,ef⟩ := dFour_of' (d4.same S34)
 rw [← est] at q1 q2 q3
 rw [hC]
 clear hC C
 refine cutC1 fun C hC => ?_
 walk_at "rd"
 refine ⟨_,items_l ep,_,atI_last vs _,st,_,rfl,st_mk el eb es db ds,fun H5 S5 => ⟨_,rfl,?_⟩⟩
 cases hh : M.held st.1 [] with
 | false => exact iteT (q1 hh _ (S04.trans S5))
 | true =>
 refine iteF ?_
 rw [hC]
 clear hC C
 refine cutC1 fun C hC => ?_
 walk_at "rd"
 refine ⟨row,pr,rs,rfl,S5 _ _ er4,dr4.same S5,hrl,fun p6 H6 S6 e6 => ⟨_,_,⟨rfl,rfl⟩,?_⟩⟩
 have ef6 := S6 _ _ (S5 _ _ ef)
 refine WalkK.comp (p := .t p6) (q := .t pf) (SqT.of e6) (SqT.of ef6) rfl (fun i ys H' => ys = ((moreL t k row).map V.int).take i) rfl (show 4 ≤ 100000 by decide) (fun i ys H' h => by rw [h,List.length_take]; (clear hz ez hd hlen hk2 hk10 hrl er nf q3 q2 q1 hsts gp ep el gb gs hbs hbp hsp eb es est er4 ef hh hC e6 ef6 h; lia)) (fun i x y ys H' ex ey S' h => ?_) (fun p7 ys H7 H8 S7 S8 h n8 e8 => ?_)
 · obtain ⟨Hx,_,_,h⟩ := h
   have hi : i < 4 := by have := (List.getElem?_eq_some_iff.mp ex).1; simpa [figV] using this
   walk_at "rd"
   refine ⟨_,rfl,_,rfl,?_⟩
   rcases (show i = 0 ∨ i = 1 ∨ i = 2 ∨ i = 3 by (clear hz ez hd hlen hk2 hk10 hrl er nf q3 q2 q1 hsts gp ep el gb es est er4 ef hh hC e6 ef6 ex ey hsp eb h hbs hbp; lia)) with rfl | rfl | rfl | rfl
   all_goals
    cases ex
    cases ey
    refine ⟨_,rfl,_,rfl,S',?_⟩
    rw [h]; rfl
 · have h : ys = (moreL t k row).map V.int := h
   rw [h] at e8
   rw [hC]
   clear hC C
   refine cutC1 fun C hC => ?_
   walk_at "rd"
   have S48 := ((S5.trans S6).trans S7).trans S8
   refine ⟨_,SqL.of e8,?_⟩
   cases ha : (moreL t k row).any fun j => j != 0 with
   | false => exact iteT (q2 hh ha _ (S04.trans S48))
   | true =>
   refine iteF ?_
   rw [hC]
   clear hC C
   walk_at "rd"
   have cl : ∀ x,cnt x row ≤ 1000 := fun x => Nat.le_trans List.countP_le_length hrl
   have nk := nK_lv2 t
   have mk : (mustP t k).length ≤ 1000 := by
    have := List.length_filter_le (mustQ k) (t.wk [])
    have w := t.wk_len []
    have e : (mustP t k).length = ((t.wk []).filter (mustQ k)).length := List.length_map ..
    (clear q2 q1 hsts gp ep el gb gs hbs hbp hsp eb es est er4 ef hh e6 ef6 n8 hk10 hrl er nf q3 hz ez hd h ha nk hk2 e8; lia)
   have bd : ∀ j ∈ moreL t k row,j.natAbs < 10000 := fun j hj => by
    simp only [moreL,List.mem_cons,List.not_mem_nil,or_false] at hj
    have c1 := cl (Str.ofString "take")
    have c2 := cl (Str.ofString "join")
    have c3 := cl (Str.ofString "put")
    have c4 := cl (Str.ofString "fetch")
    rcases hj with rfl | rfl | rfl | rfl <;> (clear hsp eb es est er4 ef hh e6 ef6 n8 hk10 hrl er nf q3 q2 q1 hsts gp ep el gb gs hbs hbp hz ez hd e8 h hk2 ha; omega)
   have sl : ∀ n : Nat,n ≤ 100000 → n ≤ sizeLine := fun n h => Nat.le_trans h (by decide)
   have il : ∀ j ∈ moreL t k row,(intT j).length ≤ 2000 := fun j hj => by
    have := lg4 (bd j hj)
    have := PyProof.Rows.int_text_len_1921 (i := j) (by (clear hz ez hd hlen hk2 hk10 hrl er nf q3 q2 q1 hsts gp ep el gb gs hbs hbp hsp eb es est er4 ef hh e6 ef6 n8 e8 h ha nk mk; lia))
    unfold intT; (clear hz ez hd hlen hk2 hk10 hrl er nf q3 q2 q1 hsts gp ep el gb gs hbs hbp hsp eb es est er4 ef hh e6 ef6 n8 e8 h ha nk mk; lia)
   refine WalkL.comp e8 (fun i ys H' => ys = (((moreL t k row).take i).map intT).map V.str) rfl (show 4 ≤ 100000 by decide) (fun i ys H' h => by rw [h]; simp; (clear hz ez hd hlen hk2 hk10 hrl er nf q3 q2 q1 hsts gp ep el gb gs hbs hbp hsp eb es est er4 ef hh e6 ef6 n8 e8 ha nk mk h; lia)) (fun i x ys H' ex S' h => ?_) (fun p9 ys H9 HA S9 SA h nA eA => ?_)
   · rw [List.getElem?_map] at ex
     obtain ⟨j,ej,rfl⟩ := Option.map_eq_some_iff.mp ex
     walk_at "rd"
     refine .inr ⟨lg4 (bd j (List.mem_of_getElem? ej)),S',?_⟩
     rw [h,List.take_add_one,ej]; simp
   · have h : ys = ((moreL t k row).map intT).map V.str := h
     rw [h] at eA
     have hsum : (((moreL t k row).map intT).map (·.length)).sum ≤ 8000 := by
      have h4 : ∀ l : List Int,(∀ j ∈ l,(intT j).length ≤ 2000) → ((l.map intT).map (·.length)).sum ≤ 2000 * l.length := by
       intro l
       induction l with
       | nil => intro _; simp
       | cons a l ih =>
        intro h
        have a1 := h a (by simp)
        have a2 := ih fun j hj => h j (by simp [hj])
        simp only [List.map_cons,List.sum_cons,List.length_cons] at a2 ⊢
        (clear hz ez hd hlen hk2 hk10 hrl er nf q3 q2 q1 hsts gp ep el gb gs hbs hbp hsp eb es est er4 ef hh e6 ef6 n8 e8 ha nk mk nA eA ih; lia)
      exact h4 _ il
     have jl : (Txt.join (Str.ofString " ") ((moreL t k row).map intT)).length ≤ 9000 := by
      have e : (Txt.join (Str.ofString " ") ((moreL t k row).map intT)).cps.toList = jn [32] (((moreL t k row).map intT).map fun z => z.cps.toList) := by
       unfold Txt.join
       rw [StrLaws.glued_eq_join,jn_cps,sep1]
      have h1 := len_jn [32] (((moreL t k row).map intT).map fun z => z.cps.toList)
      rw [← e] at h1
      have h3 : ((((moreL t k row).map intT).map fun z => z.cps.toList).map List.length) = ((moreL t k row).map intT).map (·.length) := by rw [List.map_map]; rfl
      rw [h3] at h1
      have h4 : (((moreL t k row).map intT).map fun z : Str => z.cps.toList).length = 4 := rfl
      rw [h4] at h1
      have h5 : (Txt.join (Str.ofString " ") ((moreL t k row).map intT)).cps.toList.length = (Txt.join (Str.ofString " ") ((moreL t k row).map intT)).length := by simp [Str.length]
      simp only [List.length_cons,List.length_nil] at h1
      (clear hz ez hd hlen hk2 hk10 hrl er nf q3 q2 q1 hsts gp ep el gb gs hbs hbp hsp eb es est er4 ef hh e6 ef6 n8 e8 ha nk mk nA eA h3 h4 h e; lia)
     have e1 : (Str.ofString " ").length = 1 := by decide +kernel
     have ee : Str.empty ++ Str.ofString "held " = Str.ofString "held " := by decide +kernel
     have e5 : (Str.ofString "held ").length = 5 := by decide +kernel
     have ea : (Str.ofString "held " ++ Txt.join (Str.ofString " ") ((moreL t k row).map intT)).length = 5 + (Txt.join (Str.ofString " ") ((moreL t k row).map intT)).length := by rw [← e5]; simp only [Str.length,Str.cps_append,Array.size_append]
     refine ⟨p9,rfl,(moreL t k row).map intT,.inl (SqL.of eA),by rw [e1]; have : ((moreL t k row).map intT).length = 4 := rfl; (clear hz ez hd hlen hk2 hk10 hrl er nf q3 q2 q1 hsts gp ep el gb gs hbs hbp hsp eb es est er4 ef hh e6 ef6 n8 e8 ha nk mk nA eA e1 ee e5 jl ea h; lia),?_⟩
     rw [ee,ea]
     exact ⟨sl _ (by (clear hz ez hd hlen hk2 hk10 hrl er nf q3 q2 q1 hsts gp ep el gb gs hbs hbp hsp eb es est er4 ef hh e6 ef6 n8 e8 ha nk mk nA eA h hsum jl e1 ee; lia)),sl _ (by (clear hz ez hd hlen hk2 hk10 hrl er nf q3 q2 q1 hsts gp ep el gb gs hbs hbp hsp eb es est er4 ef hh e6 ef6 n8 e8 ha nk e1 ee e5 ea mk nA eA h hsum; lia)),sl _ (by (clear hz ez hd hlen hk2 hk10 hrl er nf q3 q2 q1 hsts gp ep el gb gs hbs hbp hsp eb es est er4 ef hh e6 ef6 n8 e8 ha nk e1 ee e5 ea mk nA eA h hsum; lia)),sl _ (by (clear hz ez hd hlen hk2 hk10 hrl er nf q3 q2 q1 hsts gp ep el gb gs hbs hbp hsp eb es est er4 ef hh e6 ef6 n8 e8 ha nk e1 ee e5 ea mk nA eA h hsum; lia)),q3 hh ha _ ((S04.trans S48).trans (S9.trans SA))⟩
theorem row_names (k : Int) : ∀ (t : L2.Tree) (b s : Nat),∀ d ∈ rowInto k t b s,∀ x,nmOf d = some x → x ∈ t.lv ∨ x ∈ t.kn
 | .leaf y,b,s,d,hd,x,hx => by
  simp only [rowInto,List.mem_singleton] at hd
  subst hd
  cases hx
  simp [M.Tr.lv]
 | .knot f l r,b,s,d,hd,x,hx => by
  have il := fun b s hd => row_names k l b s d hd x hx
  have ir := fun b s hd => row_names k r b s d hd x hx
  have jn : ∀ i j h : Int,d = .join f i j h → x ∈ (M.Tr.knot f l r).lv ∨ x ∈ (M.Tr.knot f l r).kn := fun i j h e => by
   subst e
   cases hx
   right; simp [M.Tr.kn]
  have up : (x ∈ l.lv ∨ x ∈ l.kn) ∨ (x ∈ r.lv ∨ x ∈ r.kn) → x ∈ (M.Tr.knot f l r).lv ∨ x ∈ (M.Tr.knot f l r).kn := fun h => by
   simp only [M.Tr.lv,M.Tr.kn,List.mem_append,List.mem_cons]
   rcases h with (h | h) | (h | h) <;> simp [h]
  unfold rowInto at hd
  split at hd
  · simp only [List.mem_append,List.mem_cons,List.not_mem_nil,or_false] at hd
    rcases hd with ((hd | rfl) | hd) | rfl | rfl
    · exact up (.inr (ir _ _ hd))
    · cases hx
    · exact up (.inl (il _ _ hd))
    · cases hx
    · exact jn _ _ _ rfl
  · split at hd
    · simp only [List.mem_append,List.mem_singleton] at hd
      rcases hd with (hd | hd) | rfl
      · exact up (.inl (il _ _ hd))
      · exact up (.inr (ir _ _ hd))
      · exact jn _ _ _ rfl
    · simp only [List.mem_append,List.mem_singleton] at hd
      rcases hd with (hd | hd) | rfl
      · exact up (.inr (ir _ _ hd))
      · exact up (.inl (il _ _ hd))
      · exact jn _ _ _ rfl
theorem row_last (k : Int) (f : Str) (l r : L2.Tree) (b s : Nat) : ∃ X i j h,rowInto k (.knot f l r) b s = X ++ [.join f i j h] := by
 unfold rowInto
 split
 · exact ⟨rowInto k r 0 s ++ [.put 0 s] ++ rowInto k l 0 (s + 1) ++ [.fetch s 1],0,1,0,by simp⟩
 · split
   · exact ⟨_,_,_,_,rfl⟩
   · exact ⟨_,_,_,_,rfl⟩
theorem cM_zero (k : Nat) : ∀ t : L2.Tree,t.rk ≤ k → cM k t = 0
 | .leaf _,_ => rfl
 | .knot f l r,h => by
  rw [rk_knot] at h
  have c : ¬ mustT k (.knot f l r) = true := fun c => by
   rw [must_iff] at c
   split at h <;> lia
  have hl : l.rk ≤ k := by split at h <;> lia
  have hr : r.rk ≤ k := by split at h <;> lia
  simp only [cM,if_neg c,cM_zero k l hl,cM_zero k r hr]
theorem cnt_jn (row : List L2.Deed) : row.countP M.Deed.jn = cnt (Str.ofString "join") row := by
 obtain ⟨h1,h2,h3,h4,h5,h6⟩ := ww
 unfold cnt
 congr 1
 funext d
 cases d <;> simp [M.Deed.jn,wordD,h1,h4.symm,h5.symm]
theorem short_not (k : Nat) (t : L2.Tree) : M.held (endS t k (rowInto k t 0 0).dropLast).1 [] = false := by
 cases t with
 | leaf x =>
  unfold endS
  simp only [rowInto,List.dropLast_singleton,List.foldl_nil,new2]
  cases hh : M.held (List.replicate k none) [] with
  | false => rfl
  | true =>
   rw [M.held_mem] at hh
   cases List.eq_of_mem_replicate hh
 | knot f l r =>
  obtain ⟨X,i,j,h,e⟩ := row_last k f l r 0 0
  have ct := (cnt_row k (.knot f l r) 0 0).2.1
  rw [e,cnt_app,cnt_cons,cnt_nil] at ct
  rw [e,List.dropLast_concat]
  cases hh : M.held (endS (.knot f l r) k X).1 [] with
  | false => rfl
  | true =>
   rw [M.held_mem] at hh
   have := M.held_joins (.knot f l r) k 100 X hh
   rw [cnt_jn] at this
   simp only [wordD,if_true] at ct
   lia
theorem cM_must (k : Int) (t : L2.Tree) : cM k t = (mustP t k).length := by
 have e : (mustP t k).length = ((t.wk []).filter (mustQ k)).length := List.length_map ..
 rw [e,cM_wk]
theorem more_told (k : Nat) (t : L2.Tree) : moreL t k (rowInto k t 0 0) = [0,0,0,0] := by
 obtain ⟨a1,a2,a3,a4⟩ := cnt_row k t 0 0
 have nk := nK_lv2 t
 have cm := cM_must k t
 unfold moreL
 rw [a1,a3,a4,← cm]
 simp only [List.cons.injEq,and_true]
 exact ⟨by (clear a1 a2 a3 cm a4; lia),by (clear a3 a4 a1 cm; lia),by (clear a1 a2 a3 a4 nk cm; lia),by lia⟩
theorem more_told1 (k : Nat) (t : L2.Tree) (x : Str) (b : Int) : moreL t k (.take x b :: rowInto k t 0 0) = [1,0,0,0] := by
 obtain ⟨h1,h2,h3,_,_,_⟩ := ww
 have e := more_told k t
 unfold moreL at e ⊢
 simp only [List.cons.injEq] at e
 obtain ⟨e1,e2,e3,e4,_⟩ := e
 simp only [cnt_cons,wordD,h1,h2,h3,if_true,if_false,List.cons.injEq,and_true]
 exact ⟨by lia,by omega,by omega,by omega⟩
noncomputable def spLaw (K : PySem.W.Frag) : Sp := fun vs H Q _ => ∃ (a : Addr) (ns : List Int),vs = [.ref a] ∧ SqL K H a (ns.map V.int) ∧ ns.length ≤ 63 ∧ ∀ H',Q (.bl true) H'
seal PSs PS PE PT PA PI PIfs in
theorem ok_law (T : Txt K mg) (R : Prts P w K mg) : FnOk P w K mg base (CXE P w) 60 T.f_law T.d_law ["script"] (spLaw K) := by
 refine T.F_law.okE (k := 59) sc_law (fun vs H Q E h => ?_) (fun cdv A outer s H vs Q E hr h L => ?_)
 · obtain ⟨a,ns,rfl,_⟩ := h
   rfl
 obtain ⟨a,ns,rfl,hS,h63,q⟩ := h
 have nd := sc_law.nd
 have G__law_at := (ok_at (P := P) (w := w) (base := base) T).mono (k := 59) (by omega)
 have G__law_many := (ok_many (P := P) (w := w) (base := base) T).mono (k := 59) (by omega)
 have G__law_second := (ok_second (P := P) (w := w) (base := base) T).mono (k := 59) (by omega)
 have G__law_names := (ok_names (P := P) (w := w) (base := base) T).mono (k := 59) (by omega)
 have G__law_tree := (ok_tree (P := P) (w := w) (base := base) T).mono (k := 59) (by omega)
 have G__law_ranks := (ok_ranks (P := P) (w := w) (base := base) T 24).mono (k := 59) (by omega)
 have G_row_for := (ok_for (P := P) (w := w) (base := base) T).mono (k := 59) (by omega)
 have G_show := (ok_show (P := P) (w := w) (base := base) T 24).mono (k := 59) (by omega)
 have G_show_row := (ok_showr (P := P) (w := w) (base := base) T).mono (k := 59) (by omega)
 have G_judge := (ok_judge (P := P) (w := w) (base := base) T R).mono (k := 59) (by omega)
 refine ⟨_,(pss_cons (ps_let (i := 1) nd rfl (Or.inl rfl) (pe_call G__law_many hr rfl T.m__law_many T.F__law_many.kp T.b__law_many .nil pass0 (pa_cons (pv 0) pa_nil)))
  (pss_cons (ps_let (i := 2) nd rfl (Or.inl rfl) (pe_call G__law_tree hr rfl T.m__law_tree T.F__law_tree.kp T.b__law_tree .nil pass0 (pa_cons (pv 0) (pa_cons pe_int (pa_cons (pv 1) pa_nil)))))
  (pss_cons (ps_let (i := 3) nd rfl (Or.inl rfl) (pe_op op_add pe_int (pe_op op_mod (pe_call G__law_at hr rfl T.m__law_at T.F__law_at.kp T.b__law_at .nil pass0 (pa_cons (pv 0) (pa_cons pe_int pa_nil))) pe_int)))
  (pss_cons (ps_let (i := 4) nd rfl (Or.inl rfl) (pe_call G_row_for hr rfl T.m_row_for T.F_row_for.kp T.b_row_for .nil (passE L) (pa_cons (pv 2) (pa_cons (pv 3) pa_nil))))
  (pss_cons (ps_if (pt_cmpR op_ne (pe_call G_judge hr rfl T.m_judge T.F_judge.kp T.b_judge .nil (passE L) (pa_cons (pe_call G_show hr rfl T.m_show T.F_show.kp T.b_show .nil pass0 (pa_cons (pv 2) pa_nil)) (pa_cons (pv 3) (pa_cons (pe_call G_show_row hr rfl T.m_show_row T.F_show_row.kp T.b_show_row .nil pass0 (pa_cons (pv 4) pa_nil)) pa_nil)))) pe_str (nomark _)) (pss_one (ps_ret pe_bl)) pss_nil)
  (pss_cons (ps_if (pt_cmpR op_ne (pe_call G_judge hr rfl T.m_judge T.F_judge.kp T.b_judge .nil (passE L) (pa_cons (pe_call G_show hr rfl T.m_show T.F_show.kp T.b_show .nil pass0 (pa_cons (pv 2) pa_nil)) (pa_cons (pv 3) (pa_cons (pe_call G_show_row hr rfl T.m_show_row T.F_show_row.kp T.b_show_row .nil pass0 (pa_cons (pe_slice slLG (pv 4) po_none (po_some (pe_un un_neg pe_int))) pa_nil)) pa_nil)))) pe_str (nomark _)) (pss_one (ps_ret pe_bl)) pss_nil)
  (pss_cons (ps_let (i := 5) nd rfl (Or.inl rfl) (pe_ix ixF (pe_call G__law_names hr rfl T.m__law_names T.F__law_names.kp T.b__law_names .nil pass0 (pa_cons (pe_call G__law_second hr rfl T.m__law_second T.F__law_second.kp T.b__law_second .nil pass0 (pa_cons (pv 0) pa_nil)) (pa_cons (pv 1) pa_nil))) (pe_op op_mod (pe_call G__law_at hr rfl T.m__law_at T.F__law_at.kp T.b__law_at .nil pass0 (pa_cons (pv 0) (pa_cons pe_int pa_nil))) (pv 1)) (fun _ _ => rfl)))
  (pss_cons (ps_let (i := 6) nd rfl (Or.inl rfl) (pe_op op_cat (pe_lst (pa_cons (pe_tup (pa_cons pe_str (pa_cons (pv 5) (pa_cons (pe_op op_mod (pe_call G__law_at hr rfl T.m__law_at T.F__law_at.kp T.b__law_at .nil pass0 (pa_cons (pv 0) (pa_cons pe_int pa_nil))) (pv 3)) pa_nil)))) pa_nil)) (pv 4)))
  (pss_cons (ps_if (pt_cmpR op_ne (pe_call G_judge hr rfl T.m_judge T.F_judge.kp T.b_judge .nil (passE L) (pa_cons (pe_call G_show hr rfl T.m_show T.F_show.kp T.b_show .nil pass0 (pa_cons (pv 2) pa_nil)) (pa_cons (pv 3) (pa_cons (pe_call G_show_row hr rfl T.m_show_row T.F_show_row.kp T.b_show_row .nil pass0 (pa_cons (pv 6) pa_nil)) pa_nil)))) pe_str (nomark _)) (pss_one (ps_ret pe_bl)) pss_nil)
  (pss_one (ps_ret (pe_or (pe_cmpR op_lt (pv 3) (pe_ix ixF (pe_ix ixF (pe_call G__law_ranks hr rfl T.m__law_ranks T.F__law_ranks.kp T.b__law_ranks .nil pass0 (pa_cons (pv 2) (pa_cons (pe_tup pa_nil) pa_nil))) pe_int (fun _ _ => rfl)) pe_int (fun _ _ => rfl)) (nomark _)) (pe_one (pe_cmpR (op_eqD hr) (pe_comp (N := ["deed"]) (caps := []) rfl ⟨rfl,rfl,rfl,rfl,by decide +kernel,rfl,rfl,rfl,rfl⟩ (piL (pv 4)) (fun _ _ _ _ => pif_one (pt_cmpR op_eq (pe_ix ixF (pv 0) pe_int (fun _ _ => rfl)) pe_str (nomark _))) (fun _ _ _ _ => (pv 0))) (pe_lst pa_nil) (nomark _))))))))))))))),?_⟩
 refine cutC4 fun C hC => ?_
 walk_at "rd"
 refine ⟨a,ns,rfl,hS,h63,fun many H1 hm1 hm S1 hmn => ?_⟩
 refine ⟨a,ns,1,many,rfl,S1.seq hS,h63,by decide,hm1,hm,fun t c c' v H2 S2 ht tr cc => ?_⟩
 have hd := tr.dp
 have hlen := tr.len
 have ndp := tr.nodup hm
 have tl := txL_len t (fun x h => L2.nameOk_len (tr.lvOk x h)) (fun x h => L2.nameOk_len (tr.knOk x h))
 have S02 := S1.trans S2
 refine ⟨a,ns,20,rfl,S02.seq hS,h63,by omega,by omega,_,rfl,by decide,?_⟩
 generalize lawAt ns (20 : Int).toNat = c20
 obtain ⟨k,hk⟩ : ∃ k : Nat,(2 + c20 % 5 : Int) = k := ⟨(2 + c20 % 5).toNat,by (clear h63 hC hm1 hm hmn cc hd hlen tl; lia)⟩
 rw [hk]
 have hk2 : 2 ≤ k := by (clear h63 hC hm1 hm hmn cc hd hlen tl; lia)
 have hk10 : k ≤ 10 := by (clear h63 hC hm1 hm hmn cc hd hlen tl hk2; lia)
 clear hk
 have nf : ¬ few t (k : Int) := fun h => by unfold few at h; (clear h63 hC hm1 hm hmn cc hd hlen tl hk10; lia)
 refine ⟨t,k,v,rfl,ht,hd,by (clear h63 hC hm1 hk2 hk10 nf cc hd hmn tl; lia),Nat.lt_of_le_of_lt (Nat.log2_le_self _) (by (clear h63 hC hm1 hm hmn cc hd hlen tl nf hk2; omega)),fun h => absurd h nf,fun _ pr rs H3 S3 n3 er dr => ?_⟩
 have wl := t.wk_len []
 have cm100 : cM k t ≤ 100 := by
  have := List.length_filter_le (mustQ k) (t.wk [])
  have e := cM_wk k t []
  (clear h63 hC hm1 hk2 hk10 nf cc hd n3 er hmn tl; lia)
 have okr : okRow k 100 (rowInto k t 0 0) := row_ok k 100 hk2 t 0 0 (.inl rfl) (by (clear h63 hC hm1 hm hmn cc hd hlen tl hk2 hk10 nf n3 er wl; lia))
 have okt : ∀ d ∈ rowInto k t 0 0,okT d := fun d hd' => by
  refine ⟨fun i hi => ?_,fun x hx => ?_⟩
  · rcases List.mem_append.mp hi with hi | hi
    · have := (okr d hd').1 i hi; have a1 := this.1; have a2 := this.2; (clear h63 hC hm1 hm hmn cc hd hlen tl n3 er wl nf cm100 hk2; lia)
    · have := (okr d hd').2 i hi; have a1 := this.1; have a2 := this.2; (clear h63 hC hm1 hm hmn cc hd hlen tl hk2 hk10 nf n3 er wl cm100; omega)
  · rcases row_names k t 0 0 d hd' x hx with h | h
    · exact tr.lvOk x h
    · exact tr.knOk x h
 have rl := rowInto_len k t 0 0
 have lr := dr.length
 rw [List.length_map] at lr
 rw [hC]
 clear hC C
 refine cutC1 fun C hC => ?_
 walk_at "rd"
 have ez : (⟨(txL t).toArray⟩ : Str).length ≤ 50000 := by rw [len_cps,cps_mk]; (clear hk10 nf n3 er wl cm100 rl lr hC hmn cc hd h63 hm1 hk2; lia)
 have l0 : (new2 k 100).1.length = k ∧ (new2 k 100).2.length = 100 := by simp [new2]
 refine ⟨t,v,rfl,ht.same S3,hd,by (clear nf n3 er wl cm100 rl lr hC ez l0 hmn cc hd hk10 h63 hm1 hk2; lia),rowInto k t 0 0,pr,rs,rfl,er,dr,by (clear nf n3 er wl cm100 hmn cc hd hC ez l0 h63 hm1 tl hk2 lr hk10; lia),okt,fun H4 S4 => ?_⟩
 have hh := told_held ndp hk2 cm100 (new2 k 100) l0.1 l0.2
 refine ⟨_,t,k,_,rfl,ez,cps_mk _,hd,by (clear n3 er wl cm100 rl lr hC ez l0 hh hmn cc hd hk10 nf h63 hm1 tl hk2; lia),tr.lvOk,tr.knOk,ndp,hk2,hk10,by (clear ez l0 hh hmn cc hd hk10 nf n3 er wl cm100 h63 hm1 tl hk2 hC lr; lia),okt,okr,fun h => ?_,fun _ _ H5 S5 => ⟨rfl,?_⟩,fun _ h => ?_⟩
 · exact absurd (hh.symm.trans h) (by decide)
 rotate_left
 · rw [more_told] at h; exact absurd h (by decide)
 rw [decide_eq_true rfl]
 refine iteF ?_
 have S35 := S4.trans S5
 have ht5 := (ht.same S3).same S35
 have er5 := S35 _ _ er
 have dr5 := dr.same S35
 have S05 := (S02.trans S3).trans S35
 rw [hC]
 clear hC C
 refine cutC1 fun C hC => ?_
 walk_at "rd"
 refine ⟨t,v,rfl,ht5,hd,by (clear n3 er wl cm100 rl lr ez l0 hh er5 hC hmn cc hd hk10 nf h63 hm1 hk2; lia),_,er5,NewO.mk fun q1 H6 S6 n6 e6 => ?_⟩
 rw [(cut_last rs).1] at e6
 have dd : ∀ d ∈ (rowInto k t 0 0).dropLast,d ∈ rowInto k t 0 0 := fun d hd' => List.dropLast_subset _ hd'
 have drd : Dts H6 ((rowInto k t 0 0).dropLast.map dDeed) rs.dropLast := by
  have := (dr5.same S6).take (rs.length - 1)
  rw [← List.map_take] at this
  rw [List.dropLast_eq_take,List.dropLast_eq_take,← lr]
  exact this
 have S56 := S6
 refine ⟨(rowInto k t 0 0).dropLast,q1,_,rfl,e6,drd,by rw [List.length_dropLast]; (clear l0 hh er5 hC n6 e6 hmn cc hd hk10 nf n3 er wl cm100 h63 hm1 tl hk2 ez lr; lia),fun d h => okt d (dd d h),fun H7 S7 => ?_⟩
 have sn := short_not k t
 refine ⟨_,t,k,_,rfl,ez,cps_mk _,hd,by (clear wl cm100 rl lr ez l0 hh er5 hC n6 e6 sn hk2 hk10 nf n3 er h63 hm1 cc hd hmn tl; lia),tr.lvOk,tr.knOk,ndp,hk2,hk10,by rw [List.length_dropLast]; (clear tl hk2 hk10 nf n3 er wl hC n6 e6 sn hh er5 h63 hm1 cc hd ez l0 hmn cm100 lr; lia),fun d h => okt d (dd d h),fun d h => okr d (dd d h),fun _ H8 S8 => ⟨rfl,?_⟩,fun h => absurd (sn.symm.trans h) (by decide),fun h => absurd (sn.symm.trans h) (by decide)⟩
 rw [decide_eq_true rfl]
 refine iteF ?_
 have S58 := (S6.trans S7).trans S8
 have ht8 := ht5.same S58
 have er8 := S58 _ _ er5
 have dr8 := dr5.same S58
 have S08 := S05.trans S58
 rw [hC]
 clear hC C
 refine cutC3 fun C hC => ?_
 walk_at "rd"
 refine ⟨a,ns,rfl,S08.seq hS,h63,lawSecond ns,many,rfl,hm,fun pn nv H9 S9 n9 e9 D9 => ?_⟩
 have hnv := D9.strs
 subst hnv
 have S09 := S08.trans S9
 refine ⟨a,ns,21,rfl,S09.seq hS,h63,by (clear h63 hm1 hm hmn cc hd hlen tl hk2 hk10 nf n3 er wl cm100 rl lr ez l0 hh er5 n6 e6 sn er8 hC n9 e9; omega),by (clear h63 hm1 hm hmn cc hd hlen tl hk2 hk10 nf n3 er wl cm100 rl lr ez l0 hh er5 n6 e6 sn er8 hC n9 e9; omega),_,rfl,by (clear cm100 rl lr ez l0 hh er5 n6 e6 sn er8 hC n9 e9 tl hk2 hk10 nf n3 er wl cc hd hlen hm hmn h63; omega),pn,rfl,_,items_l e9,?_⟩
 generalize lawAt ns (21 : Int).toNat = c21
 obtain ⟨x,hx,hxo⟩ : ∃ x : Str,atI (((List.range many).map (nmS (lawSecond ns) many)).map V.str) (c21 % (many : Int)) = some (.str x) ∧ nameOk x = true := by
  have z0 := Int.emod_nonneg c21 (show (many : Int) ≠ 0 by (clear cm100 rl lr ez l0 hh er5 n6 e6 sn er8 hC n9 e9 tl hk2 hk10 nf n3 er wl cc hd hlen hm hmn h63; omega))
  have z1 := Int.emod_lt_of_pos c21 (show (0 : Int) < many by (clear rl lr ez l0 hh er5 n6 e6 sn er8 hC n9 e9 z0 hk2 hk10 nf n3 er wl cm100 cc hd hlen tl hm hmn h63; omega))
  have hi : (c21 % (many : Int)).toNat < many := by (clear h63 hm1 hm hmn cc hd hlen tl hk2 hk10 nf n3 er wl cm100 rl lr ez l0 hh er5 n6 e6 sn er8 hC n9 e9; lia)
  refine ⟨nmS (lawSecond ns) many (c21 % (many : Int)).toNat,atI_int z0 ?_,nmS_ok hi⟩
  rw [List.getElem?_map,List.getElem?_map,List.getElem?_range hi]; rfl
 refine ⟨_,hx,a,ns,22,rfl,S09.seq hS,h63,by (clear h63 hm1 hm hmn cc hd hlen tl hk2 hk10 nf n3 er wl cm100 rl lr ez l0 hh er5 n6 e6 sn er8 hC n9 e9 hx hxo; omega),by (clear h63 hm1 hm hmn cc hd hlen tl hk2 hk10 nf n3 er wl cm100 rl lr ez l0 hh er5 n6 e6 sn er8 hC n9 e9 hx hxo; omega),_,rfl,by (clear rl lr ez l0 hh er5 n6 e6 sn er8 hC n9 e9 hx hxo h63 hm1 hm hmn cc hd hlen tl er wl cm100 nf n3 hk10; omega),by decide,?_⟩
 generalize lawAt ns (22 : Int).toNat = c22
 have b0 := Int.emod_nonneg c22 (show (k : Int) ≠ 0 by (clear rl lr ez l0 hh er5 n6 e6 sn er8 hC n9 e9 hx hxo h63 hm1 hm hmn cc hd hlen tl er wl cm100 nf n3 hk10; omega))
 have b1 := Int.emod_lt_of_pos c22 (show (0 : Int) < k by (clear lr ez l0 hh er5 n6 e6 sn er8 hC n9 e9 hx hxo b0 h63 hm1 hm hmn cc hd hlen tl er wl cm100 rl nf n3 hk10; omega))
 generalize c22 % (k : Int) = bx at b0 b1
 refine NewO.mk fun q2 HA SA nA eA => ⟨by decide,NewO.mk fun q3 HB SB nB eB => ⟨q3,rfl,_,eB,_,SB _ _ (SA _ _ (S9 _ _ er8)),small_le (by simp; (clear l0 hh er5 n6 e6 sn er8 hC n9 e9 hx hxo b0 b1 nA eA nB eB nf n3 er wl cm100 hmn cc hd ez h63 hm1 tl hk2 hk10; lia)),NewO.mk fun q4 HC SC nC eC => ?_⟩⟩
 have S9C := (SA.trans SB).trans SC
 have S8C := S9.trans S9C
 refine ⟨t,v,rfl,ht8.same S8C,hd,by (clear nf n3 er wl cm100 rl lr ez l0 hh er5 n6 e6 sn er8 hC n9 e9 hx hxo b0 b1 nA eA nB eB nC eC hmn cc hd hk10 h63 hm1 hk2; lia),.take x bx :: rowInto k t 0 0,q4,_,rfl,eC,.cons (deed_mk (SC _ _ (SB _ _ eA))) (dr8.same S8C),by rw [List.length_cons]; (clear hh er5 n6 e6 sn er8 hC n9 e9 hx hxo b0 b1 nA eA nB eB nC eC nf n3 er wl cm100 hmn cc hd ez l0 h63 hm1 tl hk2 lr hk10; lia),?okm,fun HD SD => ?_⟩
 case okm =>
  intro d hd'
  rcases List.mem_cons.mp hd' with rfl | hd'
  · refine ⟨fun i hi => ?_,fun y hy => ?_⟩
    · simp only [M.Deed.bn,M.Deed.sn,List.append_nil,List.mem_singleton] at hi
      (clear nf n3 er wl cm100 rl lr ez l0 hh er5 n6 e6 sn er8 hC n9 e9 hx hxo h63 hm1 hm hmn cc hd hlen tl nA eA nB eB nC eC hk2; lia)
    · cases hy; exact hxo
  · exact okt d hd'
 have okm : ∀ d ∈ (.take x bx :: rowInto k t 0 0 : List L2.Deed),okT d := fun d hd' => by
  rcases List.mem_cons.mp hd' with rfl | hd'
  · refine ⟨fun i hi => ?_,fun y hy => ?_⟩
    · simp only [M.Deed.bn,M.Deed.sn,List.append_nil,List.mem_singleton] at hi
      (clear nf n3 er wl cm100 rl lr ez l0 hh er5 n6 e6 sn er8 hC n9 e9 hx hxo h63 hm1 hm hmn cc hd hlen tl nA eA nB eB nC eC hk2; lia)
    · cases hy; exact hxo
  · exact okt d hd'
 have okm2 : okRow k 100 (.take x bx :: rowInto k t 0 0) := fun d hd' => by
  rcases List.mem_cons.mp hd' with rfl | hd'
  · refine ⟨fun i hi => ?_,fun i hi => by simp [M.Deed.sn] at hi⟩
    simp only [M.Deed.bn,List.mem_singleton] at hi
    rw [hi]; exact ⟨b0,b1⟩
  · exact okr d hd'
 have hh2 : M.held (endS t k (.take x bx :: rowInto k t 0 0)).1 [] = true := by
  have gl := M.Deed.go_len (z := none) (tk := fun x => M.firstOf x (t.wk [])) (jn := M.over t) (new2 k 100) (.take x bx)
  exact told_held ndp hk2 cm100 (M.mark t (new2 k 100) (.take x bx)) (gl.1.trans l0.1) (gl.2.trans l0.2)
 have m1 := more_told1 k t x bx
 refine ⟨_,t,k,_,rfl,ez,cps_mk _,hd,by (clear er5 n6 e6 sn er8 hC n9 e9 hx hxo b0 b1 nA eA nB eB nC eC hh2 m1 nf n3 er wl cm100 rl lr ez l0 hh hmn cc hd hk10 h63 hm1 tl hk2; lia),tr.lvOk,tr.knOk,ndp,hk2,hk10,by rw [List.length_cons]; (clear er5 n6 e6 sn er8 hC n9 e9 hx hxo nf n3 er wl cm100 b0 b1 nA eA nB eB nC eC hh2 m1 hmn cc hd ez l0 hh h63 hm1 tl hk2 lr hk10; lia),okm,okm2,fun h => absurd (hh2.symm.trans h) (by decide),fun _ h => ?_,fun _ _ HE SE => ⟨rfl,?_⟩⟩
 · rw [m1] at h; exact absurd h (by decide)
 rw [m1,decide_eq_true (show V.str (Str.ofString "held " ++ Txt.join (Str.ofString " ") ([1,0,0,0].map intT)) = V.str (Str.ofString "held 1 0 0 0") by decide +kernel)]
 refine iteF ?_
 rw [hC]
 clear hC C
 walk_at "rd"
 have S8E := (S8C.trans SD).trans SE
 refine ⟨Nat.zero_le _,NewO.mk fun p1 HF SF nF eF => ⟨t,[],v,.ref p1,rfl,(ht8.same S8E).same SF,dP_mk eF,hd,by (clear n6 e6 sn er8 n9 e9 hx hxo b0 b1 nA eA nB eB nC eC hh2 m1 nF eF n3 er wl cm100 rl lr ez l0 hh er5 hmn cc hd hk10 nf h63 hm1 tl hk2; lia),by simp,fun p2 ys HG SG nG eG DG => ?_⟩⟩
 obtain ⟨wr,hwr⟩ := wk_head t []
 have DG' := DG
 rw [hwr,List.map_cons] at DG'
 obtain ⟨y0,yr,rfl,dy,_⟩ := isDs_cons.mp DG'
 obtain ⟨b,v1,rfl,eb,_⟩ := dR_of dy
 refine ⟨p2,rfl,_,items_l eG,_,atI_0,b,rfl,_,items_t eb,_,atI_1,_,rfl,ite2 (fun _ => q _) (fun ck => ?_)⟩
 have ck : t.rk ≤ k := by
  have : ¬ (k : Int) < (t.rk : Int) := fun z => ck (decide_eq_true z)
  (clear h63 hm1 hm hmn cc hd hlen tl hk2 hk10 nf n3 er wl cm100 rl lr ez l0 hh er5 n6 e6 sn er8 n9 e9 hx hxo b0 b1 nA eA nB eB nC eC hh2 m1 nF eF nG hwr eG eb ck; omega)
 have cz := cM_zero k t ck
 have cp := (cnt_row k t 0 0).2.2.1
 rw [cz] at cp
 have S8G := (S8E.trans SF).trans SG
 have lr8 : rs.length = (rowInto k t 0 0).length := lr
 have npt : ∀ d ∈ rowInto k t 0 0,¬ wordD d = Str.ofString "put" := fun d hd' e => by
  have := List.countP_eq_zero.mp cp d hd'
  exact this (decide_eq_true e)
 refine WalkL.comp (S8G _ _ er8) (fun i us H' => us = []) rfl (by (clear n9 e9 hx hxo b0 b1 nA eA nB eB nC eC hh2 m1 nF eF nG hwr eG eb ck cz cp lr8 tl hk2 hk10 nf n3 er wl n6 e6 sn er8 hh er5 h63 hm1 cc hd ez l0 hmn cm100; lia)) (fun i us H' h => by rw [h]; simp) (fun i y us H' ey S' h => ?_) (fun p3 us HI HJ SI SJ h nJ eJ => ?_)
 · have hi : i < (rowInto k t 0 0).length := by have := (List.getElem?_eq_some_iff.mp ey).1; (clear h63 hm1 hm hmn cc hd hlen tl hk2 hk10 nf n3 er wl cm100 rl lr ez l0 hh er5 n6 e6 sn er8 n9 e9 hx hxo b0 b1 nA eA nB eB nC eC hh2 m1 nF eF nG hwr eG eb ck cz cp ey h; lia)
   have e0 : (rowInto k t 0 0)[i]? = some (rowInto k t 0 0)[i] := List.getElem?_eq_getElem hi
   obtain ⟨y',hy',dy'⟩ := Dts.map_of (dr8.same S8G) e0
   rw [ey] at hy'; cases hy'
   have np := npt _ (List.getElem_mem hi)
   generalize (rowInto k t 0 0)[i] = d at e0 dy' np
   obtain ⟨bb,rfl,ebb⟩ := deed_of (dy'.same S')
   obtain ⟨r',hr'⟩ := vDeed_0 d
   rw [hr'] at ebb
   walk_at "rd"
   refine ⟨_,items_t ebb,_,atI_0,rfl,ite2 (fun d' => absurd (V.str.inj (of_decide_eq_true d')) np) (fun _ => ⟨S',h⟩)⟩
 · rw [h] at eJ
   refine ⟨Nat.zero_le _,NewO.mk fun p4 HK SK nK eK => ⟨.lst [],Dt.lst (SK _ _ eJ) .nil,.lst [],Dt.lst eK .nil,by decide,?_⟩⟩
   rw [D.eq_refl]
   exact q _
end
theorem all_mk {l : PySem.W.OpenLaw} {w : World} {K : PySem.W.Frag} {h : Heap} {mg : Str → Option Value} {fa : Addr} (X : K.In h) (G : h.Ns mainGlobals mg)
 {f0 : Addr} {od0 an0 : Option Addr} {sl0 : Array (Option Value)} {oc0 kV0 dc0 pm0 cd0 ct0 : Value}
 {f1 : Addr} {od1 an1 : Option Addr} {sl1 : Array (Option Value)} {oc1 kV1 dc1 pm1 cd1 ct1 : Value}
 {f2 : Addr} {od2 an2 : Option Addr} {sl2 : Array (Option Value)} {oc2 kV2 dc2 pm2 cd2 ct2 : Value}
 {f3 : Addr} {od3 an3 : Option Addr} {sl3 : Array (Option Value)} {oc3 kV3 dc3 pm3 cd3 ct3 : Value}
 {f4 : Addr} {od4 an4 : Option Addr} {sl4 : Array (Option Value)} {oc4 kV4 dc4 pm4 cd4 ct4 : Value}
 {f5 : Addr} {od5 an5 : Option Addr} {sl5 : Array (Option Value)} {oc5 kV5 dc5 pm5 cd5 ct5 : Value}
 {f6 : Addr} {od6 an6 : Option Addr} {sl6 : Array (Option Value)} {oc6 kV6 dc6 pm6 cd6 ct6 : Value}
 {f7 : Addr} {od7 an7 : Option Addr} {sl7 : Array (Option Value)} {oc7 kV7 dc7 pm7 cd7 ct7 : Value}
 {f8 : Addr} {od8 an8 : Option Addr} {sl8 : Array (Option Value)} {oc8 kV8 dc8 pm8 cd8 ct8 : Value}
 {f9 : Addr} {od9 an9 : Option Addr} {sl9 : Array (Option Value)} {oc9 kV9 dc9 pm9 cd9 ct9 : Value}
 {f10 : Addr} {od10 an10 : Option Addr} {sl10 : Array (Option Value)} {oc10 kV10 dc10 pm10 cd10 ct10 : Value}
 {f11 : Addr} {od11 an11 : Option Addr} {sl11 : Array (Option Value)} {oc11 kV11 dc11 pm11 cd11 ct11 : Value}
 {f12 : Addr} {od12 an12 : Option Addr} {sl12 : Array (Option Value)} {oc12 kV12 dc12 pm12 cd12 ct12 : Value}
 {f13 : Addr} {od13 an13 : Option Addr} {sl13 : Array (Option Value)} {oc13 kV13 dc13 pm13 cd13 ct13 : Value}
 {f14 : Addr} {od14 an14 : Option Addr} {sl14 : Array (Option Value)} {oc14 kV14 dc14 pm14 cd14 ct14 : Value}
 {f15 : Addr} {od15 an15 : Option Addr} {sl15 : Array (Option Value)} {oc15 kV15 dc15 pm15 cd15 ct15 : Value}
 {f16 : Addr} {od16 an16 : Option Addr} {sl16 : Array (Option Value)} {oc16 kV16 dc16 pm16 cd16 ct16 : Value}
 {f17 : Addr} {od17 an17 : Option Addr} {sl17 : Array (Option Value)} {oc17 kV17 dc17 pm17 cd17 ct17 : Value}
 {f18 : Addr} {od18 an18 : Option Addr} {sl18 : Array (Option Value)} {oc18 kV18 dc18 pm18 cd18 ct18 : Value}
 {f19 : Addr} {od19 an19 : Option Addr} {sl19 : Array (Option Value)} {oc19 kV19 dc19 pm19 cd19 ct19 : Value}
 {f20 : Addr} {od20 an20 : Option Addr} {sl20 : Array (Option Value)} {oc20 kV20 dc20 pm20 cd20 ct20 : Value}
 {f21 : Addr} {od21 an21 : Option Addr} {sl21 : Array (Option Value)} {oc21 kV21 dc21 pm21 cd21 ct21 : Value}
 {f22 : Addr} {od22 an22 : Option Addr} {sl22 : Array (Option Value)} {oc22 kV22 dc22 pm22 cd22 ct22 : Value}
 {f23 : Addr} {od23 an23 : Option Addr} {sl23 : Array (Option Value)} {oc23 kV23 dc23 pm23 cd23 ct23 : Value}
 {f24 : Addr} {od24 an24 : Option Addr} {sl24 : Array (Option Value)} {oc24 kV24 dc24 pm24 cd24 ct24 : Value}
 {f25 : Addr} {od25 an25 : Option Addr} {sl25 : Array (Option Value)} {oc25 kV25 dc25 pm25 cd25 ct25 : Value}
 {f26 : Addr} {od26 an26 : Option Addr} {sl26 : Array (Option Value)} {oc26 kV26 dc26 pm26 cd26 ct26 : Value}
 {f27 : Addr} {od27 an27 : Option Addr} {sl27 : Array (Option Value)} {oc27 kV27 dc27 pm27 cd27 ct27 : Value}
 {f28 : Addr} {od28 an28 : Option Addr} {sl28 : Array (Option Value)} {oc28 kV28 dc28 pm28 cd28 ct28 : Value}
 {f29 : Addr} {od29 an29 : Option Addr} {sl29 : Array (Option Value)} {oc29 kV29 dc29 pm29 cd29 ct29 : Value}
 {f30 : Addr} {od30 an30 : Option Addr} {sl30 : Array (Option Value)} {oc30 kV30 dc30 pm30 cd30 ct30 : Value}
 {f31 : Addr} {od31 an31 : Option Addr} {sl31 : Array (Option Value)} {oc31 kV31 dc31 pm31 cd31 ct31 : Value}
 {f32 : Addr} {od32 an32 : Option Addr} {sl32 : Array (Option Value)} {oc32 kV32 dc32 pm32 cd32 ct32 : Value}
 {f33 : Addr} {od33 an33 : Option Addr} {sl33 : Array (Option Value)} {oc33 kV33 dc33 pm33 cd33 ct33 : Value}
 {f34 : Addr} {od34 an34 : Option Addr} {sl34 : Array (Option Value)} {oc34 kV34 dc34 pm34 cd34 ct34 : Value}
 {f35 : Addr} {od35 an35 : Option Addr} {sl35 : Array (Option Value)} {oc35 kV35 dc35 pm35 cd35 ct35 : Value}
 {f36 : Addr} {od36 an36 : Option Addr} {sl36 : Array (Option Value)} {oc36 kV36 dc36 pm36 cd36 ct36 : Value}
 {f37 : Addr} {od37 an37 : Option Addr} {sl37 : Array (Option Value)} {oc37 kV37 dc37 pm37 cd37 ct37 : Value}
 {f38 : Addr} {od38 an38 : Option Addr} {sl38 : Array (Option Value)} {oc38 kV38 dc38 pm38 cd38 ct38 : Value}
 {f39 : Addr} {od39 an39 : Option Addr} {sl39 : Array (Option Value)} {oc39 kV39 dc39 pm39 cd39 ct39 : Value}
 {f40 : Addr} {od40 an40 : Option Addr} {sl40 : Array (Option Value)} {oc40 kV40 dc40 pm40 cd40 ct40 : Value}
 {f41 : Addr} {od41 an41 : Option Addr} {sl41 : Array (Option Value)} {oc41 kV41 dc41 pm41 cd41 ct41 : Value}
 {f42 : Addr} {od42 an42 : Option Addr} {sl42 : Array (Option Value)} {oc42 kV42 dc42 pm42 cd42 ct42 : Value}
 {f43 : Addr} {od43 an43 : Option Addr} {sl43 : Array (Option Value)} {oc43 kV43 dc43 pm43 cd43 ct43 : Value}
 {f44 : Addr} {od44 an44 : Option Addr} {sl44 : Array (Option Value)} {oc44 kV44 dc44 pm44 cd44 ct44 : Value}
 {f45 : Addr} {od45 an45 : Option Addr} {sl45 : Array (Option Value)} {oc45 kV45 dc45 pm45 cd45 ct45 : Value}
 {f46 : Addr} {od46 an46 : Option Addr} {sl46 : Array (Option Value)} {oc46 kV46 dc46 pm46 cd46 ct46 : Value}
 {f47 : Addr} {od47 an47 : Option Addr} {sl47 : Array (Option Value)} {oc47 kV47 dc47 pm47 cd47 ct47 : Value}
 {f48 : Addr} {od48 an48 : Option Addr} {sl48 : Array (Option Value)} {oc48 kV48 dc48 pm48 cd48 ct48 : Value}
 {f49 : Addr} {od49 an49 : Option Addr} {sl49 : Array (Option Value)} {oc49 kV49 dc49 pm49 cd49 ct49 : Value}
 {tk0 : Tok}
 {tk1 : Tok}
 {tk2 : Tok}
 {tk3 : Tok}
 {tk4 : Tok}
 {tk5 : Tok}
 {C_NoDeed : Addr}
 {C_TooFew : Addr}
 (a0 : PySem.W.nsIn K mainGlobals "box_numbers" = some (some (.ref f0))) (l0 : K.lookup f0 = some ⟨oc0,od0,.func (PySem.W.fnOf "box_numbers" "box_numbers" (defArgs s_box_numbers) (defBody s_box_numbers) (defScope s_box_numbers) .none kV0 dc0 pm0 an0 cd0 ct0),sl0⟩) (c0 : PySem.W.codeIn K cd0 "box_numbers" = true) (k0 : PySem.W.keepIn K (.ref f0) = true)
 (a1 : PySem.W.nsIn K mainGlobals "shelf_numbers" = some (some (.ref f1))) (l1 : K.lookup f1 = some ⟨oc1,od1,.func (PySem.W.fnOf "shelf_numbers" "shelf_numbers" (defArgs s_shelf_numbers) (defBody s_shelf_numbers) (defScope s_shelf_numbers) .none kV1 dc1 pm1 an1 cd1 ct1),sl1⟩) (c1 : PySem.W.codeIn K cd1 "shelf_numbers" = true) (k1 : PySem.W.keepIn K (.ref f1) = true)
 (a2 : PySem.W.nsIn K mainGlobals "check_numbers" = some (some (.ref f2))) (l2 : K.lookup f2 = some ⟨oc2,od2,.func (PySem.W.fnOf "check_numbers" "check_numbers" (defArgs s_check_numbers) (defBody s_check_numbers) (defScope s_check_numbers) .none kV2 dc2 pm2 an2 cd2 ct2),sl2⟩) (c2 : PySem.W.codeIn K cd2 "check_numbers" = true) (k2 : PySem.W.keepIn K (.ref f2) = true)
 (a3 : PySem.W.nsIn K mainGlobals "check_deed" = some (some (.ref f3))) (l3 : K.lookup f3 = some ⟨oc3,od3,.func (PySem.W.fnOf "check_deed" "check_deed" (defArgs s_check_deed) (defBody s_check_deed) (defScope s_check_deed) .none kV3 dc3 pm3 an3 cd3 ct3),sl3⟩) (c3 : PySem.W.codeIn K cd3 "check_deed" = true) (k3 : PySem.W.keepIn K (.ref f3) = true)
 (a4 : PySem.W.nsIn K mainGlobals "moved_value" = some (some (.ref f4))) (l4 : K.lookup f4 = some ⟨oc4,od4,.func (PySem.W.fnOf "moved_value" "moved_value" (defArgs s_moved_value) (defBody s_moved_value) (defScope s_moved_value) .none kV4 dc4 pm4 an4 cd4 ct4),sl4⟩) (c4 : PySem.W.codeIn K cd4 "moved_value" = true) (k4 : PySem.W.keepIn K (.ref f4) = true)
 (a5 : PySem.W.nsIn K mainGlobals "state_behind" = some (some (.ref f5))) (l5 : K.lookup f5 = some ⟨oc5,od5,.func (PySem.W.fnOf "state_behind" "state_behind" (defArgs s_state_behind) (defBody s_state_behind) (defScope s_state_behind) .none kV5 dc5 pm5 an5 cd5 ct5),sl5⟩) (c5 : PySem.W.codeIn K cd5 "state_behind" = true) (k5 : PySem.W.keepIn K (.ref f5) = true)
 (a6 : PySem.W.nsIn K mainGlobals "is_name" = some (some (.ref f6))) (l6 : K.lookup f6 = some ⟨oc6,od6,.func (PySem.W.fnOf "is_name" "is_name" (defArgs s_is_name) (defBody s_is_name) (defScope s_is_name) .none kV6 dc6 pm6 an6 cd6 ct6),sl6⟩) (c6 : PySem.W.codeIn K cd6 "is_name" = true) (k6 : PySem.W.keepIn K (.ref f6) = true)
 (a7 : PySem.W.nsIn K mainGlobals "is_leaf" = some (some (.ref f7))) (l7 : K.lookup f7 = some ⟨oc7,od7,.func (PySem.W.fnOf "is_leaf" "is_leaf" (defArgs s_is_leaf) (defBody s_is_leaf) (defScope s_is_leaf) .none kV7 dc7 pm7 an7 cd7 ct7),sl7⟩) (c7 : PySem.W.codeIn K cd7 "is_leaf" = true) (k7 : PySem.W.keepIn K (.ref f7) = true)
 (a8 : PySem.W.nsIn K mainGlobals "places" = some (some (.ref f8))) (l8 : K.lookup f8 = some ⟨oc8,od8,.func (PySem.W.fnOf "places" "places" (defArgs s_places) (defBody s_places) (defScope s_places) .none kV8 dc8 pm8 an8 cd8 ct8),sl8⟩) (c8 : PySem.W.codeIn K cd8 "places" = true) (k8 : PySem.W.keepIn K (.ref f8) = true)
 (a9 : PySem.W.nsIn K mainGlobals "leaves" = some (some (.ref f9))) (l9 : K.lookup f9 = some ⟨oc9,od9,.func (PySem.W.fnOf "leaves" "leaves" (defArgs s_leaves) (defBody s_leaves) (defScope s_leaves) .none kV9 dc9 pm9 an9 cd9 ct9),sl9⟩) (c9 : PySem.W.codeIn K cd9 "leaves" = true) (k9 : PySem.W.keepIn K (.ref f9) = true)
 (a10 : PySem.W.nsIn K mainGlobals "part_at" = some (some (.ref f10))) (l10 : K.lookup f10 = some ⟨oc10,od10,.func (PySem.W.fnOf "part_at" "part_at" (defArgs s_part_at) (defBody s_part_at) (defScope s_part_at) .none kV10 dc10 pm10 an10 cd10 ct10),sl10⟩) (c10 : PySem.W.codeIn K cd10 "part_at" = true) (k10 : PySem.W.keepIn K (.ref f10) = true)
 (a11 : PySem.W.nsIn K mainGlobals "place_of" = some (some (.ref f11))) (l11 : K.lookup f11 = some ⟨oc11,od11,.func (PySem.W.fnOf "place_of" "place_of" (defArgs s_place_of) (defBody s_place_of) (defScope s_place_of) .none kV11 dc11 pm11 an11 cd11 ct11),sl11⟩) (c11 : PySem.W.codeIn K cd11 "place_of" = true) (k11 : PySem.W.keepIn K (.ref f11) = true)
 (a12 : PySem.W.nsIn K mainGlobals "deeper_than" = some (some (.ref f12))) (l12 : K.lookup f12 = some ⟨oc12,od12,.func (PySem.W.fnOf "deeper_than" "deeper_than" (defArgs s_deeper_than) (defBody s_deeper_than) (defScope s_deeper_than) .none kV12 dc12 pm12 an12 cd12 ct12),sl12⟩) (c12 : PySem.W.codeIn K cd12 "deeper_than" = true) (k12 : PySem.W.keepIn K (.ref f12) = true)
 (a13 : PySem.W.nsIn K mainGlobals "check_size" = some (some (.ref f13))) (l13 : K.lookup f13 = some ⟨oc13,od13,.func (PySem.W.fnOf "check_size" "check_size" (defArgs s_check_size) (defBody s_check_size) (defScope s_check_size) .none kV13 dc13 pm13 an13 cd13 ct13),sl13⟩) (c13 : PySem.W.codeIn K cd13 "check_size" = true) (k13 : PySem.W.keepIn K (.ref f13) = true)
 (a14 : PySem.W.nsIn K mainGlobals "check_names" = some (some (.ref f14))) (l14 : K.lookup f14 = some ⟨oc14,od14,.func (PySem.W.fnOf "check_names" "check_names" (defArgs s_check_names) (defBody s_check_names) (defScope s_check_names) .none kV14 dc14 pm14 an14 cd14 ct14),sl14⟩) (c14 : PySem.W.codeIn K cd14 "check_names" = true) (k14 : PySem.W.keepIn K (.ref f14) = true)
 (a15 : PySem.W.nsIn K mainGlobals "formula" = some (some (.ref f15))) (l15 : K.lookup f15 = some ⟨oc15,od15,.func (PySem.W.fnOf "formula" "formula" (defArgs s_formula) (defBody s_formula) (defScope s_formula) .none kV15 dc15 pm15 an15 cd15 ct15),sl15⟩) (c15 : PySem.W.codeIn K cd15 "formula" = true) (k15 : PySem.W.keepIn K (.ref f15) = true)
 (a16 : PySem.W.nsIn K mainGlobals "fresh" = some (some (.ref f16))) (l16 : K.lookup f16 = some ⟨oc16,od16,.func (PySem.W.fnOf "fresh" "fresh" (defArgs s_fresh) (defBody s_fresh) (defScope s_fresh) .none kV16 dc16 pm16 an16 cd16 ct16),sl16⟩) (c16 : PySem.W.codeIn K cd16 "fresh" = true) (k16 : PySem.W.keepIn K (.ref f16) = true)
 (a17 : PySem.W.nsIn K mainGlobals "knot_over" = some (some (.ref f17))) (l17 : K.lookup f17 = some ⟨oc17,od17,.func (PySem.W.fnOf "knot_over" "knot_over" (defArgs s_knot_over) (defBody s_knot_over) (defScope s_knot_over) .none kV17 dc17 pm17 an17 cd17 ct17),sl17⟩) (c17 : PySem.W.codeIn K cd17 "knot_over" = true) (k17 : PySem.W.keepIn K (.ref f17) = true)
 (a18 : PySem.W.nsIn K mainGlobals "mark_brought" = some (some (.ref f18))) (l18 : K.lookup f18 = some ⟨oc18,od18,.func (PySem.W.fnOf "mark_brought" "mark_brought" (defArgs s_mark_brought) (defBody s_mark_brought) (defScope s_mark_brought) .none kV18 dc18 pm18 an18 cd18 ct18),sl18⟩) (c18 : PySem.W.codeIn K cd18 "mark_brought" = true) (k18 : PySem.W.keepIn K (.ref f18) = true)
 (a19 : PySem.W.nsIn K mainGlobals "marked" = some (some (.ref f19))) (l19 : K.lookup f19 = some ⟨oc19,od19,.func (PySem.W.fnOf "marked" "marked" (defArgs s_marked) (defBody s_marked) (defScope s_marked) .none kV19 dc19 pm19 an19 cd19 ct19),sl19⟩) (c19 : PySem.W.codeIn K cd19 "marked" = true) (k19 : PySem.W.keepIn K (.ref f19) = true)
 (a20 : PySem.W.nsIn K mainGlobals "moments" = some (some (.ref f20))) (l20 : K.lookup f20 = some ⟨oc20,od20,.func (PySem.W.fnOf "moments" "moments" (defArgs s_moments) (defBody s_moments) (defScope s_moments) .none kV20 dc20 pm20 an20 cd20 ct20),sl20⟩) (c20 : PySem.W.codeIn K cd20 "moments" = true) (k20 : PySem.W.keepIn K (.ref f20) = true)
 (a21 : PySem.W.nsIn K mainGlobals "formula_held" = some (some (.ref f21))) (l21 : K.lookup f21 = some ⟨oc21,od21,.func (PySem.W.fnOf "formula_held" "formula_held" (defArgs s_formula_held) (defBody s_formula_held) (defScope s_formula_held) .none kV21 dc21 pm21 an21 cd21 ct21),sl21⟩) (c21 : PySem.W.codeIn K cd21 "formula_held" = true) (k21 : PySem.W.keepIn K (.ref f21) = true)
 (a22 : PySem.W.nsIn K mainGlobals "rank" = some (some (.ref f22))) (l22 : K.lookup f22 = some ⟨oc22,od22,.func (PySem.W.fnOf "rank" "rank" (defArgs s_rank) (defBody s_rank) (defScope s_rank) .none kV22 dc22 pm22 an22 cd22 ct22),sl22⟩) (c22 : PySem.W.codeIn K cd22 "rank" = true) (k22 : PySem.W.keepIn K (.ref f22) = true)
 (a23 : PySem.W.nsIn K mainGlobals "puts" = some (some (.ref f23))) (l23 : K.lookup f23 = some ⟨oc23,od23,.func (PySem.W.fnOf "puts" "puts" (defArgs s_puts) (defBody s_puts) (defScope s_puts) .none kV23 dc23 pm23 an23 cd23 ct23),sl23⟩) (c23 : PySem.W.codeIn K cd23 "puts" = true) (k23 : PySem.W.keepIn K (.ref f23) = true)
 (a24 : PySem.W.nsIn K mainGlobals "must_put" = some (some (.ref f24))) (l24 : K.lookup f24 = some ⟨oc24,od24,.func (PySem.W.fnOf "must_put" "must_put" (defArgs s_must_put) (defBody s_must_put) (defScope s_must_put) .none kV24 dc24 pm24 an24 cd24 ct24),sl24⟩) (c24 : PySem.W.codeIn K cd24 "must_put" = true) (k24 : PySem.W.keepIn K (.ref f24) = true)
 (a25 : PySem.W.nsIn K mainGlobals "least" = some (some (.ref f25))) (l25 : K.lookup f25 = some ⟨oc25,od25,.func (PySem.W.fnOf "least" "least" (defArgs s_least) (defBody s_least) (defScope s_least) .none kV25 dc25 pm25 an25 cd25 ct25),sl25⟩) (c25 : PySem.W.codeIn K cd25 "least" = true) (k25 : PySem.W.keepIn K (.ref f25) = true)
 (a26 : PySem.W.nsIn K mainGlobals "show_deed" = some (some (.ref f26))) (l26 : K.lookup f26 = some ⟨oc26,od26,.func (PySem.W.fnOf "show_deed" "show_deed" (defArgs s_show_deed) (defBody s_show_deed) (defScope s_show_deed) .none kV26 dc26 pm26 an26 cd26 ct26),sl26⟩) (c26 : PySem.W.codeIn K cd26 "show_deed" = true) (k26 : PySem.W.keepIn K (.ref f26) = true)
 (a27 : PySem.W.nsIn K mainGlobals "show_row" = some (some (.ref f27))) (l27 : K.lookup f27 = some ⟨oc27,od27,.func (PySem.W.fnOf "show_row" "show_row" (defArgs s_show_row) (defBody s_show_row) (defScope s_show_row) .none kV27 dc27 pm27 an27 cd27 ct27),sl27⟩) (c27 : PySem.W.codeIn K cd27 "show_row" = true) (k27 : PySem.W.keepIn K (.ref f27) = true)
 (a28 : PySem.W.nsIn K mainGlobals "is_number" = some (some (.ref f28))) (l28 : K.lookup f28 = some ⟨oc28,od28,.func (PySem.W.fnOf "is_number" "is_number" (defArgs s_is_number) (defBody s_is_number) (defScope s_is_number) .none kV28 dc28 pm28 an28 cd28 ct28),sl28⟩) (c28 : PySem.W.codeIn K cd28 "is_number" = true) (k28 : PySem.W.keepIn K (.ref f28) = true)
 (a29 : PySem.W.nsIn K mainGlobals "read_part" = some (some (.ref f29))) (l29 : K.lookup f29 = some ⟨oc29,od29,.func (PySem.W.fnOf "read_part" "read_part" (defArgs s_read_part) (defBody s_read_part) (defScope s_read_part) .none kV29 dc29 pm29 an29 cd29 ct29),sl29⟩) (c29 : PySem.W.codeIn K cd29 "read_part" = true) (k29 : PySem.W.keepIn K (.ref f29) = true)
 (a30 : PySem.W.nsIn K mainGlobals "read_deed" = some (some (.ref f30))) (l30 : K.lookup f30 = some ⟨oc30,od30,.func (PySem.W.fnOf "read_deed" "read_deed" (defArgs s_read_deed) (defBody s_read_deed) (defScope s_read_deed) .none kV30 dc30 pm30 an30 cd30 ct30),sl30⟩) (c30 : PySem.W.codeIn K cd30 "read_deed" = true) (k30 : PySem.W.keepIn K (.ref f30) = true)
 (a31 : PySem.W.nsIn K mainGlobals "read_row" = some (some (.ref f31))) (l31 : K.lookup f31 = some ⟨oc31,od31,.func (PySem.W.fnOf "read_row" "read_row" (defArgs s_read_row) (defBody s_read_row) (defScope s_read_row) .none kV31 dc31 pm31 an31 cd31 ct31),sl31⟩) (c31 : PySem.W.codeIn K cd31 "read_row" = true) (k31 : PySem.W.keepIn K (.ref f31) = true)
 (a32 : PySem.W.nsIn K mainGlobals "show" = some (some (.ref f32))) (l32 : K.lookup f32 = some ⟨oc32,od32,.func (PySem.W.fnOf "show" "show" (defArgs s_show) (defBody s_show) (defScope s_show) .none kV32 dc32 pm32 an32 cd32 ct32),sl32⟩) (c32 : PySem.W.codeIn K cd32 "show" = true) (k32 : PySem.W.keepIn K (.ref f32) = true)
 (a33 : PySem.W.nsIn K mainGlobals "name_end" = some (some (.ref f33))) (l33 : K.lookup f33 = some ⟨oc33,od33,.func (PySem.W.fnOf "name_end" "name_end" (defArgs s_name_end) (defBody s_name_end) (defScope s_name_end) .none kV33 dc33 pm33 an33 cd33 ct33),sl33⟩) (c33 : PySem.W.codeIn K cd33 "name_end" = true) (k33 : PySem.W.keepIn K (.ref f33) = true)
 (a34 : PySem.W.nsIn K mainGlobals "past" = some (some (.ref f34))) (l34 : K.lookup f34 = some ⟨oc34,od34,.func (PySem.W.fnOf "past" "past" (defArgs s_past) (defBody s_past) (defScope s_past) .none kV34 dc34 pm34 an34 cd34 ct34),sl34⟩) (c34 : PySem.W.codeIn K cd34 "past" = true) (k34 : PySem.W.keepIn K (.ref f34) = true)
 (a35 : PySem.W.nsIn K mainGlobals "tree_from" = some (some (.ref f35))) (l35 : K.lookup f35 = some ⟨oc35,od35,.func (PySem.W.fnOf "tree_from" "tree_from" (defArgs s_tree_from) (defBody s_tree_from) (defScope s_tree_from) .none kV35 dc35 pm35 an35 cd35 ct35),sl35⟩) (c35 : PySem.W.codeIn K cd35 "tree_from" = true) (k35 : PySem.W.keepIn K (.ref f35) = true)
 (a36 : PySem.W.nsIn K mainGlobals "read" = some (some (.ref f36))) (l36 : K.lookup f36 = some ⟨oc36,od36,.func (PySem.W.fnOf "read" "read" (defArgs s_read) (defBody s_read) (defScope s_read) .none kV36 dc36 pm36 an36 cd36 ct36),sl36⟩) (c36 : PySem.W.codeIn K cd36 "read" = true) (k36 : PySem.W.keepIn K (.ref f36) = true)
 (a37 : PySem.W.nsIn K mainGlobals "figures" = some (some (.ref f37))) (l37 : K.lookup f37 = some ⟨oc37,od37,.func (PySem.W.fnOf "figures" "figures" (defArgs s_figures) (defBody s_figures) (defScope s_figures) .none kV37 dc37 pm37 an37 cd37 ct37),sl37⟩) (c37 : PySem.W.codeIn K cd37 "figures" = true) (k37 : PySem.W.keepIn K (.ref f37) = true)
 (a38 : PySem.W.nsIn K mainGlobals "judge" = some (some (.ref f38))) (l38 : K.lookup f38 = some ⟨oc38,od38,.func (PySem.W.fnOf "judge" "judge" (defArgs s_judge) (defBody s_judge) (defScope s_judge) .none kV38 dc38 pm38 an38 cd38 ct38),sl38⟩) (c38 : PySem.W.codeIn K cd38 "judge" = true) (k38 : PySem.W.keepIn K (.ref f38) = true)
 (a39 : PySem.W.nsIn K mainGlobals "row_by_shelf" = some (some (.ref f39))) (l39 : K.lookup f39 = some ⟨oc39,od39,.func (PySem.W.fnOf "row_by_shelf" "row_by_shelf" (defArgs s_row_by_shelf) (defBody s_row_by_shelf) (defScope s_row_by_shelf) .none kV39 dc39 pm39 an39 cd39 ct39),sl39⟩) (c39 : PySem.W.codeIn K cd39 "row_by_shelf" = true) (k39 : PySem.W.keepIn K (.ref f39) = true)
 (a40 : PySem.W.nsIn K mainGlobals "row_by_boxes" = some (some (.ref f40))) (l40 : K.lookup f40 = some ⟨oc40,od40,.func (PySem.W.fnOf "row_by_boxes" "row_by_boxes" (defArgs s_row_by_boxes) (defBody s_row_by_boxes) (defScope s_row_by_boxes) .none kV40 dc40 pm40 an40 cd40 ct40),sl40⟩) (c40 : PySem.W.codeIn K cd40 "row_by_boxes" = true) (k40 : PySem.W.keepIn K (.ref f40) = true)
 (a41 : PySem.W.nsIn K mainGlobals "row_into" = some (some (.ref f41))) (l41 : K.lookup f41 = some ⟨oc41,od41,.func (PySem.W.fnOf "row_into" "row_into" (defArgs s_row_into) (defBody s_row_into) (defScope s_row_into) .none kV41 dc41 pm41 an41 cd41 ct41),sl41⟩) (c41 : PySem.W.codeIn K cd41 "row_into" = true) (k41 : PySem.W.keepIn K (.ref f41) = true)
 (a42 : PySem.W.nsIn K mainGlobals "row_for" = some (some (.ref f42))) (l42 : K.lookup f42 = some ⟨oc42,od42,.func (PySem.W.fnOf "row_for" "row_for" (defArgs s_row_for) (defBody s_row_for) (defScope s_row_for) .none kV42 dc42 pm42 an42 cd42 ct42),sl42⟩) (c42 : PySem.W.codeIn K cd42 "row_for" = true) (k42 : PySem.W.keepIn K (.ref f42) = true)
 (a43 : PySem.W.nsIn K mainGlobals "_law_at" = some (some (.ref f43))) (l43 : K.lookup f43 = some ⟨oc43,od43,.func (PySem.W.fnOf "_law_at" "_law_at" (defArgs s__law_at) (defBody s__law_at) (defScope s__law_at) .none kV43 dc43 pm43 an43 cd43 ct43),sl43⟩) (c43 : PySem.W.codeIn K cd43 "_law_at" = true) (k43 : PySem.W.keepIn K (.ref f43) = true)
 (a44 : PySem.W.nsIn K mainGlobals "_law_names" = some (some (.ref f44))) (l44 : K.lookup f44 = some ⟨oc44,od44,.func (PySem.W.fnOf "_law_names" "_law_names" (defArgs s__law_names) (defBody s__law_names) (defScope s__law_names) .none kV44 dc44 pm44 an44 cd44 ct44),sl44⟩) (c44 : PySem.W.codeIn K cd44 "_law_names" = true) (k44 : PySem.W.keepIn K (.ref f44) = true)
 (a45 : PySem.W.nsIn K mainGlobals "_law_many" = some (some (.ref f45))) (l45 : K.lookup f45 = some ⟨oc45,od45,.func (PySem.W.fnOf "_law_many" "_law_many" (defArgs s__law_many) (defBody s__law_many) (defScope s__law_many) .none kV45 dc45 pm45 an45 cd45 ct45),sl45⟩) (c45 : PySem.W.codeIn K cd45 "_law_many" = true) (k45 : PySem.W.keepIn K (.ref f45) = true)
 (a46 : PySem.W.nsIn K mainGlobals "_law_second" = some (some (.ref f46))) (l46 : K.lookup f46 = some ⟨oc46,od46,.func (PySem.W.fnOf "_law_second" "_law_second" (defArgs s__law_second) (defBody s__law_second) (defScope s__law_second) .none kV46 dc46 pm46 an46 cd46 ct46),sl46⟩) (c46 : PySem.W.codeIn K cd46 "_law_second" = true) (k46 : PySem.W.keepIn K (.ref f46) = true)
 (a47 : PySem.W.nsIn K mainGlobals "_law_tree" = some (some (.ref f47))) (l47 : K.lookup f47 = some ⟨oc47,od47,.func (PySem.W.fnOf "_law_tree" "_law_tree" (defArgs s__law_tree) (defBody s__law_tree) (defScope s__law_tree) .none kV47 dc47 pm47 an47 cd47 ct47),sl47⟩) (c47 : PySem.W.codeIn K cd47 "_law_tree" = true) (k47 : PySem.W.keepIn K (.ref f47) = true)
 (a48 : PySem.W.nsIn K mainGlobals "_law_ranks" = some (some (.ref f48))) (l48 : K.lookup f48 = some ⟨oc48,od48,.func (PySem.W.fnOf "_law_ranks" "_law_ranks" (defArgs s__law_ranks) (defBody s__law_ranks) (defScope s__law_ranks) .none kV48 dc48 pm48 an48 cd48 ct48),sl48⟩) (c48 : PySem.W.codeIn K cd48 "_law_ranks" = true) (k48 : PySem.W.keepIn K (.ref f48) = true)
 (a49 : PySem.W.nsIn K mainGlobals "law" = some (some (.ref f49))) (l49 : K.lookup f49 = some ⟨oc49,od49,.func (PySem.W.fnOf "law" "law" (defArgs s_law) (defBody s_law) (defScope s_law) .none kV49 dc49 pm49 an49 cd49 ct49),sl49⟩) (c49 : PySem.W.codeIn K cd49 "law" = true) (k49 : PySem.W.keepIn K (.ref f49) = true)
 (v0 : PySem.W.nsIn K mainGlobals "BOXES_TOLD" = some (some (.int 10000 tk0)))
 (v1 : PySem.W.nsIn K mainGlobals "LONGEST_NAME" = some (some (.int 8 tk1)))
 (v2 : PySem.W.nsIn K mainGlobals "MOST_DEEP" = some (some (.int 24 tk2)))
 (v3 : PySem.W.nsIn K mainGlobals "MOST_FIGURES" = some (some (.int 4 tk3)))
 (v4 : PySem.W.nsIn K mainGlobals "MOST_LEAVES" = some (some (.int 32 tk4)))
 (v5 : PySem.W.nsIn K mainGlobals "SHELF_PLACES" = some (some (.int 100 tk5)))
 (z0 : PySem.W.nsIn K mainGlobals "all" = some none)
 (z1 : PySem.W.nsIn K mainGlobals "any" = some none)
 (z2 : PySem.W.nsIn K mainGlobals "int" = some none)
 (z3 : PySem.W.nsIn K mainGlobals "len" = some none)
 (z4 : PySem.W.nsIn K mainGlobals "list" = some none)
 (z5 : PySem.W.nsIn K mainGlobals "max" = some none)
 (z6 : PySem.W.nsIn K mainGlobals "min" = some none)
 (z7 : PySem.W.nsIn K mainGlobals "range" = some none)
 (z8 : PySem.W.nsIn K mainGlobals "str" = some none)
 (z9 : PySem.W.nsIn K mainGlobals "tuple" = some none)
 (z10 : PySem.W.nsIn K mainGlobals "zip" = some none)
 (ea_NoDeed : PySem.W.nsIn K mainGlobals "NoDeed" = some (some (.ref C_NoDeed)))
 (ex_NoDeed : PySem.W.excIn K C_NoDeed bmV "ValueError.__new__" = true)
 (ea_TooFew : PySem.W.nsIn K mainGlobals "TooFew" = some (some (.ref C_TooFew)))
 (ex_TooFew : PySem.W.excIn K C_TooFew bmV "ValueError.__new__" = true) {pA pt1 pt2 pt3 pt4 : Addr} {ph1 ph2 ph3 ph4 : Int} {pq1 pq2 pq3 pq4 : Tok} {pe pn1 pn2 pn3 pn4 : Nat} {po1 po2 po3 po4 : Option Addr} {ps1 ps2 ps3 ps4 : Array (Option Value)} {pr0 pr1 pr2 pr3 pr4 pr5 pr6 pr7 pr8 pr9 : Tok} (pa : PySem.W.nsIn K mainGlobals "PARTS" = some (some (.ref pA))) (pd : K.lookup pA = some { cls := .type "dict",dict := none,data := .dict #[⟨ph1,.str (Str.ofString "take") pq1,.ref pt1⟩,⟨ph2,.str (Str.ofString "join") pq2,.ref pt2⟩,⟨ph3,.str (Str.ofString "put") pq3,.ref pt3⟩,⟨ph4,.str (Str.ofString "fetch") pq4,.ref pt4⟩] pe,slots := #[] }) (pk1 : K.lookup pt1 = some ⟨.type "tuple",po1,.seq #[.str (Str.ofString "name") pr0,.str (Str.ofString "number") pr1] pn1,ps1⟩) (pk2 : K.lookup pt2 = some ⟨.type "tuple",po2,.seq #[.str (Str.ofString "name") pr2,.str (Str.ofString "number") pr3,.str (Str.ofString "number") pr4,.str (Str.ofString "number") pr5] pn2,ps2⟩) (pk3 : K.lookup pt3 = some ⟨.type "tuple",po3,.seq #[.str (Str.ofString "number") pr6,.str (Str.ofString "number") pr7] pn3,ps3⟩) (pk4 : K.lookup pt4 = some ⟨.type "tuple",po4,.seq #[.str (Str.ofString "number") pr8,.str (Str.ofString "number") pr9] pn4,ps4⟩) (ph1' : ph1 = hashStr w (Str.ofString "take")) (ph2' : ph2 = hashStr w (Str.ofString "join")) (ph3' : ph3 = hashStr w (Str.ofString "put")) (ph4' : ph4 = hashStr w (Str.ofString "fetch")) (pz : (pA == sysModules) = false) (hfa : mg "law" = some (.ref fa)) :
 ∃ fd : FuncData,(∀ (s : Shared) (v : Value),BindsTo s fd ⟨[v],[]⟩ [("script",v)]) ∧ ∀ base : Heap,K.In base → base.Ns mainGlobals mg → FnOk l.prog w K mg base (CXE l.prog w) 60 fa fd ["script"] (spLaw K) := by
 obtain ⟨T,e,b⟩ : ∃ T : Txt K mg,T.f_law = f49 ∧ (∀ (s : Shared) (v : Value),BindsTo s T.d_law ⟨[v],[]⟩ [("script",v)]) := by
  have F0 := fun_mk (st := s_box_numbers) l0 c0 k0
  have b0 := F0.binds1 (ps := ["deed"]) rfl fun _ _ _ _ _ _ _ => rfl
  have F1 := fun_mk (st := s_shelf_numbers) l1 c1 k1
  have b1 := F1.binds1 (ps := ["deed"]) rfl fun _ _ _ _ _ _ _ => rfl
  have F2 := fun_mk (st := s_check_numbers) l2 c2 k2
  have b2 := F2.binds3 (ps := ["deed","asked","there"]) rfl fun _ _ _ _ _ _ _ _ _ => rfl
  have F3 := fun_mk (st := s_check_deed) l3 c3 k3
  have b3 := F3.binds2 (ps := ["deed","state"]) rfl fun _ _ _ _ _ _ _ _ => rfl
  have F4 := fun_mk (st := s_moved_value) l4 c4 k4
  have b4 := F4.binds2 (ps := ["deed","state"]) rfl fun _ _ _ _ _ _ _ _ => rfl
  have F5 := fun_mk (st := s_state_behind) l5 c5 k5
  have b5 := F5.binds3 (ps := ["deed","state","value"]) rfl fun _ _ _ _ _ _ _ _ _ => rfl
  have F6 := fun_mk (st := s_is_name) l6 c6 k6
  have b6 := F6.binds1 (ps := ["text"]) rfl fun _ _ _ _ _ _ _ => rfl
  have F7 := fun_mk (st := s_is_leaf) l7 c7 k7
  have b7 := F7.binds1 (ps := ["tree"]) rfl fun _ _ _ _ _ _ _ => rfl
  have F8 := fun_mk (st := s_places) l8 c8 k8
  have b8 := F8.binds1 (ps := ["tree"]) rfl fun _ _ _ _ _ _ _ => rfl
  have F9 := fun_mk (st := s_leaves) l9 c9 k9
  have b9 := F9.binds1 (ps := ["tree"]) rfl fun _ _ _ _ _ _ _ => rfl
  have F10 := fun_mk (st := s_part_at) l10 c10 k10
  have b10 := F10.binds2 (ps := ["tree","place"]) rfl fun _ _ _ _ _ _ _ _ => rfl
  have F11 := fun_mk (st := s_place_of) l11 c11 k11
  have b11 := F11.binds2 (ps := ["tree","x"]) rfl fun _ _ _ _ _ _ _ _ => rfl
  have F12 := fun_mk (st := s_deeper_than) l12 c12 k12
  have b12 := F12.binds2 (ps := ["tree","bound"]) rfl fun _ _ _ _ _ _ _ _ => rfl
  have F13 := fun_mk (st := s_check_size) l13 c13 k13
  have b13 := F13.binds1 (ps := ["tree"]) rfl fun _ _ _ _ _ _ _ => rfl
  have F14 := fun_mk (st := s_check_names) l14 c14 k14
  have b14 := F14.binds1 (ps := ["tree"]) rfl fun _ _ _ _ _ _ _ => rfl
  have F15 := fun_mk (st := s_formula) l15 c15 k15
  have b15 := F15.binds1 (ps := ["tree"]) rfl fun _ _ _ _ _ _ _ => rfl
  have F16 := fun_mk (st := s_fresh) l16 c16 k16
  have b16 := F16.binds2 (ps := ["k","many"]) rfl fun _ _ _ _ _ _ _ _ => rfl
  have F17 := fun_mk (st := s_knot_over) l17 c17 k17
  have b17 := F17.binds4 (ps := ["tree","f","left","right"]) rfl fun _ _ _ _ _ _ _ _ _ _ => rfl
  have F18 := fun_mk (st := s_mark_brought) l18 c18 k18
  have b18 := F18.binds3 (ps := ["tree","deed","state"]) rfl fun _ _ _ _ _ _ _ _ _ => rfl
  have F19 := fun_mk (st := s_marked) l19 c19 k19
  have b19 := F19.binds3 (ps := ["tree","deed","state"]) rfl fun _ _ _ _ _ _ _ _ _ => rfl
  have F20 := fun_mk (st := s_moments) l20 c20 k20
  have b20 := F20.binds4 (ps := ["tree","k","many","row"]) rfl fun _ _ _ _ _ _ _ _ _ _ => rfl
  have F21 := fun_mk (st := s_formula_held) l21 c21 k21
  have b21 := F21.binds1 (ps := ["state"]) rfl fun _ _ _ _ _ _ _ => rfl
  have F22 := fun_mk (st := s_rank) l22 c22 k22
  have b22 := F22.binds1 (ps := ["tree"]) rfl fun _ _ _ _ _ _ _ => rfl
  have F23 := fun_mk (st := s_puts) l23 c23 k23
  have b23 := F23.binds2 (ps := ["tree","k"]) rfl fun _ _ _ _ _ _ _ _ => rfl
  have F24 := fun_mk (st := s_must_put) l24 c24 k24
  have b24 := F24.binds2 (ps := ["tree","k"]) rfl fun _ _ _ _ _ _ _ _ => rfl
  have F25 := fun_mk (st := s_least) l25 c25 k25
  have b25 := F25.binds2 (ps := ["tree","k"]) rfl fun _ _ _ _ _ _ _ _ => rfl
  have F26 := fun_mk (st := s_show_deed) l26 c26 k26
  have b26 := F26.binds1 (ps := ["deed"]) rfl fun _ _ _ _ _ _ _ => rfl
  have F27 := fun_mk (st := s_show_row) l27 c27 k27
  have b27 := F27.binds1 (ps := ["row"]) rfl fun _ _ _ _ _ _ _ => rfl
  have F28 := fun_mk (st := s_is_number) l28 c28 k28
  have b28 := F28.binds1 (ps := ["word"]) rfl fun _ _ _ _ _ _ _ => rfl
  have F29 := fun_mk (st := s_read_part) l29 c29 k29
  have b29 := F29.binds2 (ps := ["kind","word"]) rfl fun _ _ _ _ _ _ _ _ => rfl
  have F30 := fun_mk (st := s_read_deed) l30 c30 k30
  have b30 := F30.binds1 (ps := ["text"]) rfl fun _ _ _ _ _ _ _ => rfl
  have F31 := fun_mk (st := s_read_row) l31 c31 k31
  have b31 := F31.binds1 (ps := ["text"]) rfl fun _ _ _ _ _ _ _ => rfl
  have F32 := fun_mk (st := s_show) l32 c32 k32
  have b32 := F32.binds1 (ps := ["tree"]) rfl fun _ _ _ _ _ _ _ => rfl
  have F33 := fun_mk (st := s_name_end) l33 c33 k33
  have b33 := F33.binds2 (ps := ["text","start"]) rfl fun _ _ _ _ _ _ _ _ => rfl
  have F34 := fun_mk (st := s_past) l34 c34 k34
  have b34 := F34.binds3 (ps := ["text","at","sign"]) rfl fun _ _ _ _ _ _ _ _ _ => rfl
  have F35 := fun_mk (st := s_tree_from) l35 c35 k35
  have b35 := F35.binds3 (ps := ["text","start","level"]) rfl fun _ _ _ _ _ _ _ _ _ => rfl
  have F36 := fun_mk (st := s_read) l36 c36 k36
  have b36 := F36.binds1 (ps := ["text"]) rfl fun _ _ _ _ _ _ _ => rfl
  have F37 := fun_mk (st := s_figures) l37 c37 k37
  have b37 := F37.binds1 (ps := ["row"]) rfl fun _ _ _ _ _ _ _ => rfl
  have F38 := fun_mk (st := s_judge) l38 c38 k38
  have b38 := F38.binds3 (ps := ["text","k","rowtext"]) rfl fun _ _ _ _ _ _ _ _ _ => rfl
  have F39 := fun_mk (st := s_row_by_shelf) l39 c39 k39
  have b39 := F39.binds3 (ps := ["tree","k","shelf"]) rfl fun _ _ _ _ _ _ _ _ _ => rfl
  have F40 := fun_mk (st := s_row_by_boxes) l40 c40 k40
  have b40 := F40.binds4 (ps := ["tree","k","box","shelf"]) rfl fun _ _ _ _ _ _ _ _ _ _ => rfl
  have F41 := fun_mk (st := s_row_into) l41 c41 k41
  have b41 := F41.binds4 (ps := ["tree","k","box","shelf"]) rfl fun _ _ _ _ _ _ _ _ _ _ => rfl
  have F42 := fun_mk (st := s_row_for) l42 c42 k42
  have b42 := F42.binds2 (ps := ["tree","k"]) rfl fun _ _ _ _ _ _ _ _ => rfl
  have F43 := fun_mk (st := s__law_at) l43 c43 k43
  have b43 := F43.binds2 (ps := ["script","k"]) rfl fun _ _ _ _ _ _ _ _ => rfl
  have F44 := fun_mk (st := s__law_names) l44 c44 k44
  have b44 := F44.binds2 (ps := ["cell","many"]) rfl fun _ _ _ _ _ _ _ _ => rfl
  have F45 := fun_mk (st := s__law_many) l45 c45 k45
  have b45 := F45.binds1 (ps := ["script"]) rfl fun _ _ _ _ _ _ _ => rfl
  have F46 := fun_mk (st := s__law_second) l46 c46 k46
  have b46 := F46.binds1 (ps := ["script"]) rfl fun _ _ _ _ _ _ _ => rfl
  have F47 := fun_mk (st := s__law_tree) l47 c47 k47
  have b47 := F47.binds3 (ps := ["script","at","many"]) rfl fun _ _ _ _ _ _ _ _ _ => rfl
  have F48 := fun_mk (st := s__law_ranks) l48 c48 k48
  have b48 := F48.binds2 (ps := ["tree","place"]) rfl fun _ _ _ _ _ _ _ _ => rfl
  have F49 := fun_mk (st := s_law) l49 c49 k49
  have b49 := F49.binds1 (ps := ["script"]) rfl fun _ _ _ _ _ _ _ => rfl
  exact ⟨⟨f0,_,F0,PySem.W.mg_of X G a0,b0,f1,_,F1,PySem.W.mg_of X G a1,b1,f2,_,F2,PySem.W.mg_of X G a2,b2,f3,_,F3,PySem.W.mg_of X G a3,b3,f4,_,F4,PySem.W.mg_of X G a4,b4,f5,_,F5,PySem.W.mg_of X G a5,b5,f6,_,F6,PySem.W.mg_of X G a6,b6,f7,_,F7,PySem.W.mg_of X G a7,b7,f8,_,F8,PySem.W.mg_of X G a8,b8,f9,_,F9,PySem.W.mg_of X G a9,b9,f10,_,F10,PySem.W.mg_of X G a10,b10,f11,_,F11,PySem.W.mg_of X G a11,b11,f12,_,F12,PySem.W.mg_of X G a12,b12,f13,_,F13,PySem.W.mg_of X G a13,b13,f14,_,F14,PySem.W.mg_of X G a14,b14,f15,_,F15,PySem.W.mg_of X G a15,b15,f16,_,F16,PySem.W.mg_of X G a16,b16,f17,_,F17,PySem.W.mg_of X G a17,b17,f18,_,F18,PySem.W.mg_of X G a18,b18,f19,_,F19,PySem.W.mg_of X G a19,b19,f20,_,F20,PySem.W.mg_of X G a20,b20,f21,_,F21,PySem.W.mg_of X G a21,b21,f22,_,F22,PySem.W.mg_of X G a22,b22,f23,_,F23,PySem.W.mg_of X G a23,b23,f24,_,F24,PySem.W.mg_of X G a24,b24,f25,_,F25,PySem.W.mg_of X G a25,b25,f26,_,F26,PySem.W.mg_of X G a26,b26,f27,_,F27,PySem.W.mg_of X G a27,b27,f28,_,F28,PySem.W.mg_of X G a28,b28,f29,_,F29,PySem.W.mg_of X G a29,b29,f30,_,F30,PySem.W.mg_of X G a30,b30,f31,_,F31,PySem.W.mg_of X G a31,b31,f32,_,F32,PySem.W.mg_of X G a32,b32,f33,_,F33,PySem.W.mg_of X G a33,b33,f34,_,F34,PySem.W.mg_of X G a34,b34,f35,_,F35,PySem.W.mg_of X G a35,b35,f36,_,F36,PySem.W.mg_of X G a36,b36,f37,_,F37,PySem.W.mg_of X G a37,b37,f38,_,F38,PySem.W.mg_of X G a38,b38,f39,_,F39,PySem.W.mg_of X G a39,b39,f40,_,F40,PySem.W.mg_of X G a40,b40,f41,_,F41,PySem.W.mg_of X G a41,b41,f42,_,F42,PySem.W.mg_of X G a42,b42,f43,_,F43,PySem.W.mg_of X G a43,b43,f44,_,F44,PySem.W.mg_of X G a44,b44,f45,_,F45,PySem.W.mg_of X G a45,b45,f46,_,F46,PySem.W.mg_of X G a46,b46,f47,_,F47,PySem.W.mg_of X G a47,b47,f48,_,F48,PySem.W.mg_of X G a48,b48,f49,_,F49,PySem.W.mg_of X G a49,b49,PySem.W.mg_none_of X G z0,PySem.W.mg_none_of X G z1,PySem.W.mg_none_of X G z2,PySem.W.mg_none_of X G z3,PySem.W.mg_none_of X G z4,PySem.W.mg_none_of X G z5,PySem.W.mg_none_of X G z6,PySem.W.mg_none_of X G z7,PySem.W.mg_none_of X G z8,PySem.W.mg_none_of X G z9,PySem.W.mg_none_of X G z10,tk0,PySem.W.mg_of X G v0,tk1,PySem.W.mg_of X G v1,tk2,PySem.W.mg_of X G v2,tk3,PySem.W.mg_of X G v3,tk4,PySem.W.mg_of X G v4,tk5,PySem.W.mg_of X G v5,C_NoDeed,PySem.W.mg_of X G ea_NoDeed,ex_NoDeed,C_TooFew,PySem.W.mg_of X G ea_TooFew,ex_TooFew⟩,rfl,fun s v => .of_eq rfl⟩
 have e2 := hfa.symm.trans T.m_law
 cases e2
 exact ⟨T.d_law,b,fun base _ _ => ok_law T ⟨pA,pt1,pt2,pt3,pt4,PySem.W.mg_of X G pa,kd4 pz pd ph1' ph2' ph3' ph4' (by decide +kernel),kt2 pk1,kt4 pk2,kt2 pk3,kt2 pk4⟩⟩
theorem walk {l : PySem.W.OpenLaw} {q : Program} {loose : List Str} {XP : (Str → Option Value) → Heap → Prop} {YP : World → Heap → Prop} {d : DefRec} {K : Params → PySem.W.Frag} (hn : l.most = some 63) (hdf : d.params.defaults = [])
 (hY : ∀ (w : World) (h : Heap),YP w h → (K w.params).In h)
 (F : ∀ (w : World) (mg : Str → Option Value) (fa : Addr) (h : Heap),(K w.params).In h → h.Ns mainGlobals mg → mg d.name = some (.ref fa) →
   ∃ fd : FuncData,(∀ (s : Shared) (u : Value),BindsTo s fd ⟨[u],[]⟩ [("script",u)]) ∧ ∀ base : Heap,(K w.params).In base → base.Ns mainGlobals mg → FnOk l.prog w (K w.params) mg base (CXE l.prog w) 60 fa fd ["script"] (spLaw (K w.params))) :
 PySem.W.WalkO q loose XP YP l.row.toRowW d [] (fun f vs => PySem.call f vs) :=
 L2.walk_of (n := 63) (k := 60) (x := "script") (CX := fun w => (CXE l.prog w)) (sp := fun w => spLaw (K w.params)) hn (by decide) hdf ⟨rfl,by decide,by decide,rfl⟩ hY F (fun _ _ a ns hl _ hS => ⟨a,ns,rfl,hS,hl,fun _ => rfl⟩) fun _ _ _ _ _ z => by obtain ⟨_,_,_,_,_,_,_,_,_,_,_,z⟩ := z; exact z
noncomputable def hE (P : Params) (s : Str) (t : Nat) (v : Value) : DictEntry := ⟨PyData.keyHash P s,.str s t,v⟩
noncomputable def hD (n : Nat) (l : List DictEntry) : Obj := ⟨.type "dict",none,.dict l.toArray n,#[]⟩
noncomputable def hF (n : Str) (i : Nat) (m c : Value) : Obj := ⟨.type "function",none,.func (PySem.W.fnOf n n (defArgs (top i)) (defBody (top i)) (defScope (top i)) .none .none .none m none c .none),#[]⟩
noncomputable def hC (n : Str) (k : Nat) (l a f : Int) (r : Addr) (b : Bool) (g : Int) (u : Addr) (x y z : Value) (h : Nat) : Obj := ⟨.type "code",none,.fields #[.str n k,.str n (k + 1),.str "/claim/cut.py" (k + 2),.int l 0,.int a 0,.int 0 0,.int 0 0,.int f 0,.ref r,.bool b,.int g 0,.ref u,.none,x,y,z,.int h 0,.int l 0,.str "/claim/cut.py" (h + 1)],#[]⟩
noncomputable def hK : Params → PySem.W.Frag := fun P => (nat_lit 3,hD 73 (hE P "__name__" 165 (.str "law_fewboxes_k91_whole_from_texts" 708) :: hE P "__doc__" 166 .none :: hE P "__package__" 167 .none :: hE P "__loader__" 168 (.builtin "__main__.__loader__#opaque") :: hE P "__spec__" 169 .none :: hE P "__annotations__" 170 (.ref 6) :: hE P "__builtins__" 171 (.ref 4) :: hE P "__file__" 173 (.str "/claim/cut.py" 172) :: hE P "__cached__" 174 .none :: hE P "FewError" 206 (.ref 24) :: hE P "NoName" 222 (.ref 37) :: hE P "Twice" 238 (.ref 49) :: hE P "TooBig" 254 (.ref 61) :: hE P "NoText" 270 (.ref 73) :: hE P "TooFew" 286 (.ref 85) :: hE P "NoDeed" 302 (.ref 97) :: hE P "box_numbers" 311 (.ref 106) :: hE P "shelf_numbers" 318 (.ref 113) :: hE P "check_numbers" 328 (.ref 120) :: hE P "check_deed" 336 (.ref 127) :: hE P "moved_value" 344 (.ref 134) :: hE P "state_behind" 355 (.ref 141) :: hE P "LONGEST_NAME" 359 (.int 8 358) :: hE P "MOST_LEAVES" 361 (.int 32 360) :: hE P "MOST_DEEP" 363 (.int 24 362) :: hE P "is_name" 369 (.ref 146) :: hE P "is_leaf" 376 (.ref 153) :: hE P "places" 382 (.ref 158) :: hE P "leaves" 388 (.ref 163) :: hE P "part_at" 398 (.ref 170) :: hE P "place_of" 407 (.ref 177) :: hE P "deeper_than" 415 (.ref 184) :: hE P "check_size" 422 (.ref 191) :: hE P "check_names" 433 (.ref 198) :: hE P "formula" 440 (.ref 205) :: hE P "fresh" 450 (.ref 212) :: hE P "knot_over" 461 (.ref 219) :: hE P "mark_brought" 470 (.ref 226) :: hE P "marked" 479 (.ref 233) :: hE P "moments" 491 (.ref 240) :: hE P "formula_held" 498 (.ref 247) :: hE P "rank" 509 (.ref 254) :: hE P "puts" 517 (.ref 261) :: hE P "must_put" 523 (.ref 266) :: hE P "least" 534 (.ref 273) :: hE P "MOST_FIGURES" 538 (.int 4 537) :: hE P "PARTS" 557 (.ref 274) :: hE P "show_deed" 563 (.ref 283) :: hE P "show_row" 569 (.ref 288) :: hE P "is_number" 575 (.ref 293) :: hE P "read_part" 583 (.ref 300) :: hE P "read_deed" 589 (.ref 305) :: hE P "read_row" 595 (.ref 310) :: hE P "show" 607 (.ref 317) :: hE P "name_end" 616 (.ref 324) :: hE P "past" 625 (.ref 331) :: hE P "tree_from" 638 (.ref 338) :: hE P "read" 647 (.ref 345) :: hE P "SHELF_PLACES" 651 (.int 100 650) :: hE P "BOXES_TOLD" 653 (.int 10000 652) :: hE P "figures" 659 (.ref 350) :: hE P "judge" 665 (.ref 355) :: hE P "row_by_shelf" 678 (.ref 362) :: hE P "row_by_boxes" 689 (.ref 369) :: hE P "row_into" 699 (.ref 376) :: hE P "row_for" 707 (.ref 383) :: hE P "_law_at" 718 (.ref 390) :: hE P "_law_names" 731 (.ref 397) :: hE P "_law_many" 739 (.ref 404) :: hE P "_law_second" 746 (.ref 411) :: hE P "_law_tree" 752 (.ref 416) :: hE P "_law_ranks" 763 (.ref 423) :: hE P "law" 769 (.ref 428) :: [])) ::
 (nat_lit 6,hD 0 ([])) ::
 (nat_lit 24,⟨(.type "type"),none,.cls ⟨"FewError",[(.type "ValueError")],[(.ref 24),(.type "ValueError"),(.type "Exception"),(.type "BaseException"),(.type "object")],23,"FewError",true,[],[(.ref 37),(.ref 49),(.ref 61),(.ref 73),(.ref 85),(.ref 97)],false,none,false⟩,#[some (.ref 15),none,some (.str "FewError" 189),some (.str "FewError" 197),some (.builtin "ValueError.__new__"),some (.bool true)]⟩) ::
 (nat_lit 23,hD 3 (hE P "__module__" 196 (.str "fewboxes.errors" 187) :: hE P "__firstlineno__" 200 (.int 2 199) :: hE P "__static_attributes__" 201 (.ref 22) :: hE P "__weakref__" 203 (.ref 25) :: hE P "__doc__" 204 .none :: [])) ::
 (nat_lit 37,⟨(.type "type"),none,.cls ⟨"NoName",[(.ref 24)],[(.ref 37),(.ref 24),(.type "ValueError"),(.type "Exception"),(.type "BaseException"),(.type "object")],36,"NoName",true,[],[],false,none,false⟩,#[some (.ref 28),none,some (.str "NoName" 207),some (.str "NoName" 215),some (.builtin "ValueError.__new__"),some (.bool true)]⟩) ::
 (nat_lit 36,hD 2 (hE P "__module__" 214 (.str "fewboxes.errors" 187) :: hE P "__firstlineno__" 218 (.int 4 217) :: hE P "__static_attributes__" 219 (.ref 35) :: hE P "__doc__" 220 .none :: [])) ::
 (nat_lit 49,⟨(.type "type"),none,.cls ⟨"Twice",[(.ref 24)],[(.ref 49),(.ref 24),(.type "ValueError"),(.type "Exception"),(.type "BaseException"),(.type "object")],48,"Twice",true,[],[],false,none,false⟩,#[some (.ref 40),none,some (.str "Twice" 223),some (.str "Twice" 231),some (.builtin "ValueError.__new__"),some (.bool true)]⟩) ::
 (nat_lit 48,hD 2 (hE P "__module__" 230 (.str "fewboxes.errors" 187) :: hE P "__firstlineno__" 234 (.int 6 233) :: hE P "__static_attributes__" 235 (.ref 47) :: hE P "__doc__" 236 .none :: [])) ::
 (nat_lit 61,⟨(.type "type"),none,.cls ⟨"TooBig",[(.ref 24)],[(.ref 61),(.ref 24),(.type "ValueError"),(.type "Exception"),(.type "BaseException"),(.type "object")],60,"TooBig",true,[],[],false,none,false⟩,#[some (.ref 52),none,some (.str "TooBig" 239),some (.str "TooBig" 247),some (.builtin "ValueError.__new__"),some (.bool true)]⟩) ::
 (nat_lit 60,hD 2 (hE P "__module__" 246 (.str "fewboxes.errors" 187) :: hE P "__firstlineno__" 250 (.int 8 249) :: hE P "__static_attributes__" 251 (.ref 59) :: hE P "__doc__" 252 .none :: [])) ::
 (nat_lit 73,⟨(.type "type"),none,.cls ⟨"NoText",[(.ref 24)],[(.ref 73),(.ref 24),(.type "ValueError"),(.type "Exception"),(.type "BaseException"),(.type "object")],72,"NoText",true,[],[],false,none,false⟩,#[some (.ref 64),none,some (.str "NoText" 255),some (.str "NoText" 263),some (.builtin "ValueError.__new__"),some (.bool true)]⟩) ::
 (nat_lit 72,hD 2 (hE P "__module__" 262 (.str "fewboxes.errors" 187) :: hE P "__firstlineno__" 266 (.int 10 265) :: hE P "__static_attributes__" 267 (.ref 71) :: hE P "__doc__" 268 .none :: [])) ::
 (nat_lit 85,⟨(.type "type"),none,.cls ⟨"TooFew",[(.ref 24)],[(.ref 85),(.ref 24),(.type "ValueError"),(.type "Exception"),(.type "BaseException"),(.type "object")],84,"TooFew",true,[],[],false,none,false⟩,#[some (.ref 76),none,some (.str "TooFew" 271),some (.str "TooFew" 279),some (.builtin "ValueError.__new__"),some (.bool true)]⟩) ::
 (nat_lit 84,hD 2 (hE P "__module__" 278 (.str "fewboxes.errors" 187) :: hE P "__firstlineno__" 282 (.int 12 281) :: hE P "__static_attributes__" 283 (.ref 83) :: hE P "__doc__" 284 .none :: [])) ::
 (nat_lit 97,⟨(.type "type"),none,.cls ⟨"NoDeed",[(.ref 24)],[(.ref 97),(.ref 24),(.type "ValueError"),(.type "Exception"),(.type "BaseException"),(.type "object")],96,"NoDeed",true,[],[],false,none,false⟩,#[some (.ref 88),none,some (.str "NoDeed" 287),some (.str "NoDeed" 295),some (.builtin "ValueError.__new__"),some (.bool true)]⟩) ::
 (nat_lit 96,hD 2 (hE P "__module__" 294 (.str "fewboxes.errors" 187) :: hE P "__firstlineno__" 298 (.int 14 297) :: hE P "__static_attributes__" 299 (.ref 95) :: hE P "__doc__" 300 .none :: [])) ::
 (nat_lit 106,hF "box_numbers" 9 (.str "fewboxes.machine" 303) (.ref 105)) ::
 (nat_lit 105,hC "box_numbers" 305 17 1 3 100 true 181 101 (.ref 102) (.ref 103) (.ref 104) 309) ::
 (nat_lit 113,hF "shelf_numbers" 10 (.str "fewboxes.machine" 303) (.ref 112)) ::
 (nat_lit 112,hC "shelf_numbers" 312 23 1 3 107 true 181 108 (.ref 109) (.ref 110) (.ref 111) 316) ::
 (nat_lit 120,hF "check_numbers" 11 (.str "fewboxes.machine" 303) (.ref 119)) ::
 (nat_lit 119,hC "check_numbers" 319 29 3 3 114 true 181 115 (.ref 116) (.ref 117) (.ref 118) 326) ::
 (nat_lit 127,hF "check_deed" 12 (.str "fewboxes.machine" 303) (.ref 126)) ::
 (nat_lit 126,hC "check_deed" 329 33 2 3 121 true 181 122 (.ref 123) (.ref 124) (.ref 125) 334) ::
 (nat_lit 134,hF "moved_value" 13 (.str "fewboxes.machine" 303) (.ref 133)) ::
 (nat_lit 133,hC "moved_value" 337 36 2 3 128 true 181 129 (.ref 130) (.ref 131) (.ref 132) 342) ::
 (nat_lit 141,hF "state_behind" 14 (.str "fewboxes.machine" 303) (.ref 140)) ::
 (nat_lit 140,hC "state_behind" 345 40 3 3 135 true 181 136 (.ref 137) (.ref 138) (.ref 139) 353) ::
 (nat_lit 146,hF "is_name" 19 (.str "fewboxes.trees" 356) (.ref 145)) ::
 (nat_lit 145,hC "is_name" 364 52 1 3 142 true 181 143 .none .none (.ref 144) 367) ::
 (nat_lit 153,hF "is_leaf" 20 (.str "fewboxes.trees" 356) (.ref 152)) ::
 (nat_lit 152,hC "is_leaf" 370 54 1 3 147 true 181 148 (.ref 149) (.ref 150) (.ref 151) 374) ::
 (nat_lit 158,hF "places" 21 (.str "fewboxes.trees" 356) (.ref 157)) ::
 (nat_lit 157,hC "places" 377 56 1 3 154 true 181 155 .none .none (.ref 156) 380) ::
 (nat_lit 163,hF "leaves" 22 (.str "fewboxes.trees" 356) (.ref 162)) ::
 (nat_lit 162,hC "leaves" 383 63 1 3 159 true 181 160 .none .none (.ref 161) 386) ::
 (nat_lit 170,hF "part_at" 23 (.str "fewboxes.trees" 356) (.ref 169)) ::
 (nat_lit 169,hC "part_at" 389 65 2 3 164 true 181 165 (.ref 166) (.ref 167) (.ref 168) 396) ::
 (nat_lit 177,hF "place_of" 24 (.str "fewboxes.trees" 356) (.ref 176)) ::
 (nat_lit 176,hC "place_of" 399 70 2 3 171 true 181 172 (.ref 173) (.ref 174) (.ref 175) 405) ::
 (nat_lit 184,hF "deeper_than" 25 (.str "fewboxes.trees" 356) (.ref 183)) ::
 (nat_lit 183,hC "deeper_than" 408 75 2 3 178 true 181 179 (.ref 180) (.ref 181) (.ref 182) 413) ::
 (nat_lit 191,hF "check_size" 26 (.str "fewboxes.trees" 356) (.ref 190)) ::
 (nat_lit 190,hC "check_size" 416 81 1 3 185 true 181 186 (.ref 187) (.ref 188) (.ref 189) 420) ::
 (nat_lit 198,hF "check_names" 27 (.str "fewboxes.trees" 356) (.ref 197)) ::
 (nat_lit 197,hC "check_names" 423 86 1 3 192 true 181 193 (.ref 194) (.ref 195) (.ref 196) 431) ::
 (nat_lit 205,hF "formula" 28 (.str "fewboxes.trees" 356) (.ref 204)) ::
 (nat_lit 204,hC "formula" 434 97 1 3 199 true 181 200 (.ref 201) (.ref 202) (.ref 203) 438) ::
 (nat_lit 212,hF "fresh" 30 (.str "fewboxes.marks" 441) (.ref 211)) ::
 (nat_lit 211,hC "fresh" 443 102 2 3 206 true 181 207 (.ref 208) (.ref 209) (.ref 210) 448) ::
 (nat_lit 219,hF "knot_over" 31 (.str "fewboxes.marks" 441) (.ref 218)) ::
 (nat_lit 218,hC "knot_over" 451 104 4 3 213 true 181 214 (.ref 215) (.ref 216) (.ref 217) 459) ::
 (nat_lit 226,hF "mark_brought" 32 (.str "fewboxes.marks" 441) (.ref 225)) ::
 (nat_lit 225,hC "mark_brought" 462 111 3 3 220 true 181 221 (.ref 222) (.ref 223) (.ref 224) 468) ::
 (nat_lit 233,hF "marked" 33 (.str "fewboxes.marks" 441) (.ref 232)) ::
 (nat_lit 232,hC "marked" 471 117 3 3 227 true 181 228 (.ref 229) (.ref 230) (.ref 231) 477) ::
 (nat_lit 240,hF "moments" 34 (.str "fewboxes.marks" 441) (.ref 239)) ::
 (nat_lit 239,hC "moments" 480 120 4 3 234 true 181 235 (.ref 236) (.ref 237) (.ref 238) 489) ::
 (nat_lit 247,hF "formula_held" 35 (.str "fewboxes.marks" 441) (.ref 246)) ::
 (nat_lit 246,hC "formula_held" 492 125 1 3 241 true 181 242 (.ref 243) (.ref 244) (.ref 245) 496) ::
 (nat_lit 254,hF "rank" 37 (.str "fewboxes.ranks" 499) (.ref 253)) ::
 (nat_lit 253,hC "rank" 501 128 1 3 248 true 181 249 (.ref 250) (.ref 251) (.ref 252) 507) ::
 (nat_lit 261,hF "puts" 38 (.str "fewboxes.ranks" 499) (.ref 260)) ::
 (nat_lit 260,hC "puts" 510 136 2 3 255 true 181 256 (.ref 257) (.ref 258) (.ref 259) 515) ::
 (nat_lit 266,hF "must_put" 39 (.str "fewboxes.ranks" 499) (.ref 265)) ::
 (nat_lit 265,hC "must_put" 518 138 2 3 262 true 181 263 .none .none (.ref 264) 521) ::
 (nat_lit 273,hF "least" 40 (.str "fewboxes.ranks" 499) (.ref 272)) ::
 (nat_lit 272,hC "least" 524 140 2 3 267 true 181 268 (.ref 269) (.ref 270) (.ref 271) 532) ::
 (nat_lit 274,hD 4 (hE P "take" 539 (.ref 275) :: hE P "join" 542 (.ref 276) :: hE P "put" 547 (.ref 277) :: hE P "fetch" 550 (.ref 278) :: [])) ::
 (nat_lit 275,⟨(.type "tuple"),none,.seq #[(.str "name" 540),(.str "number" 541)] 0,#[]⟩) ::
 (nat_lit 276,⟨(.type "tuple"),none,.seq #[(.str "name" 543),(.str "number" 544),(.str "number" 545),(.str "number" 546)] 0,#[]⟩) ::
 (nat_lit 277,⟨(.type "tuple"),none,.seq #[(.str "number" 548),(.str "number" 549)] 0,#[]⟩) ::
 (nat_lit 278,⟨(.type "tuple"),none,.seq #[(.str "number" 551),(.str "number" 552)] 0,#[]⟩) ::
 (nat_lit 283,hF "show_deed" 44 (.str "fewboxes.rowtexts" 535) (.ref 282)) ::
 (nat_lit 282,hC "show_deed" 558 150 1 3 279 true 181 280 .none .none (.ref 281) 561) ::
 (nat_lit 288,hF "show_row" 45 (.str "fewboxes.rowtexts" 535) (.ref 287)) ::
 (nat_lit 287,hC "show_row" 564 152 1 3 284 true 181 285 .none .none (.ref 286) 567) ::
 (nat_lit 293,hF "is_number" 46 (.str "fewboxes.rowtexts" 535) (.ref 292)) ::
 (nat_lit 292,hC "is_number" 570 154 1 3 289 true 181 290 .none .none (.ref 291) 573) ::
 (nat_lit 300,hF "read_part" 47 (.str "fewboxes.rowtexts" 535) (.ref 299)) ::
 (nat_lit 299,hC "read_part" 576 158 2 3 294 true 181 295 (.ref 296) (.ref 297) (.ref 298) 581) ::
 (nat_lit 305,hF "read_deed" 48 (.str "fewboxes.rowtexts" 535) (.ref 304)) ::
 (nat_lit 304,hC "read_deed" 584 164 1 3 301 true 181 302 .none .none (.ref 303) 587) ::
 (nat_lit 310,hF "read_row" 49 (.str "fewboxes.rowtexts" 535) (.ref 309)) ::
 (nat_lit 309,hC "read_row" 590 172 1 3 306 true 181 307 .none .none (.ref 308) 593) ::
 (nat_lit 317,hF "show" 51 (.str "fewboxes.texts" 596) (.ref 316)) ::
 (nat_lit 316,hC "show" 598 177 1 3 311 true 181 312 (.ref 313) (.ref 314) (.ref 315) 605) ::
 (nat_lit 324,hF "name_end" 52 (.str "fewboxes.texts" 596) (.ref 323)) ::
 (nat_lit 323,hC "name_end" 608 184 2 3 318 true 181 319 (.ref 320) (.ref 321) (.ref 322) 614) ::
 (nat_lit 331,hF "past" 53 (.str "fewboxes.texts" 596) (.ref 330)) ::
 (nat_lit 330,hC "past" 617 189 3 3 325 true 181 326 (.ref 327) (.ref 328) (.ref 329) 623) ::
 (nat_lit 338,hF "tree_from" 54 (.str "fewboxes.texts" 596) (.ref 337)) ::
 (nat_lit 337,hC "tree_from" 626 193 3 3 332 true 181 333 (.ref 334) (.ref 335) (.ref 336) 636) ::
 (nat_lit 345,hF "read" 55 (.str "fewboxes.texts" 596) (.ref 344)) ::
 (nat_lit 344,hC "read" 639 203 1 3 339 true 181 340 (.ref 341) (.ref 342) (.ref 343) 645) ::
 (nat_lit 350,hF "figures" 59 (.str "fewboxes.desk" 648) (.ref 349)) ::
 (nat_lit 349,hC "figures" 654 214 1 3 346 true 181 347 .none .none (.ref 348) 657) ::
 (nat_lit 355,hF "judge" 60 (.str "fewboxes.desk" 648) (.ref 354)) ::
 (nat_lit 354,hC "judge" 660 217 3 3 351 true 181 352 .none .none (.ref 353) 663) ::
 (nat_lit 362,hF "row_by_shelf" 62 (.str "fewboxes.maker" 666) (.ref 361)) ::
 (nat_lit 361,hC "row_by_shelf" 668 230 3 3 356 true 181 357 (.ref 358) (.ref 359) (.ref 360) 676) ::
 (nat_lit 369,hF "row_by_boxes" 63 (.str "fewboxes.maker" 666) (.ref 368)) ::
 (nat_lit 368,hC "row_by_boxes" 679 234 4 3 363 true 181 364 (.ref 365) (.ref 366) (.ref 367) 687) ::
 (nat_lit 376,hF "row_into" 64 (.str "fewboxes.maker" 666) (.ref 375)) ::
 (nat_lit 375,hC "row_into" 690 240 4 3 370 true 181 371 (.ref 372) (.ref 373) (.ref 374) 697) ::
 (nat_lit 383,hF "row_for" 65 (.str "fewboxes.maker" 666) (.ref 382)) ::
 (nat_lit 382,hC "row_for" 700 246 2 3 377 true 181 378 (.ref 379) (.ref 380) (.ref 381) 705) ::
 (nat_lit 390,hF "_law_at" 67 (.str "law_fewboxes_k91_whole_from_texts" 708) (.ref 389)) ::
 (nat_lit 389,hC "_law_at" 710 250 2 3 384 true 181 385 (.ref 386) (.ref 387) (.ref 388) 716) ::
 (nat_lit 397,hF "_law_names" 68 (.str "law_fewboxes_k91_whole_from_texts" 708) (.ref 396)) ::
 (nat_lit 396,hC "_law_names" 719 258 2 3 391 true 181 392 (.ref 393) (.ref 394) (.ref 395) 729) ::
 (nat_lit 404,hF "_law_many" 69 (.str "law_fewboxes_k91_whole_from_texts" 708) (.ref 403)) ::
 (nat_lit 403,hC "_law_many" 732 271 1 3 398 true 181 399 (.ref 400) (.ref 401) (.ref 402) 737) ::
 (nat_lit 411,hF "_law_second" 70 (.str "law_fewboxes_k91_whole_from_texts" 708) (.ref 410)) ::
 (nat_lit 410,hC "_law_second" 740 274 1 3 405 true 181 406 (.ref 407) (.ref 408) (.ref 409) 744) ::
 (nat_lit 416,hF "_law_tree" 71 (.str "law_fewboxes_k91_whole_from_texts" 708) (.ref 415)) ::
 (nat_lit 415,hC "_law_tree" 747 278 3 3 412 true 181 413 .none .none (.ref 414) 750) ::
 (nat_lit 423,hF "_law_ranks" 72 (.str "law_fewboxes_k91_whole_from_texts" 708) (.ref 422)) ::
 (nat_lit 422,hC "_law_ranks" 753 293 2 3 417 true 181 418 (.ref 419) (.ref 420) (.ref 421) 761) ::
 (nat_lit 428,hF "law" 73 (.str "law_fewboxes_k91_whole_from_texts" 708) (.ref 427)) ::
 (nat_lit 427,hC "law" 764 300 1 3 424 true 181 425 .none .none (.ref 426) 767) :: []
noncomputable def hV : Program := { PySem.Challenge.pw_fewboxes_k91_whole_from_texts with main := { PySem.Challenge.pw_fewboxes_k91_whole_from_texts.main with body := top 1 :: top 2 :: top 3 :: top 4 :: top 5 :: top 6 :: top 7 :: top 9 :: top 10 :: top 11 :: top 12 :: top 13 :: top 14 :: top 16 :: top 17 :: top 18 :: top 19 :: top 20 :: top 21 :: top 22 :: top 23 :: top 24 :: top 25 :: top 26 :: top 27 :: top 28 :: top 30 :: top 31 :: top 32 :: top 33 :: top 34 :: top 35 :: top 37 :: top 38 :: top 39 :: top 40 :: top 42 :: top 43 :: top 44 :: top 45 :: top 46 :: top 47 :: top 48 :: top 49 :: top 51 :: top 52 :: top 53 :: top 54 :: top 55 :: top 57 :: top 58 :: top 59 :: top 60 :: top 62 :: top 63 :: top 64 :: top 65 :: top 67 :: top 68 :: top 69 :: top 70 :: top 71 :: top 72 :: top 73 :: [] } }
noncomputable def hA : List Addr := 3 :: 6 :: 24 :: 23 :: 37 :: 36 :: 49 :: 48 :: 61 :: 60 :: 73 :: 72 :: 85 :: 84 :: 97 :: 96 :: 106 :: 105 :: 113 :: 112 :: 120 :: 119 :: 127 :: 126 :: 134 :: 133 :: 141 :: 140 :: 146 :: 145 :: 153 :: 152 :: 158 :: 157 :: 163 :: 162 :: 170 :: 169 :: 177 :: 176 :: 184 :: 183 :: 191 :: 190 :: 198 :: 197 :: 205 :: 204 :: 212 :: 211 :: 219 :: 218 :: 226 :: 225 :: 233 :: 232 :: 240 :: 239 :: 247 :: 246 :: 254 :: 253 :: 261 :: 260 :: 266 :: 265 :: 273 :: 272 :: 274 :: 275 :: 276 :: 277 :: 278 :: 283 :: 282 :: 288 :: 287 :: 293 :: 292 :: 300 :: 299 :: 305 :: 304 :: 310 :: 309 :: 317 :: 316 :: 324 :: 323 :: 331 :: 330 :: 338 :: 337 :: 345 :: 344 :: 350 :: 349 :: 355 :: 354 :: 362 :: 361 :: 369 :: 368 :: 376 :: 375 :: 383 :: 382 :: 390 :: 389 :: 397 :: 396 :: 404 :: 403 :: 411 :: 410 :: 416 :: 415 :: 423 :: 422 :: 428 :: 427 :: []
noncomputable def hT (P : Params) : PySem.W.BT := ([PySem.W.boot_o_0 P,PySem.W.boot_o_1 P,PySem.W.boot_o_2 P,PySem.W.boot_o_3 P,PySem.W.boot_o_4 P,PySem.W.boot_o_5 P,PySem.W.boot_o_6 P,PySem.W.boot_o_7 P,PySem.W.boot_o_8 P,PySem.W.boot_o_9 P,PySem.W.boot_o_10 P,⟨(.type "tuple"),none,.seq #[] 0,#[]⟩,⟨.none,none,.fields #[],#[]⟩,hC "<module>" 182 1 0 0 11 false 181 12 .none .none .none 185,⟨(.type "frame"),none,.plain,#[some (.ref 13),some (.ref 3),some (.ref 3),none,some (.str "__main__" 164),none,some (.ref 0)]⟩].foldl (fun (x : PySem.W.BT × Nat) o => (x.1.ins x.2 o,x.2 + 1)) (.nil,0)).1
noncomputable def hS (w : World) (os : OsState) : PySem.W.SharedT := ⟨hT w.params,15,{},Array.mk [],{},187,os⟩
noncomputable def hN : Env := { scope := PySem.Challenge.pw_fewboxes_k91_whole_from_texts.main.scope,locals := mainNs,globals := mainNs,cells := [],code := (.ref 13),frame := some 14 }
noncomputable abbrev hb : List Stmt := PySem.W.behindTheImports PySem.Challenge.pw_fewboxes_k91_whole_from_texts
theorem h1 (w : World) (os : OsState) : PySem.W.topGo PySem.W.Fast.tw14364793385576792824 PySem.Challenge.pw_fewboxes_k91_whole_from_texts w 11 (some (.ref 6)) 12 ⟨PySem.W.boot_heap w.params,Array.mk [],PySem.W.boot_drawn,PySem.W.boot_toks,os⟩ (PySem.W.topStub PySem.Challenge.pw_fewboxes_k91_whole_from_texts) = some ((hS w os).abs,⟨denote PySem.W.Fast.tw14364793385576792824 (.body hb hN),.body hb hN,⟨0,0,0,0⟩,[PySem.W.topFrame ⟨0,0,0,0⟩]⟩) := by
 kernel_rfl
theorem h2 (w : World) (os : OsState) : PySem.W.segRun PySem.W.Fast.tw14364793385576792824 PySem.Challenge.pw_fewboxes_k91_whole_from_texts w 11 (some (.ref 6)) 1 1 (hS w os).abs (PySem.W.blockOf hb hN (.body hb hN) ⟨0,0,0,0⟩ [PySem.W.topFrame ⟨0,0,0,0⟩]) = some (.next,(hS w os).abs,.body hb hN,⟨0,0,0,0⟩) := by
 kernel_rfl
noncomputable def hU (l : List Value) : Obj := ⟨.type "tuple",none,.seq l.toArray 0,#[]⟩
noncomputable def hZ (l : List Value) : Obj := ⟨.none,none,.fields l.toArray,#[]⟩
noncomputable def hG (n : Str) (i : Nat) : Obj := ⟨.none,none,.func ⟨n,n,defArgs (top i),.stmts (defBody (top i)),defScope (top i),0,[],.none,.none,.none,.none,none,.none,.none,0⟩,#[]⟩
noncomputable def hT1 (P : Params) : PySem.W.BT := ((PySem.W.boot_o_0 P ::
 PySem.W.boot_o_1 P ::
 PySem.W.boot_o_2 P ::
 hD 20 (hE P "__name__" 165 (.str "fewboxes.machine" 303) :: hE P "__doc__" 166 .none :: hE P "__package__" 167 .none :: hE P "__loader__" 168 (.builtin "__main__.__loader__#opaque") :: hE P "__spec__" 169 .none :: hE P "__annotations__" 170 (.ref 6) :: hE P "__builtins__" 171 (.ref 4) :: hE P "__file__" 173 (.str "/claim/cut.py" 172) :: hE P "__cached__" 174 .none :: hE P "FewError" 206 (.ref 24) :: hE P "NoName" 222 (.ref 37) :: hE P "Twice" 238 (.ref 49) :: hE P "TooBig" 254 (.ref 61) :: hE P "NoText" 270 (.ref 73) :: hE P "TooFew" 286 (.ref 85) :: hE P "NoDeed" 302 (.ref 97) :: hE P "box_numbers" 311 (.ref 106) :: hE P "shelf_numbers" 318 (.ref 113) :: hE P "check_numbers" 328 (.ref 120) :: hE P "check_deed" 336 (.ref 127) :: []) ::
 PySem.W.boot_o_4 P ::
 PySem.W.boot_o_5 P ::
 PySem.W.boot_o_6 P ::
 PySem.W.boot_o_7 P ::
 PySem.W.boot_o_8 P ::
 PySem.W.boot_o_9 P ::
 PySem.W.boot_o_10 P ::
 hU [] ::
 hZ [(.int 2 0),(.int 0 0),(.ref 20),(.int 4 0),(.int 0 0),(.ref 33),(.int 6 0),(.int 0 0),(.ref 45),(.int 8 0),(.int 0 0),(.ref 57),(.int 10 0),(.int 0 0),(.ref 69),(.int 12 0),(.int 0 0),(.ref 81),(.int 14 0),(.int 0 0),(.ref 93),(.int 17 0),(.int 0 0),(.ref 105),(.int 23 0),(.int 0 0),(.ref 112),(.int 29 0),(.int 0 0),(.ref 119),(.int 33 0),(.int 0 0),(.ref 126)] ::
 hC "<module>" 182 1 0 0 11 false 181 12 .none .none .none 185 ::
 ⟨(.type "frame"),none,.plain,#[some (.ref 13),some (.ref 3),some (.ref 3),none,some (.str "__main__" 164),none,some (.ref 0)]⟩ ::
 hU [(.type "ValueError")] ::
 ⟨(.type "builtin_function_or_method"),none,.fields #[(.builtin "type.__prepare__"),(.type "type")],#[]⟩ ::
 hD 4 (hE P "__module__" 196 (.str "fewboxes.errors" 187) :: hE P "__qualname__" 198 (.str "FewError" 197) :: hE P "__firstlineno__" 200 (.int 2 199) :: hE P "__static_attributes__" 201 (.ref 22) :: []) ::
 hU [] ::
 hZ [] ::
 hC "FewError" 191 2 0 0 18 false 181 19 .none .none .none 194 ::
 ⟨(.type "frame"),none,.plain,#[some (.ref 20),some (.ref 3),some (.ref 17),none,some (.str "fewboxes.errors" 187),none,some (.ref 0)]⟩ ::
 hU [] ::
 hD 3 (hE P "__module__" 196 (.str "fewboxes.errors" 187) :: hE P "__firstlineno__" 200 (.int 2 199) :: hE P "__static_attributes__" 201 (.ref 22) :: hE P "__weakref__" 203 (.ref 25) :: hE P "__doc__" 204 .none :: []) ::
 ⟨(.type "type"),none,.cls ⟨"FewError",[(.type "ValueError")],[(.ref 24),(.type "ValueError"),(.type "Exception"),(.type "BaseException"),(.type "object")],23,"FewError",true,[],[(.ref 37),(.ref 49),(.ref 61),(.ref 73),(.ref 85),(.ref 97)],false,none,false⟩,#[some (.ref 15),none,some (.str "FewError" 189),some (.str "FewError" 197),some (.builtin "ValueError.__new__"),some (.bool true)]⟩ ::
 ⟨(.type "getset_descriptor"),none,.fields #[(.str "__weakref__" 202),(.ref 24),(.builtin "ExceptionGroup.__weakref__"),.none],#[]⟩ ::
 ⟨(.type "super"),none,.fields #[(.ref 24),(.ref 24),(.ref 24)],#[]⟩ ::
 ⟨(.type "builtin_function_or_method"),none,.fields #[(.builtin "object.__init_subclass__"),(.ref 24)],#[]⟩ ::
 hU [(.ref 24)] ::
 ⟨(.type "builtin_function_or_method"),none,.fields #[(.builtin "type.__prepare__"),(.type "type")],#[]⟩ ::
 hD 4 (hE P "__module__" 214 (.str "fewboxes.errors" 187) :: hE P "__qualname__" 216 (.str "NoName" 215) :: hE P "__firstlineno__" 218 (.int 4 217) :: hE P "__static_attributes__" 219 (.ref 35) :: []) ::
 hU [] ::
 hZ [] ::
 hC "NoName" 209 4 0 0 31 false 181 32 .none .none .none 212 ::
 ⟨(.type "frame"),none,.plain,#[some (.ref 33),some (.ref 3),some (.ref 30),none,some (.str "fewboxes.errors" 187),none,some (.ref 0)]⟩ ::
 hU [] ::
 hD 2 (hE P "__module__" 214 (.str "fewboxes.errors" 187) :: hE P "__firstlineno__" 218 (.int 4 217) :: hE P "__static_attributes__" 219 (.ref 35) :: hE P "__doc__" 220 .none :: []) ::
 ⟨(.type "type"),none,.cls ⟨"NoName",[(.ref 24)],[(.ref 37),(.ref 24),(.type "ValueError"),(.type "Exception"),(.type "BaseException"),(.type "object")],36,"NoName",true,[],[],false,none,false⟩,#[some (.ref 28),none,some (.str "NoName" 207),some (.str "NoName" 215),some (.builtin "ValueError.__new__"),some (.bool true)]⟩ ::
 ⟨(.type "super"),none,.fields #[(.ref 37),(.ref 37),(.ref 37)],#[]⟩ ::
 ⟨(.type "builtin_function_or_method"),none,.fields #[(.builtin "object.__init_subclass__"),(.ref 37)],#[]⟩ ::
 hU [(.ref 24)] ::
 ⟨(.type "builtin_function_or_method"),none,.fields #[(.builtin "type.__prepare__"),(.type "type")],#[]⟩ ::
 hD 4 (hE P "__module__" 230 (.str "fewboxes.errors" 187) :: hE P "__qualname__" 232 (.str "Twice" 231) :: hE P "__firstlineno__" 234 (.int 6 233) :: hE P "__static_attributes__" 235 (.ref 47) :: []) ::
 hU [] ::
 hZ [] ::
 hC "Twice" 225 6 0 0 43 false 181 44 .none .none .none 228 ::
 ⟨(.type "frame"),none,.plain,#[some (.ref 45),some (.ref 3),some (.ref 42),none,some (.str "fewboxes.errors" 187),none,some (.ref 0)]⟩ ::
 hU [] ::
 hD 2 (hE P "__module__" 230 (.str "fewboxes.errors" 187) :: hE P "__firstlineno__" 234 (.int 6 233) :: hE P "__static_attributes__" 235 (.ref 47) :: hE P "__doc__" 236 .none :: []) ::
 ⟨(.type "type"),none,.cls ⟨"Twice",[(.ref 24)],[(.ref 49),(.ref 24),(.type "ValueError"),(.type "Exception"),(.type "BaseException"),(.type "object")],48,"Twice",true,[],[],false,none,false⟩,#[some (.ref 40),none,some (.str "Twice" 223),some (.str "Twice" 231),some (.builtin "ValueError.__new__"),some (.bool true)]⟩ ::
 ⟨(.type "super"),none,.fields #[(.ref 49),(.ref 49),(.ref 49)],#[]⟩ ::
 ⟨(.type "builtin_function_or_method"),none,.fields #[(.builtin "object.__init_subclass__"),(.ref 49)],#[]⟩ ::
 hU [(.ref 24)] ::
 ⟨(.type "builtin_function_or_method"),none,.fields #[(.builtin "type.__prepare__"),(.type "type")],#[]⟩ ::
 hD 4 (hE P "__module__" 246 (.str "fewboxes.errors" 187) :: hE P "__qualname__" 248 (.str "TooBig" 247) :: hE P "__firstlineno__" 250 (.int 8 249) :: hE P "__static_attributes__" 251 (.ref 59) :: []) ::
 hU [] ::
 hZ [] ::
 hC "TooBig" 241 8 0 0 55 false 181 56 .none .none .none 244 ::
 ⟨(.type "frame"),none,.plain,#[some (.ref 57),some (.ref 3),some (.ref 54),none,some (.str "fewboxes.errors" 187),none,some (.ref 0)]⟩ ::
 hU [] ::
 hD 2 (hE P "__module__" 246 (.str "fewboxes.errors" 187) :: hE P "__firstlineno__" 250 (.int 8 249) :: hE P "__static_attributes__" 251 (.ref 59) :: hE P "__doc__" 252 .none :: []) ::
 ⟨(.type "type"),none,.cls ⟨"TooBig",[(.ref 24)],[(.ref 61),(.ref 24),(.type "ValueError"),(.type "Exception"),(.type "BaseException"),(.type "object")],60,"TooBig",true,[],[],false,none,false⟩,#[some (.ref 52),none,some (.str "TooBig" 239),some (.str "TooBig" 247),some (.builtin "ValueError.__new__"),some (.bool true)]⟩ ::
 ⟨(.type "super"),none,.fields #[(.ref 61),(.ref 61),(.ref 61)],#[]⟩ ::
 ⟨(.type "builtin_function_or_method"),none,.fields #[(.builtin "object.__init_subclass__"),(.ref 61)],#[]⟩ ::
 hU [(.ref 24)] ::
 ⟨(.type "builtin_function_or_method"),none,.fields #[(.builtin "type.__prepare__"),(.type "type")],#[]⟩ ::
 hD 4 (hE P "__module__" 262 (.str "fewboxes.errors" 187) :: hE P "__qualname__" 264 (.str "NoText" 263) :: hE P "__firstlineno__" 266 (.int 10 265) :: hE P "__static_attributes__" 267 (.ref 71) :: []) ::
 hU [] ::
 hZ [] ::
 hC "NoText" 257 10 0 0 67 false 181 68 .none .none .none 260 ::
 ⟨(.type "frame"),none,.plain,#[some (.ref 69),some (.ref 3),some (.ref 66),none,some (.str "fewboxes.errors" 187),none,some (.ref 0)]⟩ ::
 hU [] ::
 hD 2 (hE P "__module__" 262 (.str "fewboxes.errors" 187) :: hE P "__firstlineno__" 266 (.int 10 265) :: hE P "__static_attributes__" 267 (.ref 71) :: hE P "__doc__" 268 .none :: []) ::
 ⟨(.type "type"),none,.cls ⟨"NoText",[(.ref 24)],[(.ref 73),(.ref 24),(.type "ValueError"),(.type "Exception"),(.type "BaseException"),(.type "object")],72,"NoText",true,[],[],false,none,false⟩,#[some (.ref 64),none,some (.str "NoText" 255),some (.str "NoText" 263),some (.builtin "ValueError.__new__"),some (.bool true)]⟩ ::
 ⟨(.type "super"),none,.fields #[(.ref 73),(.ref 73),(.ref 73)],#[]⟩ ::
 ⟨(.type "builtin_function_or_method"),none,.fields #[(.builtin "object.__init_subclass__"),(.ref 73)],#[]⟩ ::
 hU [(.ref 24)] ::
 ⟨(.type "builtin_function_or_method"),none,.fields #[(.builtin "type.__prepare__"),(.type "type")],#[]⟩ ::
 hD 4 (hE P "__module__" 278 (.str "fewboxes.errors" 187) :: hE P "__qualname__" 280 (.str "TooFew" 279) :: hE P "__firstlineno__" 282 (.int 12 281) :: hE P "__static_attributes__" 283 (.ref 83) :: []) ::
 hU [] ::
 hZ [] ::
 hC "TooFew" 273 12 0 0 79 false 181 80 .none .none .none 276 ::
 ⟨(.type "frame"),none,.plain,#[some (.ref 81),some (.ref 3),some (.ref 78),none,some (.str "fewboxes.errors" 187),none,some (.ref 0)]⟩ ::
 hU [] ::
 hD 2 (hE P "__module__" 278 (.str "fewboxes.errors" 187) :: hE P "__firstlineno__" 282 (.int 12 281) :: hE P "__static_attributes__" 283 (.ref 83) :: hE P "__doc__" 284 .none :: []) ::
 ⟨(.type "type"),none,.cls ⟨"TooFew",[(.ref 24)],[(.ref 85),(.ref 24),(.type "ValueError"),(.type "Exception"),(.type "BaseException"),(.type "object")],84,"TooFew",true,[],[],false,none,false⟩,#[some (.ref 76),none,some (.str "TooFew" 271),some (.str "TooFew" 279),some (.builtin "ValueError.__new__"),some (.bool true)]⟩ ::
 ⟨(.type "super"),none,.fields #[(.ref 85),(.ref 85),(.ref 85)],#[]⟩ ::
 ⟨(.type "builtin_function_or_method"),none,.fields #[(.builtin "object.__init_subclass__"),(.ref 85)],#[]⟩ ::
 hU [(.ref 24)] ::
 ⟨(.type "builtin_function_or_method"),none,.fields #[(.builtin "type.__prepare__"),(.type "type")],#[]⟩ ::
 hD 4 (hE P "__module__" 294 (.str "fewboxes.errors" 187) :: hE P "__qualname__" 296 (.str "NoDeed" 295) :: hE P "__firstlineno__" 298 (.int 14 297) :: hE P "__static_attributes__" 299 (.ref 95) :: []) ::
 hU [] ::
 hZ [] ::
 hC "NoDeed" 289 14 0 0 91 false 181 92 .none .none .none 292 ::
 ⟨(.type "frame"),none,.plain,#[some (.ref 93),some (.ref 3),some (.ref 90),none,some (.str "fewboxes.errors" 187),none,some (.ref 0)]⟩ ::
 hU [] ::
 hD 2 (hE P "__module__" 294 (.str "fewboxes.errors" 187) :: hE P "__firstlineno__" 298 (.int 14 297) :: hE P "__static_attributes__" 299 (.ref 95) :: hE P "__doc__" 300 .none :: []) ::
 ⟨(.type "type"),none,.cls ⟨"NoDeed",[(.ref 24)],[(.ref 97),(.ref 24),(.type "ValueError"),(.type "Exception"),(.type "BaseException"),(.type "object")],96,"NoDeed",true,[],[],false,none,false⟩,#[some (.ref 88),none,some (.str "NoDeed" 287),some (.str "NoDeed" 295),some (.builtin "ValueError.__new__"),some (.bool true)]⟩ ::
 ⟨(.type "super"),none,.fields #[(.ref 97),(.ref 97),(.ref 97)],#[]⟩ ::
 ⟨(.type "builtin_function_or_method"),none,.fields #[(.builtin "object.__init_subclass__"),(.ref 97)],#[]⟩ ::
 hU [] ::
 hZ [] ::
 hU [(.str "deed" 308)] ::
 hU [] ::
 hG "box_numbers" 9 ::
 hC "box_numbers" 305 17 1 3 100 true 181 101 (.ref 102) (.ref 103) (.ref 104) 309 ::
 hF "box_numbers" 9 (.str "fewboxes.machine" 303) (.ref 105) ::
 hU [] ::
 hZ [] ::
 hU [(.str "deed" 315)] ::
 hU [] ::
 hG "shelf_numbers" 10 ::
 hC "shelf_numbers" 312 23 1 3 107 true 181 108 (.ref 109) (.ref 110) (.ref 111) 316 ::
 hF "shelf_numbers" 10 (.str "fewboxes.machine" 303) (.ref 112) ::
 hU [] ::
 hZ [] ::
 hU [(.str "deed" 322),(.str "asked" 323),(.str "there" 324),(.str "number" 325)] ::
 hU [] ::
 hG "check_numbers" 11 ::
 hC "check_numbers" 319 29 3 3 114 true 181 115 (.ref 116) (.ref 117) (.ref 118) 326 ::
 hF "check_numbers" 11 (.str "fewboxes.machine" 303) (.ref 119) ::
 hU [] ::
 hZ [] ::
 hU [(.str "deed" 332),(.str "state" 333)] ::
 hU [] ::
 hG "check_deed" 12 ::
 hC "check_deed" 329 33 2 3 121 true 181 122 (.ref 123) (.ref 124) (.ref 125) 334 ::
 hF "check_deed" 12 (.str "fewboxes.machine" 303) (.ref 126) :: []).foldl (fun (x : PySem.W.BT × Nat) o => (x.1.ins x.2 o,x.2 + 1)) (.nil,0)).1
noncomputable def hS1 (w : World) (os : OsState) : PySem.W.SharedT := ⟨hT1 w.params,128,{},Array.mk [],{},337,os⟩
theorem hM (w : World) (os : OsState) : PySem.W.segRunT PySem.W.Fast.tw14364793385576792824 PySem.Challenge.pw_fewboxes_k91_whole_from_texts w 11 (some (.ref 6)) 1 1622 (hS w os) (PySem.W.piecesOf (hb.take 13) hN (.body hb hN) ⟨0,0,0,0⟩ [PySem.W.topFrame ⟨0,0,0,0⟩]) = some (.next,hS1 w os,.body hb hN,⟨33,0,35,59⟩) := by
 kernel_rfl
noncomputable def hP (w : World) : Prop := (fun os => (PySem.W.segRunT PySem.W.Fast.tw14364793385576792824 PySem.Challenge.pw_fewboxes_k91_whole_from_texts w 11 (some (.ref 6)) 1 1602 (hS1 w os) (PySem.W.piecesOf (hb.drop 13) hN (.body hb hN) ⟨33,0,35,59⟩ [PySem.W.topFrame ⟨0,0,0,0⟩])).map (fun x => (x.1,x.2.2.1,x.2.2.2,(PySem.W.topRun PySem.W.Fast.tw14364793385576792824 PySem.Challenge.pw_fewboxes_k91_whole_from_texts w 11 (some (.ref 6)) 2 x.2.1.abs ⟨PySem.W.doneF .next,.body hb hN,⟨300,0,313,93⟩,[PySem.W.topFrame ⟨0,0,0,0⟩]⟩).map fun s =>
 ((PySem.W.staticsOk (PySem.W.Fast.tw5923862056798008813 PySem.Challenge.pw_fewboxes_k91_whole_from_texts.main.body) (PySem.W.boot_heap w.params) s.heap && PySem.W.namesBound PySem.Challenge.pw_fewboxes_k91_whole_from_texts s.heap && PySem.W.gensDone s && PySem.W.laidKept (PySem.W.boot_heap w.params) s.heap),PySem.W.Fast.tw4187177175401517315 hV ["PARTS"] (PySem.W.Fast.tw5923862056798008813 PySem.Challenge.pw_fewboxes_k91_whole_from_texts.main.body) (fun s => PySem.W.xlAt hV [] s && PySem.W.recOk (PySem.W.Fast.tw2368527892694137696 PySem.Challenge.rw_fewboxes_k91_whole_from_texts).toRowW.records s) true s,hA.map s.heap.get?)))) = fun _ => some (.next,.body hb hN,⟨300,0,313,93⟩,some (true,PySem.W.openGood hV ["PARTS"],(hK w.params).map fun p => some p.2))
theorem ha (w : World) : hP (w.withFollow "special-get-raises" false) := by
 unfold hP
 kernel_rfl
theorem hb2 (w : World) : hP (w.withFollow "special-get-raises" true) := by
 unfold hP
 kernel_rfl
theorem hW (w : World) : hP w := PySem.W.byRow2 "special-get-raises" ha hb2 w
end K91
open PySem PySem.W PyProof.Rows
set_option maxRecDepth 100000 in
set_option maxHeartbeats 0 in
theorem PySem.Challenge.cw_fewboxes_k91_whole_from_texts_holds : PySem.Challenge.rw_fewboxes_k91_whole_from_texts.Holds := by
 w_on; o_law
 refine holds_open (q := K91.hV) (loose := ["PARTS"]) (Xt := fun s => xlAt K91.hV [] s && recOk (PySem.Challenge.rw_fewboxes_k91_whole_from_texts.row.toRowW.records) s) (XP := XL K91.hV []) (Yf := fun s => K91.hA.map s.heap.get?) (Ya := fun w => (K91.hK w.params).map fun p => some p.2) (YP := InK K91.hK) (N := 6494) ?hl (InK.of fun _ => by kernel_rfl) InK.keeps
  (fun s e => xl_of s (Bool.and_eq_true_iff.mp e).1) XL.keeps (by rfl) (by rfl) (by rfl) (fun s e => recFacts_of (Bool.and_eq_true_iff.mp e).2) (by rfl) (by assumption) (by decide +kernel) ⟨rfl,rfl,rfl,rfl,rfl,by decide +kernel⟩ ?hw ?hc
 case hl =>
  refine L2.left_tree2 (p := PySem.Challenge.pw_fewboxes_k91_whole_from_texts) (S := K91.hS) (S1 := K91.hS1) (b' := K91.hb.take 13) (b2 := K91.hb.drop 13) (F1 := 1622) (ps1 := ⟨33,0,35,59⟩) (b := K91.hb) (env := K91.hN) (m₀ := 11) (ann := some (.ref 6)) (a := 12) (b1 := 1) (F := 1602) (G := 2) (ps := ⟨0,0,0,0⟩) (ps' := ⟨0,0,0,0⟩) (pl := ⟨300,0,313,93⟩) (fq := ⟨0,0,0,0⟩) (List.take_append_drop _ _) (by kernel_rfl) (fun _ => rfl) (by decide) (fun _ => by kernel_rfl) ?_ ?_ ?_ ?_ (by decide)
  · rw [PySem.W.Fast.te14364793385576792824]; exact K91.h1
  · rw [PySem.W.Fast.te14364793385576792824]; exact K91.h2
  · rw [PySem.W.Fast.te14364793385576792824]; exact K91.hM
  · rw [PySem.W.Fast.te4187177175401517315,PySem.W.Fast.te5923862056798008813,PySem.W.Fast.te2368527892694137696,PySem.W.Fast.te14364793385576792824]; exact fun w os => congrFun (K91.hW w) os
 case hw => w_witness2
 k_fill
 refine K91.walk (l := PySem.Challenge.rw_fewboxes_k91_whole_from_texts) rfl rfl (fun w h Y => Y) ?F
 case F =>
  intro w mg fa h KX G hmg
  refine' K91.all_mk KX G ?a0 ?l0 ?c0 ?k0 ?a1 ?l1 ?c1 ?k1 ?a2 ?l2 ?c2 ?k2 ?a3 ?l3 ?c3 ?k3 ?a4 ?l4 ?c4 ?k4 ?a5 ?l5 ?c5 ?k5 ?a6 ?l6 ?c6 ?k6 ?a7 ?l7 ?c7 ?k7 ?a8 ?l8 ?c8 ?k8 ?a9 ?l9 ?c9 ?k9 ?a10 ?l10 ?c10 ?k10 ?a11 ?l11 ?c11 ?k11 ?a12 ?l12 ?c12 ?k12 ?a13 ?l13 ?c13 ?k13 ?a14 ?l14 ?c14 ?k14 ?a15 ?l15 ?c15 ?k15 ?a16 ?l16 ?c16 ?k16 ?a17 ?l17 ?c17 ?k17 ?a18 ?l18 ?c18 ?k18 ?a19 ?l19 ?c19 ?k19 ?a20 ?l20 ?c20 ?k20 ?a21 ?l21 ?c21 ?k21 ?a22 ?l22 ?c22 ?k22 ?a23 ?l23 ?c23 ?k23 ?a24 ?l24 ?c24 ?k24 ?a25 ?l25 ?c25 ?k25 ?a26 ?l26 ?c26 ?k26 ?a27 ?l27 ?c27 ?k27 ?a28 ?l28 ?c28 ?k28 ?a29 ?l29 ?c29 ?k29 ?a30 ?l30 ?c30 ?k30 ?a31 ?l31 ?c31 ?k31 ?a32 ?l32 ?c32 ?k32 ?a33 ?l33 ?c33 ?k33 ?a34 ?l34 ?c34 ?k34 ?a35 ?l35 ?c35 ?k35 ?a36 ?l36 ?c36 ?k36 ?a37 ?l37 ?c37 ?k37 ?a38 ?l38 ?c38 ?k38 ?a39 ?l39 ?c39 ?k39 ?a40 ?l40 ?c40 ?k40 ?a41 ?l41 ?c41 ?k41 ?a42 ?l42 ?c42 ?k42 ?a43 ?l43 ?c43 ?k43 ?a44 ?l44 ?c44 ?k44 ?a45 ?l45 ?c45 ?k45 ?a46 ?l46 ?c46 ?k46 ?a47 ?l47 ?c47 ?k47 ?a48 ?l48 ?c48 ?k48 ?a49 ?l49 ?c49 ?k49 ?v0 ?v1 ?v2 ?v3 ?v4 ?v5 ?z0 ?z1 ?z2 ?z3 ?z4 ?z5 ?z6 ?z7 ?z8 ?z9 ?z10 ?ea_NoDeed ?ex_NoDeed ?ea_TooFew ?ex_TooFew ?pa ?pd ?pk1 ?pk2 ?pk3 ?pk4 ?ph1 ?ph2 ?ph3 ?ph4 ?pz hmg
  (case a0 => k_is)
  (case l0 => k_is)
  (case c0 => k_is)
  (case k0 => k_is)
  (case a1 => k_is)
  (case l1 => k_is)
  (case c1 => k_is)
  (case k1 => k_is)
  (case a2 => k_is)
  (case l2 => k_is)
  (case c2 => k_is)
  (case k2 => k_is)
  (case a3 => k_is)
  (case l3 => k_is)
  (case c3 => k_is)
  (case k3 => k_is)
  (case a4 => k_is)
  (case l4 => k_is)
  (case c4 => k_is)
  (case k4 => k_is)
  (case a5 => k_is)
  (case l5 => k_is)
  (case c5 => k_is)
  (case k5 => k_is)
  (case a6 => k_is)
  (case l6 => k_is)
  (case c6 => k_is)
  (case k6 => k_is)
  (case a7 => k_is)
  (case l7 => k_is)
  (case c7 => k_is)
  (case k7 => k_is)
  (case a8 => k_is)
  (case l8 => k_is)
  (case c8 => k_is)
  (case k8 => k_is)
  (case a9 => k_is)
  (case l9 => k_is)
  (case c9 => k_is)
  (case k9 => k_is)
  (case a10 => k_is)
  (case l10 => k_is)
  (case c10 => k_is)
  (case k10 => k_is)
  (case a11 => k_is)
  (case l11 => k_is)
  (case c11 => k_is)
  (case k11 => k_is)
  (case a12 => k_is)
  (case l12 => k_is)
  (case c12 => k_is)
  (case k12 => k_is)
  (case a13 => k_is)
  (case l13 => k_is)
  (case c13 => k_is)
  (case k13 => k_is)
  (case a14 => k_is)
  (case l14 => k_is)
  (case c14 => k_is)
  (case k14 => k_is)
  (case a15 => k_is)
  (case l15 => k_is)
  (case c15 => k_is)
  (case k15 => k_is)
  (case a16 => k_is)
  (case l16 => k_is)
  (case c16 => k_is)
  (case k16 => k_is)
  (case a17 => k_is)
  (case l17 => k_is)
  (case c17 => k_is)
  (case k17 => k_is)
  (case a18 => k_is)
  (case l18 => k_is)
  (case c18 => k_is)
  (case k18 => k_is)
  (case a19 => k_is)
  (case l19 => k_is)
  (case c19 => k_is)
  (case k19 => k_is)
  (case a20 => k_is)
  (case l20 => k_is)
  (case c20 => k_is)
  (case k20 => k_is)
  (case a21 => k_is)
  (case l21 => k_is)
  (case c21 => k_is)
  (case k21 => k_is)
  (case a22 => k_is)
  (case l22 => k_is)
  (case c22 => k_is)
  (case k22 => k_is)
  (case a23 => k_is)
  (case l23 => k_is)
  (case c23 => k_is)
  (case k23 => k_is)
  (case a24 => k_is)
  (case l24 => k_is)
  (case c24 => k_is)
  (case k24 => k_is)
  (case a25 => k_is)
  (case l25 => k_is)
  (case c25 => k_is)
  (case k25 => k_is)
  (case a26 => k_is)
  (case l26 => k_is)
  (case c26 => k_is)
  (case k26 => k_is)
  (case a27 => k_is)
  (case l27 => k_is)
  (case c27 => k_is)
  (case k27 => k_is)
  (case a28 => k_is)
  (case l28 => k_is)
  (case c28 => k_is)
  (case k28 => k_is)
  (case a29 => k_is)
  (case l29 => k_is)
  (case c29 => k_is)
  (case k29 => k_is)
  (case a30 => k_is)
  (case l30 => k_is)
  (case c30 => k_is)
  (case k30 => k_is)
  (case a31 => k_is)
  (case l31 => k_is)
  (case c31 => k_is)
  (case k31 => k_is)
  (case a32 => k_is)
  (case l32 => k_is)
  (case c32 => k_is)
  (case k32 => k_is)
  (case a33 => k_is)
  (case l33 => k_is)
  (case c33 => k_is)
  (case k33 => k_is)
  (case a34 => k_is)
  (case l34 => k_is)
  (case c34 => k_is)
  (case k34 => k_is)
  (case a35 => k_is)
  (case l35 => k_is)
  (case c35 => k_is)
  (case k35 => k_is)
  (case a36 => k_is)
  (case l36 => k_is)
  (case c36 => k_is)
  (case k36 => k_is)
  (case a37 => k_is)
  (case l37 => k_is)
  (case c37 => k_is)
  (case k37 => k_is)
  (case a38 => k_is)
  (case l38 => k_is)
  (case c38 => k_is)
  (case k38 => k_is)
  (case a39 => k_is)
  (case l39 => k_is)
  (case c39 => k_is)
  (case k39 => k_is)
  (case a40 => k_is)
  (case l40 => k_is)
  (case c40 => k_is)
  (case k40 => k_is)
  (case a41 => k_is)
  (case l41 => k_is)
  (case c41 => k_is)
  (case k41 => k_is)
  (case a42 => k_is)
  (case l42 => k_is)
  (case c42 => k_is)
  (case k42 => k_is)
  (case a43 => k_is)
  (case l43 => k_is)
  (case c43 => k_is)
  (case k43 => k_is)
  (case a44 => k_is)
  (case l44 => k_is)
  (case c44 => k_is)
  (case k44 => k_is)
  (case a45 => k_is)
  (case l45 => k_is)
  (case c45 => k_is)
  (case k45 => k_is)
  (case a46 => k_is)
  (case l46 => k_is)
  (case c46 => k_is)
  (case k46 => k_is)
  (case a47 => k_is)
  (case l47 => k_is)
  (case c47 => k_is)
  (case k47 => k_is)
  (case a48 => k_is)
  (case l48 => k_is)
  (case c48 => k_is)
  (case k48 => k_is)
  (case a49 => k_is)
  (case l49 => k_is)
  (case c49 => k_is)
  (case k49 => k_is)
  (case v0 => k_is)
  (case v1 => k_is)
  (case v2 => k_is)
  (case v3 => k_is)
  (case v4 => k_is)
  (case v5 => k_is)
  (case z0 => k_is)
  (case z1 => k_is)
  (case z2 => k_is)
  (case z3 => k_is)
  (case z4 => k_is)
  (case z5 => k_is)
  (case z6 => k_is)
  (case z7 => k_is)
  (case z8 => k_is)
  (case z9 => k_is)
  (case z10 => k_is)
  (case ea_NoDeed => k_is)
  (case ex_NoDeed => k_exc)
  (case ea_TooFew => k_is)
  (case ex_TooFew => k_exc)
  (case pa => k_is)
  (case pd => k_is)
  (case pk1 => k_is)
  (case pk2 => k_is)
  (case pk3 => k_is)
  (case pk4 => k_is)
  (case ph1 => rfl)
  (case ph2 => rfl)
  (case ph3 => rfl)
  (case ph4 => rfl)
  (case pz => rfl)
#print axioms PySem.Challenge.cw_fewboxes_k91_whole_from_texts_holds
