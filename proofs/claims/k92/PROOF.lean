import PyProof.Rows.All
import Wide.All
import OpenK.AllK
import Wide.FinOn
import Lean
import PyProof.EqAt
import PyProof.EqKinds
import PyProof.NeKinds
import PyProof.TupleCall
import PyProof.WalksEnum
import PyProof.EnumStmt
import PyProof.ZipIter
import PySem.Challenge.RW_fewboxes_k92_whole_every_row
set_option Elab.async false
set_option linter.all false
set_option maxRecDepth 100000
namespace L2
open PySem PySem.Spec PyProof.Rows
noncomputable abbrev Key:=Sum Int Str
noncomputable def keyIs : Key → Value → Bool
 | .inl k,v=>Value.isInt k v
 | .inr x,v=>Value.isStrOf x v
noncomputable def keyH (w : World) : Key → Int
 | .inl k=>hashInt k
 | .inr x=>hashStr w x
theorem keyIs_shape : ∀ {k : Key} {v : Value},keyIs k v = true → (∃ i t,k = Sum.inl i ∧ v = Value.int i t) ∨ (∃ x t,k = Sum.inr x ∧ v = Value.str x t)
 | .inl i,v,h=>by
  obtain ⟨t,e⟩:=Value.isInt_shape (k:=i) (v:=v) h
  exact .inl ⟨i,t,rfl,e⟩
 | .inr x,v,h=>by
  obtain ⟨t,e⟩:=Value.isStrOf_shape (x:=x) (v:=v) h
  exact .inr ⟨x,t,rfl,e⟩
theorem key_ll (a b : Int) : decide ((Sum.inl a : Key) = Sum.inl b) = (a == b):=by
 by_cases e : a = b
 · subst e; simp
 · have h : ¬ (Sum.inl a : Key) = Sum.inl b:=fun q=>e (Sum.inl.inj q)
   rw [decide_eq_false h]
   exact (beq_eq_false_iff_ne.mpr e).symm
theorem key_rr (a b : Str) : decide ((Sum.inr a : Key) = Sum.inr b) = decide (a = b):=by
 by_cases e : a = b
 · subst e; simp
 · have h : ¬ (Sum.inr a : Key) = Sum.inr b:=fun q=>e (Sum.inr.inj q)
   rw [decide_eq_false h,decide_eq_false e]
theorem key_lr (a : Int) (b : Str) : decide ((Sum.inl a : Key) = Sum.inr b) = false:=decide_eq_false (fun q=>nomatch q)
theorem key_rl (a : Str) (b : Int) : decide ((Sum.inr a : Key) = Sum.inl b) = false:=decide_eq_false (fun q=>nomatch q)
noncomputable def mixKind (prog : Program) (w : World) : PySem.KeyKind prog w Key where
 is:=keyIs
 hash:=keyH w
 inj:=fun v a b ha hb=>by
  rcases keyIs_shape ha with ⟨i,t,rfl,rfl⟩ | ⟨x,t,rfl,rfl⟩
  · rcases keyIs_shape hb with ⟨j,u,rfl,e⟩ | ⟨y,u,rfl,e⟩
    · injection e with e1 _; rw [e1]
    · exact nomatch e
  · rcases keyIs_shape hb with ⟨j,u,rfl,e⟩ | ⟨y,u,rfl,e⟩
    · exact nomatch e
    · injection e with e1 _; rw [e1]
 byValue:=fun k v h=>by
  rcases keyIs_shape h with ⟨i,t,rfl,rfl⟩ | ⟨x,t,rfl,rfl⟩ <;> rfl
 pyHash:=fun hv h=>by
  rcases keyIs_shape hv with ⟨i,t,rfl,rfl⟩ | ⟨x,t,rfl,rfl⟩
  · exact wpAny_pyHash_int h
  · exact wpAny_pyHash_str h
 eqBool:=fun hu hv h=>by
  rcases keyIs_shape hu with ⟨i,t,rfl,rfl⟩ | ⟨x,t,rfl,rfl⟩
  · rcases keyIs_shape hv with ⟨j,u,rfl,rfl⟩ | ⟨y,u,rfl,rfl⟩
    · rw [key_ll] at h; exact wpAny_eqBool_int h
    · rw [key_lr] at h; exact SeqAt.EqAt.int_str i t y u _ _ _ _ h
  · rcases keyIs_shape hv with ⟨j,u,rfl,rfl⟩ | ⟨y,u,rfl,rfl⟩
    · rw [key_rl] at h; exact SeqAt.EqAt.str_int x t j u _ _ _ _ h
    · rw [key_rr] at h; exact wpAny_eqBool_str h
 «strs»:=fun k x t v h=>by
  rcases keyIs_shape h with ⟨i,u,rfl,e⟩ | ⟨y,u,rfl,e⟩
  · exact nomatch e
  · injection e with e1 _
    subst e1
    cases v <;> rfl
end L2
namespace L2
open PySem PySem.Spec PyProof.Rows
inductive V where
 | non | bl (b : Bool) | int (i : Int) | str (x : Str) | byt (b : Array UInt8) | flt (b : UInt64) | ref (a : Addr) | ty (n : String)
 deriving DecidableEq
noncomputable def RelV : V → Value → Prop
 | .non,u=>u = Value.none
 | .bl b,u=>u = Value.bool b
 | .int i,u=>∃ t,u = Value.int i t
 | .str x,u=>∃ t,u = Value.str x t
 | .byt b,u=>∃ t,u = Value.bytes b t
 | .flt b,u=>∃ t,u = Value.float b t
 | .ref a,u=>u = Value.ref a
 | .ty n,u=>u = Value.type n
noncomputable abbrev Vals : List V → List Value → Prop:=Paired RelV
theorem Vals.length {xs : List V} {us : List Value} (r : Vals xs us) : xs.length = us.length:=Paired.length r
theorem Vals.get : ∀ {xs : List V} {us : List Value} {i : Nat} {x : V},Vals xs us → xs[i]? = some x → ∃ u,us[i]? = some u ∧ RelV x u
 | _,_,_,_,.nil,e=>by simp at e
 | _,_,0,_,.cons r _,e=>by simp at e; subst e; exact ⟨_,rfl,r⟩
 | _,_,i + 1,x,.cons _ t,e=>by
  obtain ⟨u,h1,h2⟩:=Vals.get (i:=i) (x:=x) t (by simpa using e)
  exact ⟨u,by simpa using h1,h2⟩
theorem Vals.set {x : V} {u : Value} (r : RelV x u) : ∀ {xs : List V} {us : List Value} (i : Nat),Vals xs us → Vals (xs.set i x) (us.set i u)
 | _,_,_,.nil=>.nil
 | _,_,0,.cons _ t=>.cons r t
 | _,_,i + 1,.cons q t=>.cons q (Vals.set r i t)
theorem Vals.append : ∀ {xs ys : List V} {us ws : List Value},Vals xs us → Vals ys ws → Vals (xs ++ ys) (us ++ ws)
 | _,_,_,_,.nil,s=>s
 | _,_,_,_,.cons r t,s=>.cons r (Vals.append t s)
theorem Vals.take : ∀ {xs : List V} {us : List Value} (n : Nat),Vals xs us → Vals (xs.take n) (us.take n)
 | _,_,0,_=>.nil
 | _,_,_ + 1,.nil=>.nil
 | _,_,n + 1,.cons r t=>.cons r (Vals.take n t)
theorem Vals.drop : ∀ {xs : List V} {us : List Value} (n : Nat),Vals xs us → Vals (xs.drop n) (us.drop n)
 | _,_,0,r=>r
 | _,_,_ + 1,.nil=>.nil
 | _,_,n + 1,.cons _ t=>Vals.drop n t
noncomputable def RelO : Option V → Option Value → Prop
 | some v,some u=>RelV v u
 | none,none=>True
 | _,_=>False
noncomputable def KV {κ : Type} : List (κ × V) → List (κ × Value) → Prop:=Paired fun (p : κ × V) (q : κ × Value)=>p.1 = q.1 ∧ RelV p.2 q.2
noncomputable def kV : Key → V
 | .inl i=>.int i
 | .inr x=>.str x
inductive HO where
 | lst (xs : List V)
 | tup (xs : List V)
 | dK (kvs : List (Key × V)) | dT (kvs : List (List Key × V))
 | set (S : Int → Bool) (n : Nat)
 | ins (C dx : Addr) (fs : List (Str × V))
 | own (x : Addr)
 | xd (fs : List (Str × V))
 | met (f x : Addr)
 | rng (lo hi : Int)
 | frz (o : Obj) (u : HO)
 | tbl (ps : Array Value)
 | ext (φ : Heap → Prop)
noncomputable abbrev Hp:=Addr → Option HO
noncomputable def upd (H : Hp) (a : Addr) (o : HO) : Hp:=fun b=>if b = a then some o else H b
theorem upd_same {H : Hp} {a : Addr} {o : HO} : upd H a o a = some o:=by unfold upd; rw [if_pos rfl]
theorem upd_ne {H : Hp} {a b : Addr} {o : HO} (h : b ≠ a) : upd H a o b = H b:=by unfold upd; rw [if_neg h]
theorem ne_of {H : Hp} {a b : Addr} {o u : HO} (h : H a = some o) (h' : H b = some u) (d : o ≠ u) : a ≠ b:=by
 intro e; subst e; rw [h] at h'; exact d (Option.some.inj h')
theorem ne_of_none {H : Hp} {a b : Addr} {o : HO} (h : H a = some o) (h' : H b = none) : a ≠ b:=by
 intro e; subst e; rw [h] at h'; cases h'
section
variable (P : Program) (w : World)
noncomputable def ObjOk (H : Hp) (h : Heap) (a : Addr) : HO → Prop
 | .lst xs=>xs.length ≤ sizeLine ∧ ∃ (its : List Value) (n : Nat),Vals xs its ∧ h.get? a = some { cls:=.type "list",data:=.seq its.toArray n }
 | .tup xs=>xs.length ≤ sizeLine ∧ ∃ its : List Value,Vals xs its ∧ IsTup h a its.toArray
 | .dK kvs=>kvs.length ≤ sizeLine ∧ (a == sysModules) = false ∧ ∃ vs,KV kvs vs ∧ h.DictOf (mixKind P w) a vs
 | .dT kvs=>kvs.length ≤ sizeLine ∧ (a == sysModules) = false ∧ ∃ xs : List (List Key × Addr × Value),
  Paired (fun (p : List Key × V) (q : List Key × Addr × Value)=>p.1 = q.1 ∧ H q.2.1 = some (.tup (p.1.map kV)) ∧ RelV p.2 q.2.2) kvs xs ∧
  ∃ o es ep,h.get? a = some o ∧ o.ExactDict ∧ o.data = .dict es ep ∧ es.toList = xs.map (entryOfKey (tupleKind (mixKind P w))) ∧ (xs.map (·.1)).Nodup
 | .set S n=>h.SetOf (intKind P w) a S n
 | .ins C dx fs=>H dx = some (.own a) ∧ fs.length ≤ 1000 ∧ dx ≠ a ∧ h.get? a = some (PySem.W.instObj C dx) ∧
  ∃ mA,h.Ns1 dx mA ∧ (∀ f,RelO (fs.lookup f) (mA f)) ∧ PySem.Within mA (fs.map (·.1))
 | .own _=>∃ o,h.get? a = some o
 | .xd fs=>∃ mA,h.Ns1 a mA ∧ ∀ f,RelO (fs.lookup f) (mA f)
 | .rng lo hi=>∃ t u v,h.get? a = some { cls:=.type "range",data:=.fields #[.int lo t,.int hi u,.int 1 v] }
 | .frz o u=>h.get? a = some o ∧ ObjOk H h a u
 | .tbl ps=>h.get? a = some { cls:=.none,data:=.fields ps }
 | .met f x=>h.get? a = some (PySem.W.methodObj (.ref f) (.ref x))
 | .ext φ=>φ h ∧ (∃ o,h.get? a = some o) ∧ ∀ h1 h2 : Heap,φ h1 → (∀ o,h1.get? a = some o → h2.get? a = some o) → φ h2
noncomputable def HOk (H : Hp) (h : Heap) : Prop:=∀ a o,H a = some o → ObjOk P w H h a o
end
section
variable {P : Program} {w : World} {H H' : Hp} {h h' : Heap} {a : Addr} {o : HO}
theorem ObjOk.lt (x : ObjOk P w H h a o) : a < h.objs.size:=by
 cases o with
 | lst xs=>obtain ⟨_,_,_,_,e⟩:=x; exact Heap.lt_size e
 | tup xs=>obtain ⟨_,_,_,p⟩:=x; exact p.lt
 | dK kvs=>obtain ⟨_,_,_,_,o,_,_,e,_⟩:=x; exact Heap.lt_size e
 | dT kvs=>obtain ⟨_,_,_,_,o,_,_,e,_⟩:=x; exact Heap.lt_size e
 | set S n=>obtain ⟨o,_,_,_,e,_⟩:=x; exact Heap.lt_size e
 | ins C dx fs=>obtain ⟨_,_,_,e,_⟩:=x; exact Heap.lt_size e
 | own y=>obtain ⟨_,e⟩:=x; exact Heap.lt_size e
 | xd fs=>obtain ⟨_,⟨_,_,_,e,_⟩,_⟩:=x; exact Heap.lt_size e
 | rng lo hi=>obtain ⟨_,_,_,e⟩:=x; exact Heap.lt_size e
 | frz ob u=>obtain ⟨e,_⟩:=x; exact Heap.lt_size e
 | tbl ps=>exact Heap.lt_size (show h.get? a = some _ from x)
 | met f y=>exact Heap.lt_size (show h.get? a = some _ from x)
 | ext φ=>obtain ⟨_,⟨_,e⟩,_⟩:=x; exact Heap.lt_size e
theorem Paired.mapP {α β : Type} {F G : α → β → Prop} : ∀ {l₁ : List α} {l₂ : List β},Paired F l₁ l₂ → (∀ a b,F a b → G a b) → Paired G l₁ l₂
 | _,_,.nil,_=>.nil
 | _,_,.cons r t,f=>.cons (f _ _ r) (Paired.mapP t f)
theorem ObjOk.stay (x : ObjOk P w H h a o) (k : ∀ b u,(b = a ∨ H b = some (.own a)) → h.get? b = some u → h'.get? b = some u)
 (ho : ∀ b,H b = some (.own a) → H' b = some (.own a)) (ht : ∀ b xs,H b = some (.tup xs) → H' b = some (.tup xs)) : ObjOk P w H' h' a o:=by
 induction o with
 | lst xs=>obtain ⟨z,its,n,r,e⟩:=x; exact ⟨z,its,n,r,k _ _ (.inl rfl) e⟩
 | tup xs=>obtain ⟨z,its,r,ob,e,c⟩:=x; exact ⟨z,its,r,ob,k _ _ (.inl rfl) e,c⟩
 | dK kvs=>obtain ⟨z,y,vs,r,ob,es,ep,e,c⟩:=x; exact ⟨z,y,vs,r,ob,es,ep,k _ _ (.inl rfl) e,c⟩
 | dT kvs =>
  obtain ⟨z,y,xs,r,ob,es,ep,e,c⟩:=x
  exact ⟨z,y,xs,Paired.mapP r fun p q z=>⟨z.1,ht _ _ z.2.1,z.2.2⟩,ob,es,ep,k _ _ (.inl rfl) e,c⟩
 | set S n=>obtain ⟨ob,es,ep,t,e,c⟩:=x; exact ⟨ob,es,ep,t,k _ _ (.inl rfl) e,c⟩
 | ins C dx fs =>
  obtain ⟨d,z,ne,e,mA,⟨od,es,ep,e2,c⟩,r⟩:=x
  exact ⟨ho _ d,z,ne,k _ _ (.inl rfl) e,mA,⟨od,es,ep,k _ _ (.inr d) e2,c⟩,r⟩
 | own y=>obtain ⟨ob,e⟩:=x; exact ⟨ob,k _ _ (.inl rfl) e⟩
 | xd fs=>obtain ⟨mA,⟨od,es,ep,e,c⟩,r⟩:=x; exact ⟨mA,⟨od,es,ep,k _ _ (.inl rfl) e,c⟩,r⟩
 | rng lo hi=>obtain ⟨t,u,v,e⟩:=x; exact ⟨t,u,v,k _ _ (.inl rfl) e⟩
 | frz ob u ih=>obtain ⟨e,q⟩:=x; exact ⟨k _ _ (.inl rfl) e,ih q⟩
 | tbl ps =>
  have e : h.get? a = some { cls:=.none,data:=.fields ps }:=x
  show h'.get? a = some { cls:=.none,data:=.fields ps }
  exact k a _ (.inl rfl) e
 | met f y =>
  have e : h.get? a = some (PySem.W.methodObj (.ref f) (.ref y)):=x
  show h'.get? a = some (PySem.W.methodObj (.ref f) (.ref y))
  exact k a _ (.inl rfl) e
 | ext φ=>obtain ⟨p,⟨o,e⟩,st⟩:=x; exact ⟨st _ _ p fun o q=>k _ _ (.inl rfl) q,⟨o,k _ _ (.inl rfl) e⟩,st⟩
theorem HOk.lt (x : HOk P w H h) (e : H a = some o) : a < h.objs.size:=(x a o e).lt
theorem HOk.fresh (x : HOk P w H h) (e : h.objs.size ≤ a) : H a = none:=by
 cases q : H a with
 | none=>rfl
 | some u=>exact absurd (Nat.lt_of_lt_of_le (x.lt q) e) (Nat.lt_irrefl _)
theorem HOk.kept (x : HOk P w H h) (k : ∀ b u,h.get? b = some u → h'.get? b = some u) : HOk P w H h':=fun a o e =>
 (x a o e).stay (fun b u _ q=>k b u q) (fun _ q=>q) fun _ _ q=>q
theorem HOk.laid (x : HOk P w H h) (k : ∀ b u,h.get? b = some u → h'.get? b = some u) (hp : h.objs.size ≤ a) (new : ObjOk P w (upd H a o) h' a o) : HOk P w (upd H a o) h':=fun b u e=>by
 have hn:=x.fresh hp
 by_cases hb : b = a
 · subst hb; rw [upd_same] at e; cases e; exact new
 · rw [upd_ne hb] at e
   exact (x b u e).stay (fun c v _ q=>k c v q) (fun c q=>by rw [upd_ne (ne_of_none q hn)]; exact q) fun c xs q=>by rw [upd_ne (ne_of_none q hn)]; exact q
end
noncomputable def Rd (H : Hp) (a : Addr) (u : HO) : Prop:=H a = some u ∨ ∃ o,H a = some (.frz o u)
theorem Rd.of {H : Hp} {a : Addr} {u : HO} (h : H a = some u) : Rd H a u:=.inl h
theorem Rd.ok {P : Program} {w : World} {H : Hp} {h : Heap} {a : Addr} {u : HO} (r : Rd H a u) (x : HOk P w H h) : ObjOk P w H h a u:=by
 rcases r with r | ⟨o,r⟩
 · exact x a u r
 · obtain ⟨_,q⟩:=x a _ r
   exact q
noncomputable def Mut : Option HO → Prop
 | some (.lst _)=>True
 | some (.dK _)=>True
 | some (.dT _)=>True
 | some (.set _ _)=>True
 | some (.ins _ _ _)=>True
 | some (.ext _)=>True
 | _=>False
section
variable {P : Program} {w : World} {H : Hp} {h h' : Heap} {x e : Addr} {o' : HO}
theorem HOk.write (ok : HOk P w H h) (mu : Mut (H x)) (he : e = x ∨ H e = some (.own x)) (k : ∀ b u,b ≠ e → h.get? b = some u → h'.get? b = some u) (heo : ∃ u,h'.get? e = some u)
 (new : ObjOk P w (upd H x o') h' x o') : HOk P w (upd H x o') h':=fun b u q=>by
 have nown : ∀ c y,H c = some (.own y) → c ≠ x:=fun c y r z=>by subst z; rw [r] at mu; exact mu
 have ntup : ∀ c xs,H c = some (.tup xs) → c ≠ x:=fun c xs r z=>by subst z; rw [r] at mu; exact mu
 by_cases hb : b = x
 · subst hb; rw [upd_same] at q; cases q; exact new
 · rw [upd_ne hb] at q
   by_cases hbe : b = e
   · have q' : H b = some (.own x):=by
      rcases he with z | z
      · exact absurd (hbe.trans z) hb
      · rw [hbe]; exact z
     rw [q] at q'; cases q'
     obtain ⟨v,hv⟩:=heo
     exact ⟨v,by rw [hbe]; exact hv⟩
   · refine (ok b u q).stay (fun c v hc r=>k c v ?_ r) (fun c r=>by rw [upd_ne (nown c b r)]; exact r) fun c xs r=>by rw [upd_ne (ntup c xs r)]; exact r
     rcases hc with rfl | hc
     · exact hbe
     · rintro rfl
       rcases he with z | z
       · exact nown c b hc z
       · rw [hc] at z; cases z; exact hb rfl
end
structure Un (fs ex : List Addr) (H H' : Hp) (h h' : Heap) : Prop where
 keep : ∀ b o,h.get? b = some o → H b = none → b ∉ fs → b ∉ ex → h'.get? b = some o
 slot : ∀ b o,h.get? b = some o → H b = none → b ∈ fs → b ∉ ex → ∃ sl,h'.get? b = some { o with slots:=sl }
 free : ∀ b o,h.get? b = some o → H b = none → b ∉ ex → H' b = none
 there : ∀ b o,h.get? b = some o → b ∉ ex → ∃ o',h'.get? b = some o'
 tups : ∀ b xs,H b = some (.tup xs) → H' b = some (.tup xs)
 frzs : ∀ b o u,H b = some (.frz o u) → H' b = some (.frz o u)
 tbls : ∀ b ps,H b = some (.tbl ps) → ∃ more,H' b = some (.tbl (ps ++ more))
section
variable {fs fs' ex ex' : List Addr} {H H1 H2 : Hp} {h h1 h2 h' : Heap} {a x e : Addr} {o : HO}
theorem Un.any (u : Un fs ex H H1 h h1) {b : Addr} {ob : Obj} (q : h.get? b = some ob) (n : H b = none) (hx : b ∉ ex) : ∃ sl,h1.get? b = some { ob with slots:=sl }:=by
 by_cases hb : b ∈ fs
 · exact u.slot b ob q n hb hx
 · exact ⟨ob.slots,u.keep b ob q n hb hx⟩
theorem Un.trans (a : Un fs ex H H1 h h1) (b : Un fs ex H1 H2 h1 h2) : Un fs ex H H2 h h2 where
 keep:=fun c ob q n hc hx=>b.keep c ob (a.keep c ob q n hc hx) (a.free c ob q n hx) hc hx
 slot:=fun c ob q n hc hx=>by
  obtain ⟨sl,e1⟩:=a.slot c ob q n hc hx
  obtain ⟨sl',e2⟩:=b.slot c _ e1 (a.free c ob q n hx) hc hx
  exact ⟨sl',e2⟩
 free:=fun c ob q n hx=>by
  obtain ⟨o',e1⟩:=a.there c ob q hx
  exact b.free c o' e1 (a.free c ob q n hx) hx
 there:=fun c ob q hx=>by
  obtain ⟨o',e1⟩:=a.there c ob q hx
  exact b.there c o' e1 hx
 tups:=fun c xs q=>b.tups c xs (a.tups c xs q)
 frzs:=fun c ob xs q=>b.frzs c ob xs (a.frzs c ob xs q)
 tbls:=fun c ps q=>by
  obtain ⟨m1,e1⟩:=a.tbls c ps q
  obtain ⟨m2,e2⟩:=b.tbls c _ e1
  exact ⟨m1 ++ m2,by rw [e2,Array.append_assoc]⟩
theorem Un.kept (k : ∀ b u,h.get? b = some u → h'.get? b = some u) : Un fs ex H H h h' :=
 ⟨fun b ob q _ _ _=>k b ob q,fun b ob q _ _ _=>⟨ob.slots,k b ob q⟩,fun _ _ _ n _=>n,fun b ob q _=>⟨ob,k b ob q⟩,fun _ _ q=>q,fun _ _ _ q=>q,fun _ ps q=>⟨#[],by rw [q]; simp⟩⟩
theorem Un.refl : Un fs ex H H h h:=Un.kept fun _ _ q=>q
theorem Un.laid (k : ∀ b u,h.get? b = some u → h'.get? b = some u) (hp : h.objs.size ≤ a) (hn : H a = none) : Un fs ex H (upd H a o) h h' where
 keep:=fun b u q _ _ _=>k b u q
 slot:=fun b u q _ _ _=>⟨u.slots,k b u q⟩
 free:=fun b u q n _=>by rw [upd_ne (Nat.ne_of_lt (Nat.lt_of_lt_of_le (Heap.lt_size q) hp))]; exact n
 there:=fun b u q _=>⟨u,k b u q⟩
 tups:=fun b xs q=>by rw [upd_ne (ne_of_none q hn)]; exact q
 frzs:=fun b u xs q=>by rw [upd_ne (ne_of_none q hn)]; exact q
 tbls:=fun b ps q=>⟨#[],by rw [upd_ne (ne_of_none q hn),q]; simp⟩
theorem Un.write (mu : Mut (H x)) (he : e = x ∨ H e = some (.own x)) (k : ∀ b u,b ≠ e → h.get? b = some u → h'.get? b = some u) (heo : ∃ u,h'.get? e = some u) : Un fs ex H (upd H x o) h h':=by
 have hx : ∀ b,H b = none → b ≠ x:=fun b n z=>by subst z; rw [n] at mu; exact mu
 have hb : ∀ b,H b = none → b ≠ e:=fun b n z=>by
  subst z
  rcases he with r | r
  · exact hx b n r
  · rw [n] at r; cases r
 have hm : ∀ b u,H b = some u → ¬ Mut (some u) → b ≠ x:=fun b u q nm z=>by subst z; rw [q] at mu; exact nm mu
 refine ⟨fun b u q n _ _=>k b u (hb b n) q,fun b u q n _ _=>⟨u.slots,k b u (hb b n) q⟩,fun b u q n _=>by rw [upd_ne (hx b n)]; exact n,fun b u q _=>?_,
  fun b xs q=>by rw [upd_ne (hm b _ q fun z=>z)]; exact q,fun b u xs q=>by rw [upd_ne (hm b _ q fun z=>z)]; exact q,fun b ps q=>⟨#[],by rw [upd_ne (hm b _ q fun z=>z),q]; simp⟩⟩
 by_cases hbe : b = e
 · subst hbe; exact heo
 · exact ⟨u,k b u hbe q⟩
theorem Un.mono (u : Un fs ex H H1 h h1) (hs : ∀ b ∈ fs,b ∈ fs') (hx : ∀ b ∈ ex,b ∈ ex') : Un fs' ex' H H1 h h1 :=
 ⟨fun b ob q n hb he=>u.keep b ob q n (fun z=>hb (hs b z)) fun z=>he (hx b z),fun _ _ q n _ he=>u.any q n fun z=>he (hx _ z),fun b ob q n he=>u.free b ob q n fun z=>he (hx b z),fun b ob q he=>u.there b ob q fun z=>he (hx b z),u.tups,u.frzs,u.tbls⟩
end
noncomputable def trk (h : Heap) (H : Hp) : List Addr:=(List.range h.objs.size).filter fun a=>(H a).isSome
noncomputable def hidT (h : Heap) (H : Hp) : Heap:=PySem.W.hideAll h (trk h H)
theorem hidT_size (h : Heap) (H : Hp) : (hidT h H).objs.size = h.objs.size:=PySem.W.hideAll_size _ _
theorem hidT_get {h : Heap} {H : Hp} {b : Addr} {o : Obj} (e : h.get? b = some o) (n : H b = none) : (hidT h H).get? b = some o :=
 PySem.W.hideAll_get _ e fun hm=>by
  have q : (H b).isSome = true:=(List.mem_filter.mp hm).2
  rw [n] at q; simp at q
theorem of_hidT {h : Heap} {H : Hp} {b : Addr} {o : Obj} (e : (hidT h H).get? b = some o) : h.get? b = some o ∧ H b = none:=by
 have e' : h.get? b = some o:=PySem.W.of_hideAll (trk h H) e
 refine ⟨e',?_⟩
 cases q : H b with
 | none=>rfl
 | some x =>
  have hm : b ∈ trk h H:=List.mem_filter.mpr ⟨List.mem_range.mpr (Heap.lt_size e'),by simp [q]⟩
  have z : (hidT h H).get? b = none:=PySem.W.hideAll_none (trk h H) hm
  rw [z] at e; cases e
noncomputable def allNews (g h : Heap) (L : Addr) : List (Addr × Obj):=(List.range h.objs.size).filterMap fun a=>if a = L ∨ (g.get? a).isSome = true then none else (h.get? a).map fun o=>(a,o)
noncomputable def rest (g h : Heap) (L d : Addr) : List (Addr × Obj):=(allNews g h L).filter fun p=>decide (p.1 ≠ d)
end L2
namespace L2
open PySem PySem.Spec PyProof.Rows
structure Mod (K : PySem.W.Frag) (mg : Str → Option Value) (base : Heap) : Prop where
 kin : K.In base
 glob : base.Ns mainGlobals mg
 blt : ∃ mb,base.Ns builtinsNs mb ∧ ∀ x : Str,x ≠ "__name__" → mb x = bootBuiltins x
 nolimit : base.NoLimit
/-- the context: a def's body (or a comprehension's block) running. base: fixed through the whole law; s₀,H₀: the entry; outer: the frames whose slots others may change (a def's callers); stack: all frames that run;
 ex: iterators that were made ahead of the entry and are walked here (a comprehension's); fn: the names whose cells were made at the entry (a def: all; a comprehension's block: its own); calm: not within an except suite; pn: pins that every state bears; xe: what is wanted of an exception that leaves the code -/
structure Cx where
 prog : Program
 w : World
 K : PySem.W.Frag
 mg : Str → Option Value
 base : Heap
 A : Around
 N : List Str
 s₀ : Shared
 H₀ : Hp
 env : Env
 outer : List Env
 stack : List Env
 ex : List Addr
 fn : Str → Bool
 calm : Bool
 pn : List (Addr × Obj)
 xe : Value → Shared → Prop
noncomputable def frs (l : List Env) : List Addr:=l.filterMap (·.frame)
noncomputable abbrev Cx.fs (X : Cx) : List Addr:=frs X.outer
noncomputable def Vis (sc : Scope) (x : Str) : Prop:=sc.names.lookup x = some .local ∨ sc.names.lookup x = some .cell ∨ sc.names.lookup x = some .free
noncomputable def Loc (sc : Scope) (x : Str) : Prop:=sc.names.lookup x = some .local ∨ sc.names.lookup x = some .cell
noncomputable def Look (env : Env) (h : Heap) (m : Str → Option Value) (x : Str) (u : Value) : Prop :=
 (env.kindOf x = some .local ∧ m x = some u) ∨ ((env.kindOf x = some .cell ∨ env.kindOf x = some .free) ∧ ∃ c,env.cells.lookup x = some c ∧ h.IsCell c (some u))
structure Cx.Ok (X : Cx) : Prop where
 mod : Mod X.K X.mg X.base
 kind : X.env.scope.kind = .function
 glob : X.env.globals = mainGlobals
 blt : X.env.builtins = builtinsNs
 above : X.s₀.heap.objs.size ≤ X.env.locals
 inj : ∀ x y c,X.env.cells.lookup x = some c → X.env.cells.lookup y = some c → x = y
 has : ∀ x,(X.env.kindOf x = some .cell ∨ X.env.kindOf x = some .free) → ∃ c,X.env.cells.lookup x = some c
 cab : ∀ x c,X.fn x = true → X.env.cells.lookup x = some c → X.s₀.heap.objs.size ≤ c
 hd : X.calm = true → X.A.handled = none
 frames : X.A.frames = some X.stack
 stk : X.stack = X.outer ∨ (X.stack = X.env :: X.outer ∧ X.env.frame = some X.env.locals)
 exf : ∀ b ∈ X.ex,b ≠ X.env.locals ∧ ∀ x c,X.env.cells.lookup x = some c → c ≠ b
 bs : ∀ b o,X.base.get? b = some o → X.s₀.heap.get? b = some o ∧ X.H₀ b = none
 bsz : X.base.objs.size ≤ X.s₀.heap.objs.size
 noex : ∀ b o,X.base.get? b = some o → b ∉ X.ex
 exfs : ∀ b ∈ X.ex,b ∉ X.fs
 funs : X.s₀.heap.FunFrames X.base X.outer
 frf : ∀ b ∈ X.fs,X.H₀ b = none
structure Inv (X : Cx) (pins : List (Addr × Obj)) (σ : List (Option V)) (H : Hp) (s : Shared) : Prop where
 ok : X.Ok
 os : s.os = X.s₀.os
 bare : AllBare s.gens
 base : Un X.fs X.ex X.H₀ H X.s₀.heap s.heap
 loc : ∃ m,s.heap.Ns X.env.locals m ∧ ∀ (i : Nat) (x : Str) (v : V),X.N[i]? = some x → σ[i]? = some (some v) → Vis X.env.scope x → ∃ u,RelV v u ∧ Look X.env s.heap m x u
 cell : ∀ x c,X.env.cells.lookup x = some c → ∃ v,s.heap.IsCell c v
 free : H X.env.locals = none
 freeC : ∀ x c,X.env.cells.lookup x = some c → H c = none
 pin : ∀ p ∈ X.pn ++ pins,s.heap.get? p.1 = some p.2 ∧ H p.1 = none ∧ p.1 ≠ X.env.locals ∧ p.1 ∉ X.fs ∧ ∀ v,p.2.data ≠ .cell v
 hok : HOk X.prog X.w H s.heap
 len : σ.length = X.N.length
section
variable {X : Cx} {pins : List (Addr × Obj)} {σ : List (Option V)} {H H' : Hp} {s : Shared} {h' : Heap}
theorem Cx.Ok.nofr (ok : X.Ok) {b : Addr} {o : Obj} (e : X.base.get? b = some o) : b ∉ X.fs:=fun hb=>by
 have:=(ok.funs.mem hb).1
 rw [e] at this; cases this
theorem Inv.bs (I : Inv X pins σ H s) : ∀ b o,X.base.get? b = some o → s.heap.get? b = some o ∧ H b = none:=fun b o e =>
 ⟨I.base.keep b o (I.ok.bs b o e).1 (I.ok.bs b o e).2 (I.ok.nofr e) (I.ok.noex b o e),I.base.free b o (I.ok.bs b o e).1 (I.ok.bs b o e).2 (I.ok.noex b o e)⟩
theorem Inv.bk (I : Inv X pins σ H s) : ∀ b o,X.base.get? b = some o → s.heap.get? b = some o:=fun b o e=>(I.bs b o e).1
theorem Inv.mod (I : Inv X pins σ H s) : Mod X.K X.mg X.base:=I.ok.mod
theorem Inv.kIn (I : Inv X pins σ H s) : X.K.In s.heap:=I.ok.mod.kin.keeps I.bk
theorem Inv.nolimit (I : Inv X pins σ H s) : s.heap.NoLimit:=I.ok.mod.nolimit.keeps I.bk
theorem Inv.fr (I : Inv X pins σ H s) : ∃ m,Fr X.base X.env.locals s.heap m :=
 let ⟨m,hn,_⟩:=I.loc
 ⟨m,hn,I.bk,Nat.le_trans I.ok.bsz I.ok.above⟩
theorem Inv.lt (I : Inv X pins σ H s) : X.env.locals < s.heap.objs.size:=let ⟨_,hn,_⟩:=I.loc; hn.lt
theorem Inv.sz (I : Inv X pins σ H s) : X.s₀.heap.objs.size ≤ s.heap.objs.size:=Nat.le_trans I.ok.above (Nat.le_of_lt I.lt)
theorem Inv.nofs (I : Inv X pins σ H s) {a : Addr} (h : s.heap.objs.size ≤ a) : a ∉ X.fs:=fun hb=>by
 obtain ⟨_,o,ho,_⟩:=I.ok.funs.mem hb
 exact absurd (Nat.lt_of_lt_of_le (Heap.lt_size ho) (Nat.le_trans I.sz h)) (Nat.lt_irrefl _)
theorem Inv.cne (I : Inv X pins σ H s) : ∀ x c,X.env.cells.lookup x = some c → c ≠ X.env.locals:=fun x c e z=>by
 obtain ⟨v,o,ho,hd⟩:=I.cell x c e
 obtain ⟨m,⟨o',es,ep,ho',hd',_⟩,_⟩:=I.loc
 rw [z,ho'] at ho; cases ho; rw [hd'] at hd; cases hd
theorem Inv.funs (I : Inv X pins σ H s) : s.heap.FunFrames X.base X.outer:=by
 have all : ∀ (l : List Env),(∀ b ∈ frs l,b ∈ X.fs) → X.s₀.heap.FunFrames X.base l → s.heap.FunFrames X.base l:=by
  intro l
  induction l with
  | nil=>intro _ _; trivial
  | cons env r ih =>
   intro hs hl
   obtain ⟨hk,⟨L,o,hf,hn,ho,hd⟩,hr⟩:=hl
   have hL : L ∈ X.fs:=hs L (by unfold frs; rw [List.filterMap_cons,hf]; exact List.mem_cons_self)
   obtain ⟨sl,e⟩:=I.base.slot L o ho (I.ok.frf L hL) hL fun z=>I.ok.exfs L z hL
   exact ⟨hk,⟨L,_,hf,hn,e,hd⟩,ih (fun b hb=>hs b (by unfold frs; rw [List.filterMap_cons,hf]; exact List.mem_cons_of_mem _ hb)) hr⟩
 exact all X.outer (fun _ hb=>hb) I.ok.funs
theorem Inv.stack (I : Inv X pins σ H s) : s.heap.FunFrames X.base X.stack:=by
 rcases I.ok.stk with e | ⟨e,hf⟩
 · rw [e]; exact I.funs
 · rw [e]
   obtain ⟨m,hn,_⟩:=I.loc
   refine .cons (by rw [I.ok.kind]; decide) hf hn ?_ I.funs
   exact Heap.get?_none_of_le (Nat.le_trans I.ok.bsz I.ok.above)
theorem Inv.stkSub (I : Inv X pins σ H s) : ∀ b ∈ frs X.stack,b ∈ X.env.locals :: X.fs:=fun b hb=>by
 rcases I.ok.stk with e | ⟨e,hf⟩
 · rw [e] at hb; exact List.mem_cons_of_mem _ hb
 · rw [e] at hb
   unfold frs at hb
   rw [List.filterMap_cons,hf] at hb
   exact hb
theorem Inv.stkFree (I : Inv X pins σ H s) : ∀ b ∈ frs X.stack,H b = none:=fun b hb=>by
 rcases List.mem_cons.mp (I.stkSub b hb) with e | hb
 · rw [e]; exact I.free
 · obtain ⟨_,o,ho,_⟩:=I.ok.funs.mem hb
   exact I.base.free b o ho (I.ok.frf b hb) fun z=>I.ok.exfs b z hb
theorem Inv.step {g' : Array GenState} {t' : Nat} {d' : Drawn} {ch : List Addr} (I : Inv X pins σ H s)
 (hch : ∀ b ∈ ch,(b ∈ X.ex ∨ X.s₀.heap.objs.size ≤ b) ∧ b ≠ X.env.locals ∧ (∀ x c,X.env.cells.lookup x = some c → c ≠ b) ∧ ∀ p ∈ X.pn ++ pins,p.1 ≠ b)
 (keep : ∀ b o,b ≠ X.env.locals → b ∉ X.fs → b ∉ ch → s.heap.get? b = some o → H b = none → h'.get? b = some o)
 (slot : ∀ b o,b ≠ X.env.locals → b ∈ X.fs → b ∉ ch → s.heap.get? b = some o → H b = none → ∃ sl,h'.get? b = some { o with slots:=sl }) (free : ∀ b o,b ∉ ch → s.heap.get? b = some o → H b = none → H' b = none)
 (there : ∀ b o,b ∉ ch → s.heap.get? b = some o → ∃ o',h'.get? b = some o')
 (tups : ∀ b xs,H b = some (.tup xs) → H' b = some (.tup xs)) (frzs : ∀ b o u,H b = some (.frz o u) → H' b = some (.frz o u)) (tbls : ∀ b ps,H b = some (.tbl ps) → ∃ more,H' b = some (.tbl (ps ++ more)))
 (ns : ∀ m,s.heap.Ns X.env.locals m → h'.Ns X.env.locals m) (hok : HOk X.prog X.w H' h') (hg : AllBare g') :
 Inv X pins σ H' { s with heap:=h',gens:=g',drawn:=d',toks:=t' }:=by
 have neL : ∀ b o,X.s₀.heap.get? b = some o → b ≠ X.env.locals:=fun b o e=>Nat.ne_of_lt (Nat.lt_of_lt_of_le (Heap.lt_size e) I.ok.above)
 have neC : ∀ b o,X.s₀.heap.get? b = some o → b ∉ X.ex → b ∉ ch:=fun b o e hx hb=>by
  rcases (hch b hb).1 with z | z
  · exact hx z
  · exact absurd (Nat.lt_of_lt_of_le (Heap.lt_size e) z) (Nat.lt_irrefl _)
 have cellK : ∀ x c,X.env.cells.lookup x = some c → ∀ v,s.heap.IsCell c v → h'.IsCell c v:=fun x c e v ⟨o,ho,hd⟩=>by
  have nch : c ∉ ch:=fun z=>(hch c z).2.2.1 x c e rfl
  by_cases hc : c ∈ X.fs
  · obtain ⟨sl,q⟩:=slot c o (I.cne x c e) hc nch ho (I.freeC x c e)
    exact ⟨_,q,hd⟩
  · exact ⟨o,keep c o (I.cne x c e) hc nch ho (I.freeC x c e),hd⟩
 refine ⟨I.ok,I.os,hg,⟨fun b o e n hb hx=>?_,fun b o e n hb hx=>?_,fun b o e n hx=>?_,fun b o e hx=>?_,fun b xs e=>tups b xs (I.base.tups b xs e),fun b o xs e=>frzs b o xs (I.base.frzs b o xs e),fun b ps e=>?_⟩,?_,fun x c e=>?_,?_,fun x c e=>?_,fun p hp=>?_,hok,I.len⟩
 · exact keep b o (neL b o e) hb (neC b o e hx) (I.base.keep b o e n hb hx) (I.base.free b o e n hx)
 · obtain ⟨sl,e1⟩:=I.base.slot b o e n hb hx
   obtain ⟨sl',e2⟩:=slot b _ (neL b o e) hb (neC b o e hx) e1 (I.base.free b o e n hx)
   exact ⟨sl',e2⟩
 · obtain ⟨o',e1⟩:=I.base.there b o e hx
   exact free b o' (neC b o e hx) e1 (I.base.free b o e n hx)
 · obtain ⟨o',e1⟩:=I.base.there b o e hx
   exact there b o' (neC b o e hx) e1
 · obtain ⟨m1,e1⟩:=I.base.tbls b ps e
   obtain ⟨m2,e2⟩:=tbls b _ e1
   exact ⟨m1 ++ m2,by rw [e2,Array.append_assoc]⟩
 · obtain ⟨m,hn,hl⟩:=I.loc
   refine ⟨m,ns m hn,fun i x v e1 e2 e3=>?_⟩
   obtain ⟨u,r,l⟩:=hl i x v e1 e2 e3
   refine ⟨u,r,?_⟩
   rcases l with l | ⟨k,c,e,z⟩
   · exact .inl l
   · exact .inr ⟨k,c,e,cellK x c e _ z⟩
 · obtain ⟨v,z⟩:=I.cell x c e
   exact ⟨v,cellK x c e v z⟩
 · obtain ⟨m,⟨o,_,_,ho,_⟩,_⟩:=I.loc
   exact free _ o (fun z=>(hch _ z).2.1 rfl) ho I.free
 · obtain ⟨v,o,ho,hd⟩:=I.cell x c e
   exact free c o (fun z=>(hch c z).2.2.1 x c e rfl) ho (I.freeC x c e)
 · obtain ⟨e,n,ne,nf,d⟩:=I.pin p hp
   have nch : p.1 ∉ ch:=fun z=>(hch p.1 z).2.2.2 p hp rfl
   exact ⟨keep p.1 p.2 ne nf nch e n,free p.1 p.2 nch e n,ne,nf,d⟩
theorem Inv.un {t' : Nat} (I : Inv X pins σ H s) (u : Un X.fs [] H H' s.heap h') (hok : HOk X.prog X.w H' h') : Inv X pins σ H' { s with heap:=h',toks:=t' }:=by
 obtain ⟨m,⟨o,es,ep,ho,r⟩,_⟩:=id I.loc
 obtain ⟨sl,hL⟩:=u.any ho I.free (by simp)
 exact I.step (g':=s.gens) (d':=s.drawn) (ch:=[]) (fun _ z=>nomatch z) (fun b o _ hb _ e n=>u.keep b o e n hb (by simp)) (fun b o _ hb _ e n=>u.slot b o e n hb (by simp)) (fun b o _ e n=>u.free b o e n (by simp)) (fun b o _ e=>u.there b o e (by simp)) u.tups u.frzs u.tbls (fun m' hm=>by
  obtain ⟨o',es',ep',ho',r'⟩:=hm
  rw [ho] at ho'; cases ho'
  exact ⟨_,es',ep',hL,r'⟩) hok I.bare
theorem Inv.call {g' : Array GenState} {t' : Nat} {d' : Drawn} {ch : List Addr} (I : Inv X pins σ H s) (u : Un (frs X.stack) ch H H' s.heap h') (hok : HOk X.prog X.w H' h') (hg : AllBare g')
 (hch : ∀ b ∈ ch,(b ∈ X.ex ∨ X.s₀.heap.objs.size ≤ b) ∧ b ≠ X.env.locals ∧ (∀ x c,X.env.cells.lookup x = some c → c ≠ b) ∧ ∀ p ∈ X.pn ++ pins,p.1 ≠ b) :
 Inv X pins σ H' { s with heap:=h',gens:=g',drawn:=d',toks:=t' }:=by
 obtain ⟨m,⟨o,es,ep,ho,r⟩,_⟩:=id I.loc
 obtain ⟨sl,hL⟩:=u.any ho I.free fun z=>(hch _ z).2.1 rfl
 exact I.step (ch:=ch) hch (fun b o hL hb hc e n=>u.keep b o e n (fun z=>(List.mem_cons.mp (I.stkSub b z)).elim hL hb) hc) (fun b o _ _ hc e n=>u.any e n hc) (fun b o hc e n=>u.free b o e n hc) (fun b o hc e=>u.there b o e hc) u.tups u.frzs u.tbls (fun m' hm=>by
  obtain ⟨o',es',ep',ho',r'⟩:=hm
  rw [ho] at ho'; cases ho'
  exact ⟨_,es',ep',hL,r'⟩) hok hg
theorem Inv.turned {t' : Nat} {it : Addr} (I : Inv X pins σ H s) (k : ∀ b o,b ≠ it → s.heap.get? b = some o → h'.get? b = some o) (hn : H it = none) (hL : it ≠ X.env.locals)
 (h1 : it ∈ X.ex ∨ X.s₀.heap.objs.size ≤ it) (h2 : ∀ x c,X.env.cells.lookup x = some c → c ≠ it) (h3 : ∀ p ∈ X.pn ++ pins,p.1 ≠ it) : Inv X pins σ H { s with heap:=h',toks:=t' }:=by
 have nit : ∀ b u,H b = some u → b ≠ it:=fun b u e z=>by rw [z,hn] at e; cases e
 refine I.step (g':=s.gens) (d':=s.drawn) (ch:=[it]) (fun b hb=>?_) (fun b o _ _ hc e _=>k b o (fun z=>hc (by simp [z])) e) (fun b o _ _ hc e _=>⟨o.slots,k b o (fun z=>hc (by simp [z])) e⟩) (fun _ _ _ _ n=>n)
  (fun b o hc e=>⟨o,k b o (fun z=>hc (by simp [z])) e⟩) (fun _ _ e=>e) (fun _ _ _ e=>e) (fun b ps e=>⟨#[],by rw [e]; simp⟩) (fun m hm=>?_) (fun b u e=>?_) I.bare
 · have e : b = it:=by simpa using hb
   subst e
   exact ⟨h1,hL,h2,h3⟩
 · obtain ⟨o,es,ep,ho,r⟩:=hm
   exact ⟨o,es,ep,k _ o (Ne.symm hL) ho,r⟩
 · refine (I.hok b u e).stay (fun c v hc q=>k c v ?_ q) (fun _ q=>q) fun _ _ q=>q
   rcases hc with z | z
   · rw [z]; exact nit b u e
   · exact nit c _ z
theorem Inv.tok (I : Inv X pins σ H s) (t : Nat) : Inv X pins σ H { s with toks:=t }:=I.un (h':=s.heap) (t':=t) Un.refl I.hok
theorem Inv.kept {t' : Nat} (I : Inv X pins σ H s) (k : ∀ b u,s.heap.get? b = some u → h'.get? b = some u) : Inv X pins σ H { s with heap:=h',toks:=t' }:=I.un (Un.kept k) (I.hok.kept k)
theorem Inv.laid {a : Addr} {o : HO} {t' : Nat} (I : Inv X pins σ H s) (k : ∀ b u,s.heap.get? b = some u → h'.get? b = some u) (hp : s.heap.objs.size ≤ a) (new : ObjOk X.prog X.w (upd H a o) h' a o) :
 Inv X pins σ (upd H a o) { s with heap:=h',toks:=t' }:=I.un (Un.laid k hp (I.hok.fresh hp)) (I.hok.laid k hp new)
theorem Inv.write {x e : Addr} {o : HO} {t' : Nat} (I : Inv X pins σ H s) (mu : Mut (H x)) (he : e = x ∨ H e = some (.own x)) (k : ∀ b u,b ≠ e → s.heap.get? b = some u → h'.get? b = some u) (heo : ∃ u,h'.get? e = some u)
 (new : ObjOk X.prog X.w (upd H x o) h' x o) : Inv X pins σ (upd H x o) { s with heap:=h',toks:=t' }:=I.un (Un.write mu he k heo) (I.hok.write mu he k heo new)
theorem Inv.weak {σ' : List (Option V)} (I : Inv X pins σ H s) (hl : σ'.length = σ.length) (w : ∀ (i : Nat) v,σ'[i]? = some (some v) → σ[i]? = some (some v)) : Inv X pins σ' H s :=
 ⟨I.ok,I.os,I.bare,I.base,let ⟨m,hn,hl'⟩:=I.loc; ⟨m,hn,fun i x v e1 e2 e3=>hl' i x v e1 (w i v e2) e3⟩,I.cell,I.free,I.freeC,I.pin,I.hok,hl.trans I.len⟩
theorem Inv.pins_of {pins' : List (Addr × Obj)} (I : Inv X pins σ H s) (h : ∀ p ∈ pins',s.heap.get? p.1 = some p.2 ∧ H p.1 = none ∧ p.1 ≠ X.env.locals ∧ p.1 ∉ X.fs ∧ ∀ v,p.2.data ≠ .cell v) : Inv X pins' σ H s :=
 ⟨I.ok,I.os,I.bare,I.base,I.loc,I.cell,I.free,I.freeC,fun p hp=>(List.mem_append.mp hp).elim (fun z=>I.pin p (List.mem_append_left _ z)) (h p),I.hok,I.len⟩
theorem nodup_ix {N : List Str} (hN : N.Nodup) {i j : Nat} {x : Str} (a : N[i]? = some x) (b : N[j]? = some x) : i = j:=by
 obtain ⟨h1,e1⟩:=List.getElem?_eq_some_iff.mp a
 obtain ⟨h2,e2⟩:=List.getElem?_eq_some_iff.mp b
 exact (List.getElem_inj hN).mp (e1.trans e2.symm)
theorem store_ok2 {M : Model} {A : Around} {E : Value → Shared → Prop} {i : Nat} {x : Str} {v : V} {u : Value} {Q : Unit → Shared → Prop} (I : Inv X pins σ H s) (hN : X.N.Nodup) (hi : X.N[i]? = some x) (hx : Loc X.env.scope x) (r : RelV v u)
 (h : ∀ s',Inv X pins (σ.set i (some v)) H s' → (∃ a,Heap.SameBut a s.heap s'.heap ∧ (a = X.env.locals ∨ X.env.cells.lookup x = some a)) → Q () s') (hf : X.fn x = true ∨ X.env.scope.names.lookup x = some .local:=by first | exact .inl rfl | exact .inr rfl | assumption) : wpAny M A (storeName X.env x u) Q E s:=by
 obtain ⟨m,hn,hl⟩:=id I.loc
 have hcls : (X.env.scope.kind == .class || (X.env.scope.kind == .module && X.env.locals != X.env.globals)) = false:=by rw [I.ok.kind]; rfl
 have hiσ : i < σ.length:=by rw [I.len]; exact (List.getElem?_eq_some_iff.mp hi).1
 have cne:=I.cne
 have tracked : ∀ {a : Addr} {h' : Heap},(∃ o,s.heap.get? a = some o ∧ H a = none) → Heap.SameBut a s.heap h' → HOk X.prog X.w H h':=fun {a h'} ha hs b ob e=>by
  obtain ⟨_,_,hfree⟩:=ha
  refine (I.hok b ob e).stay (fun c w' hc q=>(hs.2 c ?_).trans q) (fun _ q=>q) fun _ _ q=>q
  rintro rfl
  rcases hc with rfl | hc
  · rw [hfree] at e; cases e
  · rw [hfree] at hc; cases hc
 rcases hx with hk | hk
 · refine wpAny_storeName_local hk hn (fun h' hn' hs=>?_) hcls
   obtain ⟨oL,_,_,hoL,_⟩:=id hn
   refine h _ ⟨I.ok,I.os,I.bare,⟨fun b o e n hb hx=>?_,fun b o e n hb hx=>?_,I.base.free,fun b o e hx=>?_,I.base.tups,I.base.frzs,I.base.tbls⟩,⟨_,hn',fun j y v' e1 e2 e3=>?_⟩,fun y c e=>?_,I.free,I.freeC,fun p hp=>?_,tracked ⟨oL,hoL,I.free⟩ hs,by simpa using I.len⟩ ⟨_,hs,.inl rfl⟩
   · exact (hs.2 b (Nat.ne_of_lt (Nat.lt_of_lt_of_le (Heap.lt_size e) I.ok.above))).trans (I.base.keep b o e n hb hx)
   · obtain ⟨sl,e1⟩:=I.base.slot b o e n hb hx
     exact ⟨sl,(hs.2 b (Nat.ne_of_lt (Nat.lt_of_lt_of_le (Heap.lt_size e) I.ok.above))).trans e1⟩
   · obtain ⟨o',e1⟩:=I.base.there b o e hx
     exact ⟨o',(hs.2 b (Nat.ne_of_lt (Nat.lt_of_lt_of_le (Heap.lt_size e) I.ok.above))).trans e1⟩
   · by_cases hj : j = i
     · subst hj
       rw [hi] at e1; cases e1
       rw [List.getElem?_set_self hiσ] at e2
       cases e2
       exact ⟨u,r,.inl ⟨hk,by simp⟩⟩
     · rw [List.getElem?_set_ne (Ne.symm hj)] at e2
       obtain ⟨u',r',q⟩:=hl j y v' e1 e2 e3
       refine ⟨u',r',?_⟩
       rcases q with ⟨k,e⟩ | ⟨k,c,e,z⟩
       · refine .inl ⟨k,?_⟩
         have : y ≠ x:=fun e=>hj (nodup_ix hN e1 (e ▸ hi))
         simp [this,e]
       · exact .inr ⟨k,c,e,z.sameBut hs (cne y c e)⟩
   · obtain ⟨w',z⟩:=I.cell y c e
     exact ⟨w',z.sameBut hs (cne y c e)⟩
   · obtain ⟨e,n,ne,nf,d⟩:=I.pin p hp
     exact ⟨(hs.2 p.1 ne).trans e,n,ne,nf,d⟩
 · have hfn : X.fn x = true:=by
    rcases hf with z | z
    · exact z
    · rw [z] at hk; cases hk
   obtain ⟨c,hc⟩:=I.ok.has x (.inl hk)
   obtain ⟨w',z⟩:=I.cell x c hc
   refine wpAny_storeName_cell I.ok.kind hk hc z (fun h' hc' hs=>?_)
   obtain ⟨oc,hoc,hocd⟩:=id z
   refine h { s with heap:=h' } ⟨I.ok,I.os,I.bare,⟨fun b o e n hb hx=>?_,fun b o e n hb hx=>?_,I.base.free,fun b o e hx=>?_,I.base.tups,I.base.frzs,I.base.tbls⟩,⟨m,hn.sameBut hs (Ne.symm (cne x c hc)),fun j y v' e1 e2 e3=>?_⟩,fun y c' e=>?_,I.free,I.freeC,fun p hp=>?_,tracked ⟨oc,hoc,I.freeC x c hc⟩ hs,by simpa using I.len⟩ ⟨c,hs,.inr hc⟩
   · exact (hs.2 b (Nat.ne_of_lt (Nat.lt_of_lt_of_le (Heap.lt_size e) (I.ok.cab x c hfn hc)))).trans (I.base.keep b o e n hb hx)
   · obtain ⟨sl,e1⟩:=I.base.slot b o e n hb hx
     exact ⟨sl,(hs.2 b (Nat.ne_of_lt (Nat.lt_of_lt_of_le (Heap.lt_size e) (I.ok.cab x c hfn hc)))).trans e1⟩
   · obtain ⟨o',e1⟩:=I.base.there b o e hx
     exact ⟨o',(hs.2 b (Nat.ne_of_lt (Nat.lt_of_lt_of_le (Heap.lt_size e) (I.ok.cab x c hfn hc)))).trans e1⟩
   · by_cases hj : j = i
     · subst hj
       rw [hi] at e1; cases e1
       rw [List.getElem?_set_self hiσ] at e2
       cases e2
       exact ⟨u,r,.inr ⟨.inl hk,c,hc,hc'⟩⟩
     · rw [List.getElem?_set_ne (Ne.symm hj)] at e2
       obtain ⟨u',r',q⟩:=hl j y v' e1 e2 e3
       refine ⟨u',r',?_⟩
       rcases q with q | ⟨k,c',e,z'⟩
       · exact .inl q
       · refine .inr ⟨k,c',e,z'.sameBut hs ?_⟩
         rintro rfl
         exact hj (nodup_ix hN e1 (I.ok.inj _ _ _ e hc ▸ hi))
   · by_cases hcc : c' = c
     · subst hcc; exact ⟨_,hc'⟩
     · obtain ⟨w2,z2⟩:=I.cell y c' e
       exact ⟨w2,z2.sameBut hs hcc⟩
   · obtain ⟨e,n,ne,nf,d⟩:=I.pin p hp
     refine ⟨(hs.2 p.1 ?_).trans e,n,ne,nf,d⟩
     intro q
     rw [q,hoc] at e
     have q' : oc = p.2:=Option.some.inj e
     exact d w' (by rw [← q']; exact hocd)
theorem store_ok {M : Model} {A : Around} {E : Value → Shared → Prop} {i : Nat} {x : Str} {v : V} {u : Value} {Q : Unit → Shared → Prop} (I : Inv X pins σ H s) (hN : X.N.Nodup) (hi : X.N[i]? = some x) (hx : Loc X.env.scope x) (r : RelV v u)
 (h : ∀ s',Inv X pins (σ.set i (some v)) H s' → Q () s') (hf : X.fn x = true ∨ X.env.scope.names.lookup x = some .local:=by first | exact .inl rfl | exact .inr rfl | assumption) : wpAny M A (storeName X.env x u) Q E s :=
 store_ok2 I hN hi hx r (fun s' I' _=>h s' I') hf
theorem Inv.call' {s' : Shared} {ch : List Addr} (I : Inv X pins σ H s) (ho : s'.os = s.os) (u : Un (frs X.stack) ch H H' s.heap s'.heap) (hok : HOk X.prog X.w H' s'.heap) (hg : AllBare s'.gens)
 (hch : ∀ b ∈ ch,(b ∈ X.ex ∨ X.s₀.heap.objs.size ≤ b) ∧ b ≠ X.env.locals ∧ (∀ x c,X.env.cells.lookup x = some c → c ≠ b) ∧ ∀ p ∈ X.pn ++ pins,p.1 ≠ b) : Inv X pins σ H' s':=by
 obtain ⟨h',g',d',t',o'⟩:=s'
 have e : o' = s.os:=ho
 subst e
 exact I.call (g':=g') (t':=t') (d':=d') u hok hg hch
end
noncomputable abbrev XK:=Value → Option Addr → Hp → Prop
noncomputable abbrev St:=List (Option V)
noncomputable abbrev VK:=V → Hp → Prop
noncomputable abbrev TE:=St → Hp → VK → Prop
noncomputable abbrev TT:=St → Hp → (Bool → Hp → Prop) → Prop
noncomputable abbrev TA:=St → Hp → (List V → Hp → Prop) → Prop
structure Ends where
 nx : St → Hp → Prop
 rt : VK
 bk : St → Hp → Prop:=fun _ _=>False
 ct : St → Hp → Prop:=fun _ _=>False
noncomputable abbrev TS:=Ends → St → Hp → Prop
noncomputable def EP (X : Cx) (pins : List (Addr × Obj)) (σ : St) (Q : VK) (u : Value) (s' : Shared) : Prop:=∃ v H',Inv X pins σ H' s' ∧ RelV v u ∧ Q v H'
noncomputable def TP (X : Cx) (pins : List (Addr × Obj)) (σ : St) (Q : Bool → Hp → Prop) (b : Bool) (s' : Shared) : Prop:=∃ H',Inv X pins σ H' s' ∧ Q b H'
noncomputable def AP (X : Cx) (pins : List (Addr × Obj)) (σ : St) (Q : List V → Hp → Prop) (us : List Value) (s' : Shared) : Prop:=∃ vs H',Inv X pins σ H' s' ∧ Vals vs us ∧ Q vs H'
noncomputable def SP (X : Cx) (pins : List (Addr × Obj)) (D : Ends) (f : Flow) (s' : Shared) : Prop :=
 match f with
 | .next=>∃ σ' H',Inv X pins σ' H' s' ∧ D.nx σ' H'
 | .brk=>∃ σ' H',Inv X pins σ' H' s' ∧ D.bk σ' H'
 | .cont=>∃ σ' H',Inv X pins σ' H' s' ∧ D.ct σ' H'
 | .ret u=>∃ v σ' H',Inv X pins σ' H' s' ∧ RelV v u ∧ D.rt v H'
noncomputable def PE (X : Cx) (e : Expr) (t : TE) : Prop :=
 ∀ (pins : List (Addr × Obj)) (s : Shared) (σ : St) (H : Hp) (Q : VK),Inv X pins σ H s → t σ H Q → wpAny (model X.prog X.w) X.A (eval e X.env) (EP X pins σ Q) X.xe s
noncomputable def PT (X : Cx) (e : Expr) (t : TT) : Prop :=
 ∀ (pins : List (Addr × Obj)) (s : Shared) (σ : St) (H : Hp) (Q : Bool → Hp → Prop),Inv X pins σ H s → t σ H Q → wpAny (model X.prog X.w) X.A (isTrue e X.env (eval e X.env)) (TP X pins σ Q) X.xe s
noncomputable def PW (X : Cx) (e : Expr) (t : TT) : Prop :=
 ∀ (whole : Sem Value) (pins : List (Addr × Obj)) (s : Shared) (σ : St) (H : Hp) (Q : Bool → Hp → Prop),Inv X pins σ H s → t σ H Q → wpAny (model X.prog X.w) X.A (isTrue e X.env whole) (TP X pins σ Q) X.xe s
theorem PW.pt {X : Cx} {e : Expr} {t : TT} (h : PW X e t) : PT X e t:=h _
noncomputable def PA (X : Cx) (es : List Expr) (t : TA) : Prop :=
 ∀ (pos : Pos) (pins : List (Addr × Obj)) (s : Shared) (σ : St) (H : Hp) (Q : List V → Hp → Prop),Inv X pins σ H s → t σ H Q → wpAny (model X.prog X.w) X.A (spliced (backTo pos (starEach es X.env))) (AP X pins σ Q) X.xe s
noncomputable def PS (X : Cx) (st : Stmt) (t : TS) : Prop :=
 ∀ (pins : List (Addr × Obj)) (s : Shared) (σ : St) (H : Hp) (D : Ends),Inv X pins σ H s → t D σ H → wpAny (model X.prog X.w) X.A (exec st X.env) (SP X pins D) X.xe s
noncomputable def PSs (X : Cx) (st : List Stmt) (t : TS) : Prop :=
 ∀ (pins : List (Addr × Obj)) (s : Shared) (σ : St) (H : Hp) (D : Ends),Inv X pins σ H s → t D σ H → wpAny (model X.prog X.w) X.A (execs st X.env) (SP X pins D) X.xe s
theorem thn {α : Type} {t : Sem α} {Q Q' : α → Shared → Prop} {M : Model} {A : Around} {E : Value → Shared → Prop} {s : Shared} (h : wpAny M A t Q E s) (hQ : ∀ a s,Q a s → Q' a s) : wpAny M A t Q' E s:=wpAny_mono h hQ fun _ _ x=>x
end L2
namespace L2
open PySem PySem.Spec PyProof.Rows
section
variable {X : Cx}
noncomputable def tVar (i : Nat) : TE:=fun σ H Q=>∃ v,σ[i]? = some (some v) ∧ Q v H
noncomputable def tC (v : V) : TE:=fun _ H Q=>Q v H
theorem pe_var {i : Nat} {x : Str} {pos : Pos} (hN : X.N[i]? = some x) (hv : Vis X.env.scope x) (hd : (x == ("__debug__" : Str)) = false:=by decide) (hcd : (x == ("__classdict__" : Str)) = false:=by decide) : PE X (.Name x pos) (tVar i):=by
 intro pins s σ H Q I h
 obtain ⟨v,e,h⟩:=h
 obtain ⟨m,hn,hl⟩:=I.loc
 obtain ⟨u,r,l⟩:=hl i x v hN e hv
 have fin : EP X pins σ Q u s:=⟨v,H,I,r,h⟩
 rcases l with ⟨hk,hm⟩ | ⟨hk,c,hc,hcell⟩
 · exact wpAny_Name (wpAny_loadName_local I.ok.kind hk hn hm fin) hd
 · rcases hk with hk | hk
   · exact wpAny_Name (wpAny_loadName_cell I.ok.kind hk hc hcell fin) hd
   · exact wpAny_Name (wpAny_loadName_free I.ok.kind hk hc hcell fin hcd) hd
theorem pe_int {i j pos} : PE X (.Constant (.int i) j pos) (tC (.int i)):=fun _ _ _ H _ I h=>wpAny_Constant_int ⟨.int i,H,I.tok _,⟨_,rfl⟩,h⟩
theorem pe_bl {b j pos} : PE X (.Constant (.bool b) j pos) (tC (.bl b)):=fun _ _ _ H _ I h=>Constant_bool ⟨.bl b,H,I,rfl,h⟩
theorem pe_non {j pos} : PE X (.Constant .none j pos) (tC .non):=fun _ _ _ H _ I h=>Constant_none ⟨.non,H,I,rfl,h⟩
theorem pe_str {x j pos} : PE X (.Constant (.str x) j pos) (tC (.str x)):=fun _ _ _ H _ I h=>Calls.Constant_str ⟨.str x,H,I.tok _,⟨_,rfl⟩,h⟩
noncomputable def Gl (X : Cx) (x : Str) : Prop:=X.env.kindOf x = some .globalImplicit
theorem ld_glob {E : Value → Shared → Prop} {pins : List (Addr × Obj)} {s : Shared} {σ : St} {H : Hp} {x : Str} {u : Value} {pos : Pos} {Q : Value → Shared → Prop} (I : Inv X pins σ H s) (hg : Gl X x) (hm : X.mg x = some u) (h : Q u s)
 (hd : (x == ("__debug__" : Str)) = false:=by decide) : wpAny (model X.prog X.w) X.A (eval (.Name x pos) X.env) Q E s :=
 Calls.Name_function_global I.ok.kind hg (Calls.loadGlobal_global (by rw [I.ok.glob]; exact I.mod.glob.keeps I.bk) hm h) hd
theorem ld_blt {E : Value → Shared → Prop} {pins : List (Addr × Obj)} {s : Shared} {σ : St} {H : Hp} {x : Str} {u : Value} {pos : Pos} {Q : Value → Shared → Prop} (I : Inv X pins σ H s) (hg : Gl X x) (hm : X.mg x = none) (hv : bootBuiltins x = some u) (h : Q u s)
 (hn : x ≠ "__name__":=by decide) (hd : (x == ("__debug__" : Str)) = false:=by decide) : wpAny (model X.prog X.w) X.A (eval (.Name x pos) X.env) Q E s:=by
 obtain ⟨mb,h1,h2⟩:=I.mod.blt
 exact Calls.Name_function_global I.ok.kind hg (Calls.loadGlobal_builtin (by rw [I.ok.glob]; exact I.mod.glob.keeps I.bk) hm (by rw [I.ok.blt]; exact h1.keeps I.bk) ((h2 x hn).trans hv) h) hd
theorem pe_bltn {x : Str} {v : V} {u : Value} {pos : Pos} (hg : Gl X x) (hm : X.mg x = none) (hv : bootBuiltins x = some u) (r : RelV v u) (hn : x ≠ "__name__":=by decide) (hd : (x == ("__debug__" : Str)) = false:=by decide) : PE X (.Name x pos) (tC v) :=
 fun _ _ _ H _ I h=>ld_blt I hg hm hv ⟨v,H,I,r,h⟩ hn hd
variable {a b : Expr} {ta tb : TE} {pos : Pos}
noncomputable def PC (X : Cx) (op : CmpOp) (a b : Expr) (t : TE) : Prop :=
 ∀ (pins : List (Addr × Obj)) (s : Shared) (σ : St) (H : Hp) (Q : VK),Inv X pins σ H s → t σ H Q →
  wpAny (model X.prog X.w) X.A (eval a X.env) (fun v s₁=>wpAny (model X.prog X.w) X.A (eval b X.env) (fun u s₂=>wpAny (model X.prog X.w) X.A (compareOp op v u) (EP X pins σ Q) X.xe s₂) X.xe s₁) X.xe s
theorem nobehind (b : Expr) {op : CmpOp} (h : op ≠ .In) (h2 : op ≠ .NotIn) : behindInMarks op b = false:=by
 have e1 : (op == CmpOp.In) = false:=by cases op <;> first | rfl | exact absurd rfl h
 have e2 : (op == CmpOp.NotIn) = false:=by cases op <;> first | rfl | exact absurd rfl h2
 cases b <;> simp [behindInMarks,e1,e2]
noncomputable def tIsN (ta : TE) : TE:=fun σ H Q=>ta σ H fun x H1=>Q (.bl (decide (x = .non))) H1
noncomputable def tNotN (ta : TE) : TE:=fun σ H Q=>ta σ H fun x H1=>Q (.bl (!decide (x = .non))) H1
theorem RelV.none_iff {x : V} {v : Value} (r : RelV x v) : (v == Value.none) = decide (x = .non):=by
 cases x with
 | non=>cases r; rfl
 | bl _=>cases r; rfl
 | int _=>obtain ⟨t,rfl⟩:=r; rfl
 | str _=>obtain ⟨t,rfl⟩:=r; rfl
 | byt _=>obtain ⟨t,rfl⟩:=r; rfl
 | flt _=>obtain ⟨t,rfl⟩:=r; rfl
 | ref _=>cases r; rfl
 | ty _=>cases r; rfl
theorem pc_isN {j pos'} (ha : PE X a ta) : PC X .Is a (.Constant .none j pos') (tIsN ta):=by
 intro pins s σ H Q I h
 refine thn (ha pins s σ H _ I h) fun v s1 ⟨x,H1,I1,r1,q1⟩=>?_
 exact Constant_none (is_none_gen ⟨.bl _,H1,I1,by rw [r1.none_iff]; rfl,q1⟩)
theorem pc_notN {j pos'} (ha : PE X a ta) : PC X .IsNot a (.Constant .none j pos') (tNotN ta):=by
 intro pins s σ H Q I h
 refine thn (ha pins s σ H _ I h) fun v s1 ⟨x,H1,I1,r1,q1⟩=>?_
 exact Constant_none (isnot_none_gen ⟨.bl _,H1,I1,by rw [r1.none_iff]; rfl,q1⟩)
noncomputable def tB (t : TE) : TT:=fun σ H Q=>t σ H fun x H1=>∃ c,x = .bl c ∧ Q c H1
theorem pt_cmp {op : CmpOp} {t : TE} (h : PC X op a b t) (h1 : behindInMarks op b = false:=by first | exact nobehind _ (by decide) (by decide) | rfl) : PT X (.Compare a [op] [b] pos) (tB t):=by
 intro pins s σ H Q I hw
 refine wpAny_isTrue_Compare1 (thn (h pins s σ H _ I hw) fun v s1 h1=>thn h1 fun u s2 h2=>thn h2 fun c s3 ⟨x,H1,I1,r1,q1⟩=>?_) h1
 obtain ⟨d,rfl,q⟩:=q1
 cases r1
 exact wpAny_truthy_bool ⟨H1,I1,q⟩
theorem pt_val {e : Expr} {t : TE} (h : PE X e t) (he : ∀ whole,isTrue e X.env whole = (do let v ← whole; standAt e.pos; holding [v] (truthy v)):=by intro _; rfl) : PT X e (tB t):=by
 intro pins s σ H Q I hw
 refine isTrue_plain (thn (h pins s σ H _ I hw) fun v s1 ⟨x,H1,I1,r1,q1⟩=>?_) (he _)
 obtain ⟨d,rfl,q⟩:=q1
 cases r1
 exact wpAny_truthy_bool ⟨H1,I1,q⟩
variable {tA tB' : TT} {rest : List Expr}
noncomputable def tAnd (t u : TT) : TT:=fun σ H Q=>t σ H fun c H1=>if c = true then u σ H1 Q else Q false H1
noncomputable def tOr (t u : TT) : TT:=fun σ H Q=>t σ H fun c H1=>if c = true then Q true H1 else u σ H1 Q
noncomputable def tNot (t : TT) : TT:=fun σ H Q=>t σ H fun c H1=>Q (!c) H1
theorem pw_and1 (ha : PT X a tA) : PW X (.BoolOp .And [a] pos) tA:=by
 intro wh pins s σ H Q I h
 refine isTrue_and (thn (ha pins s σ H Q I h) fun c s1 e=>?_)
 cases c with
 | true=>exact isTrue_and_nil e
 | false=>exact e
theorem pw_or1 (ha : PT X a tA) : PW X (.BoolOp .Or [a] pos) tA:=by
 intro wh pins s σ H Q I h
 refine isTrue_or (thn (ha pins s σ H Q I h) fun c s1 e=>?_)
 cases c with
 | false=>exact isTrue_or_nil e
 | true=>exact e
theorem pw_and (ha : PT X a tA) (hb : PW X (.BoolOp .And (b :: rest) pos) tB') : PW X (.BoolOp .And (a :: b :: rest) pos) (tAnd tA tB'):=by
 intro wh pins s σ H Q I h
 refine isTrue_and (thn (ha pins s σ H _ I h) fun c s1 ⟨H1,I1,q1⟩=>?_)
 cases c with
 | true=>exact hb wh pins s1 σ H1 Q I1 q1
 | false=>exact ⟨H1,I1,q1⟩
theorem pw_or (ha : PT X a tA) (hb : PW X (.BoolOp .Or (b :: rest) pos) tB') : PW X (.BoolOp .Or (a :: b :: rest) pos) (tOr tA tB'):=by
 intro wh pins s σ H Q I h
 refine isTrue_or (thn (ha pins s σ H _ I h) fun c s1 ⟨H1,I1,q1⟩=>?_)
 cases c with
 | true=>exact ⟨H1,I1,q1⟩
 | false=>exact hb wh pins s1 σ H1 Q I1 q1
theorem pt_not (ha : PT X a tA) : PT X (.UnaryOp .Not a pos) (tNot tA):=by
 intro pins s σ H Q I h
 exact isTrue_not (ha pins s σ H (fun c H1=>Q (!c) H1) I h)
noncomputable def tAndV (ta tb : TE) : TE:=fun σ H Q=>ta σ H fun x H1=>∃ c,x = .bl c ∧ if c = true then tb σ H1 Q else Q (.bl false) H1
noncomputable def tOrV (ta tb : TE) : TE:=fun σ H Q=>ta σ H fun x H1=>∃ c,x = .bl c ∧ if c = true then Q (.bl true) H1 else tb σ H1 Q
noncomputable def tNotV (ta : TE) : TE:=fun σ H Q=>ta σ H fun x H1=>∃ c,x = .bl c ∧ Q (.bl (!c)) H1
theorem pe_one {op} {t : TE} (h : PE X a t) : PE X (.BoolOp op [a] pos) t:=fun pins s σ H Q I hw=>BoolOp_one (h pins s σ H Q I hw)
theorem pe_and (ha : PE X a ta) (hb : PE X (.BoolOp .And (b :: rest) pos) tb) : PE X (.BoolOp .And (a :: b :: rest) pos) (tAndV ta tb):=by
 intro pins s σ H Q I h
 refine BoolOp_and (thn (ha pins s σ H _ I h) fun v s1 ⟨x,H1,I1,r1,q1⟩=>?_)
 obtain ⟨c,rfl,q1⟩:=q1
 cases r1
 refine wpAny_truthy_bool ?_
 cases c with
 | true=>exact hb pins s1 σ H1 Q I1 q1
 | false=>exact ⟨.bl false,H1,I1,rfl,q1⟩
theorem pe_or (ha : PE X a ta) (hb : PE X (.BoolOp .Or (b :: rest) pos) tb) : PE X (.BoolOp .Or (a :: b :: rest) pos) (tOrV ta tb):=by
 intro pins s σ H Q I h
 refine BoolOp_or (thn (ha pins s σ H _ I h) fun v s1 ⟨x,H1,I1,r1,q1⟩=>?_)
 obtain ⟨c,rfl,q1⟩:=q1
 cases r1
 refine wpAny_truthy_bool ?_
 cases c with
 | false=>exact hb pins s1 σ H1 Q I1 q1
 | true=>exact ⟨.bl true,H1,I1,rfl,q1⟩
theorem pe_not (ha : PE X a ta) : PE X (.UnaryOp .Not a pos) (tNotV ta):=by
 intro pins s σ H Q I h
 refine UnaryOp_ (thn (ha pins s σ H _ I h) fun v s1 ⟨x,H1,I1,r1,q1⟩=>?_)
 obtain ⟨c,rfl,q1⟩:=q1
 cases r1
 exact not_of (wpAny_truthy_bool ⟨.bl (!c),H1,I1,rfl,q1⟩)
noncomputable def tIf (t : TT) (ta tb : TE) : TE:=fun σ H Q=>t σ H fun c H1=>if c = true then ta σ H1 Q else tb σ H1 Q
theorem pe_ifExp {c : Expr} (hc : PT X c tA) (ha : PE X a ta) (hb : PE X b tb) : PE X (.IfExp c a b pos) (tIf tA ta tb):=by
 intro pins s σ H Q I h
 refine wpAny_IfExp (thn (hc pins s σ H _ I h) fun d s1 ⟨H1,I1,q1⟩=>?_)
 cases d with
 | true=>exact ha pins s1 σ H1 Q I1 q1
 | false=>exact hb pins s1 σ H1 Q I1 q1
end
end L2
namespace L2
open PySem PySem.Spec PyProof.Rows
noncomputable def SqL (K : PySem.W.Frag) (H : Hp) (a : Addr) (xs : List V) : Prop :=
 Rd H a (.lst xs) ∨
  ∃ (o : Obj) (its : Array Value) (n : Nat),K.lookup a = some o ∧ o.cls = .type "list" ∧ o.dict = none ∧ o.data = .seq its n ∧ its.size ≤ sizeLine ∧ Vals xs its.toList
noncomputable def SqT (K : PySem.W.Frag) (H : Hp) (a : Addr) (xs : List V) : Prop :=
 Rd H a (.tup xs) ∨
  ∃ (o : Obj) (its : Array Value) (n : Nat),K.lookup a = some o ∧ o.cls = .type "tuple" ∧ o.data = .seq its n ∧ its.size ≤ sizeLine ∧ Vals xs its.toList
noncomputable def absV : Value → Option V
 | .none=>some .non
 | .bool b=>some (.bl b)
 | .int i _=>some (.int i)
 | .str x _=>some (.str x)
 | .bytes b _=>some (.byt b)
 | .float b _=>some (.flt b)
 | .ref a=>some (.ref a)
 | .type n=>some (.ty n)
 | _=>none
theorem RelV.abs {x : V} {u : Value} (r : RelV x u) : absV u = some x:=by
 cases x with
 | non=>cases r; rfl
 | bl _=>cases r; rfl
 | int _=>obtain ⟨t,rfl⟩:=r; rfl
 | str _=>obtain ⟨t,rfl⟩:=r; rfl
 | byt _=>obtain ⟨t,rfl⟩:=r; rfl
 | flt _=>obtain ⟨t,rfl⟩:=r; rfl
 | ref _=>cases r; rfl
 | ty _=>cases r; rfl
theorem RelV.inj {x y : V} {u : Value} (r : RelV x u) (q : RelV y u) : x = y:=Option.some.inj (r.abs.symm.trans q.abs)
theorem Vals.inj : ∀ {xs ys : List V} {us : List Value},Vals xs us → Vals ys us → xs = ys
 | _,_,_,.nil,.nil=>rfl
 | _,_,_,.cons r t,.cons r' t'=>by rw [r.inj r',Vals.inj t t']
section
variable {X : Cx} {pins : List (Addr × Obj)} {σ : St} {H : Hp} {s : Shared} {a : Addr} {xs ys : List V}
theorem SqL.of {K : PySem.W.Frag} (h : H a = some (.lst xs)) : SqL K H a xs:=.inl (.inl h)
theorem SqT.of {K : PySem.W.Frag} (h : H a = some (.tup xs)) : SqT K H a xs:=.inl (.inl h)
theorem Inv.list (I : Inv X pins σ H s) (h : SqL X.K H a xs) : ∃ its : List Value,Vals xs its ∧ PlainL s.heap a its.toArray ∧ xs.length ≤ sizeLine:=by
 rcases h with h | ⟨o,its,n,hk,hc,hd,hs,hz,r⟩
 · obtain ⟨z,its,n,r,e⟩:=h.ok I.hok
   exact ⟨its,r,⟨_,n,e,rfl,rfl,rfl⟩,z⟩
 · refine ⟨its.toList,r,⟨o,n,I.kIn a o hk,hc,hd,by simpa using hs⟩,?_⟩
   have e:=r.length
   simp only [Array.length_toList] at e
   omega
theorem Inv.tuple (I : Inv X pins σ H s) (h : SqT X.K H a xs) : ∃ its : List Value,Vals xs its ∧ IsTup s.heap a its.toArray ∧ xs.length ≤ sizeLine:=by
 rcases h with h | ⟨o,its,n,hk,hc,hs,hz,r⟩
 · obtain ⟨z,its,r,p⟩:=h.ok I.hok
   exact ⟨its,r,p,z⟩
 · refine ⟨its.toList,r,⟨o,I.kIn a o hk,hc,n,by simpa using hs⟩,?_⟩
   have e:=r.length
   simp only [Array.length_toList] at e
   omega
theorem Inv.list_inj (I : Inv X pins σ H s) (h : SqL X.K H a xs) (h' : SqL X.K H a ys) : xs = ys:=by
 obtain ⟨its,r,⟨o,n,e,_,_,d⟩,_⟩:=I.list h
 obtain ⟨its',r',⟨o',n',e',_,_,d'⟩,_⟩:=I.list h'
 rw [e] at e'; cases e'
 rw [d] at d'
 injection d' with d1 _
 have : its = its':=by simpa using congrArg Array.toList d1
 subst this
 exact r.inj r'
theorem Inv.tuple_inj (I : Inv X pins σ H s) (h : SqT X.K H a xs) (h' : SqT X.K H a ys) : xs = ys:=by
 obtain ⟨its,r,⟨o,e,_,n,d⟩,_⟩:=I.tuple h
 obtain ⟨its',r',⟨o',e',_,n',d'⟩,_⟩:=I.tuple h'
 rw [e] at e'; cases e'
 rw [d] at d'
 injection d' with d1 _
 have : its = its':=by simpa using congrArg Array.toList d1
 subst this
 exact r.inj r'
end
noncomputable abbrev Cx.wish (X : Cx) (E : Value → Shared → Prop) : Cx:={ X with xe:=E }
noncomputable abbrev Cx.nox (X : Cx) : Cx:=X.wish fun _ _=>False
theorem Cx.Ok.wish {X : Cx} (ok : X.Ok) (E : Value → Shared → Prop) : (X.wish E).Ok :=
 ⟨ok.mod,ok.kind,ok.glob,ok.blt,ok.above,ok.inj,ok.has,ok.cab,ok.hd,ok.frames,ok.stk,ok.exf,ok.bs,ok.bsz,ok.noex,ok.exfs,ok.funs,ok.frf⟩
theorem Cx.Ok.unwish {X : Cx} {E : Value → Shared → Prop} (ok : (X.wish E).Ok) : X.Ok :=
 ⟨ok.mod,ok.kind,ok.glob,ok.blt,ok.above,ok.inj,ok.has,ok.cab,ok.hd,ok.frames,ok.stk,ok.exf,ok.bs,ok.bsz,ok.noex,ok.exfs,ok.funs,ok.frf⟩
section
variable {X : Cx} {pins : List (Addr × Obj)} {σ : St} {H : Hp} {s : Shared} {E : Value → Shared → Prop}
theorem Inv.wish (I : Inv X pins σ H s) (E : Value → Shared → Prop) : Inv (X.wish E) pins σ H s:=⟨I.ok.wish E,I.os,I.bare,I.base,I.loc,I.cell,I.free,I.freeC,I.pin,I.hok,I.len⟩
theorem Inv.unwish (I : Inv (X.wish E) pins σ H s) : Inv X pins σ H s:=⟨I.ok.unwish,I.os,I.bare,I.base,I.loc,I.cell,I.free,I.freeC,I.pin,I.hok,I.len⟩
theorem SP.unwish {D : Ends} {f : Flow} {s' : Shared} (h : SP (X.wish E) pins D f s') : SP X pins D f s':=by
 cases f with
 | next=>obtain ⟨σ',H',I,q⟩:=h; exact ⟨σ',H',I.unwish,q⟩
 | brk=>obtain ⟨σ',H',I,q⟩:=h; exact ⟨σ',H',I.unwish,q⟩
 | cont=>obtain ⟨σ',H',I,q⟩:=h; exact ⟨σ',H',I.unwish,q⟩
 | ret u=>obtain ⟨v,σ',H',I,r,q⟩:=h; exact ⟨v,σ',H',I.unwish,r,q⟩
theorem PE.nox {e : Expr} {t : TE} (h : PE X.nox e t) : PE X e t:=fun pins s σ H Q I hw =>
 wpAny_mono (h pins s σ H Q (I.wish _) hw) (fun _ _ ⟨v,H',I',r,q⟩=>⟨v,H',I'.unwish,r,q⟩) fun _ _ z=>False.elim z
theorem PT.nox {e : Expr} {t : TT} (h : PT X.nox e t) : PT X e t:=fun pins s σ H Q I hw =>
 wpAny_mono (h pins s σ H Q (I.wish _) hw) (fun _ _ ⟨H',I',q⟩=>⟨H',I'.unwish,q⟩) fun _ _ z=>False.elim z
theorem PSs.nox {st : List Stmt} {t : TS} (h : PSs X.nox st t) : PSs X st t:=fun pins s σ H D I hw =>
 wpAny_mono (h pins s σ H D (I.wish _) hw) (fun _ _ q=>q.unwish) fun _ _ z=>False.elim z
end
section
variable {X : Cx} {st : Stmt} {rest : List Stmt} {t u : TS} {e : Expr} {te : TE} {pos : Pos}
noncomputable def tNext : TS:=fun D σ H=>D.nx σ H
noncomputable def tSeq (t u : TS) : TS:=fun D σ H=>t { D with nx:=u D } σ H
theorem pss_nil : PSs X [] tNext:=fun _ _ σ H _ I h=>wpAny_execs_nil ⟨σ,H,I,h⟩
theorem pss_cons (h1 : PS X st t) (h2 : PSs X rest u) : PSs X (st :: rest) (tSeq t u):=by
 intro pins s σ H D I h
 refine wpAny_execs_cons (thn (h1 pins s σ H { D with nx:=u D } I h) fun f s1 q=>?_)
 cases f with
 | next =>
  obtain ⟨σ',H',I',q⟩:=q
  exact h2 pins s1 σ' H' D I' q
 | ret v=>exact q
 | brk=>exact q
 | cont=>exact q
theorem pss_one (h1 : PS X st t) : PSs X [st] t:=by
 intro pins s σ H D I h
 refine wpAny_execs_cons (thn (h1 pins s σ H D I h) fun f s1 q=>?_)
 cases f with
 | next=>exact wpAny_execs_nil q
 | ret v=>exact q
 | brk=>exact q
 | cont=>exact q
theorem Inv.quiet {pins : List (Addr × Obj)} {σ : St} {H : Hp} {s : Shared} (I : Inv X pins σ H s) : interactive X.env = false:=by simp [interactive,I.ok.kind]
noncomputable def tDrop (te : TE) : TS:=fun D σ H=>te σ H fun _ H1=>D.nx σ H1
theorem ps_expr (he : PE X e te) (hs : swapsWith e none pos.line X.env = pure false:=by rfl) : PS X (.Expr e pos) (tDrop te):=by
 intro pins s σ H D I h
 exact wpAny_Expr_any (thn (he pins s σ H _ I h) fun v s1 ⟨x,H1,I1,r1,q1⟩=>⟨σ,H1,I1,q1⟩) I.quiet hs
noncomputable def tRet (te : TE) : TS:=fun D σ H=>te σ H D.rt
theorem ps_ret (he : PE X e te) : PS X (.Return (some e) pos) (tRet te):=by
 intro pins s σ H D I h
 exact wpAny_Return_some (thn (he pins s σ H _ I h) fun v s1 ⟨x,H1,I1,r1,q1⟩=>⟨x,σ,H1,I1,r1,q1⟩)
noncomputable def tIfS (c : TT) (t u : TS) : TS:=fun D σ H=>c σ H fun b H1=>if b = true then t D σ H1 else u D σ H1
theorem ps_if {c : Expr} {a b : List Stmt} {tc : TT} (hc : PT X c tc) (ha : PSs X a t) (hb : PSs X b u) : PS X (.If c a b pos) (tIfS tc t u):=by
 intro pins s σ H D I h
 refine wpAny_If (thn (hc pins s σ H _ I h) fun d s1 ⟨H1,I1,q1⟩=>?_)
 cases d with
 | true=>exact ha pins s1 σ H1 D I1 q1
 | false=>exact hb pins s1 σ H1 D I1 q1
noncomputable def tNever : TS:=fun _ _ _=>False
theorem ps_never : PS X st tNever:=fun _ _ _ _ _ _ h=>h.elim
end
noncomputable abbrev TG:=V → St → Hp → (St → Hp → Prop) → Prop
noncomputable abbrev TGs:=List V → St → Hp → (St → Hp → Prop) → Prop
noncomputable def PG (X : Cx) (target : Expr) (t : TG) : Prop :=
 ∀ (pins : List (Addr × Obj)) (s : Shared) (σ : St) (H : Hp) (v : V) (u : Value) (Q : St → Hp → Prop),Inv X pins σ H s → RelV v u → t v σ H Q →
  wpAny (model X.prog X.w) X.A (assign target X.env u) (fun _ s'=>∃ σ' H',Inv X pins σ' H' s' ∧ Q σ' H') X.xe s
noncomputable def PGs (X : Cx) (ts : List Expr) (t : TGs) : Prop :=
 ∀ (pins : List (Addr × Obj)) (s : Shared) (σ : St) (H : Hp) (vs : List V) (us : List Value) (Q : St → Hp → Prop),Inv X pins σ H s → Vals vs us → t vs σ H Q →
  wpAny (model X.prog X.w) X.A (assignInOrder ((assignEach ts X.env).map (·.2)) us) (fun _ s'=>∃ σ' H',Inv X pins σ' H' s' ∧ Q σ' H') X.xe s
noncomputable abbrev TSet:=V → V → V → Hp → (Hp → Prop) → Prop
noncomputable def PSet (X : Cx) (t : TSet) : Prop :=
 ∀ (pins : List (Addr × Obj)) (s : Shared) (σ : St) (H : Hp) (o i v : V) (ov iv u : Value) (Q : Hp → Prop),Inv X pins σ H s → RelV o ov → RelV i iv → RelV v u → t o i v H Q →
  wpAny (model X.prog X.w) X.A (setItem ov iv u) (fun _ s'=>∃ H',Inv X pins σ H' s' ∧ Q H') X.xe s
section
variable {X : Cx} {pos : Pos}
noncomputable def gName (i : Nat) : TG:=fun v σ H Q=>Q (σ.set i (some v)) H
theorem pg_name {i : Nat} {x : Str} (hN : X.N.Nodup) (hi : X.N[i]? = some x) (hx : Loc X.env.scope x) (hf : X.fn x = true ∨ X.env.scope.names.lookup x = some .local:=by first | exact .inl rfl | exact .inr rfl | assumption) : PG X (.Name x pos) (gName i):=by
 intro pins s σ H v u Q I r h
 exact wpAny_assign_Name (store_ok I hN hi hx r (fun s' I'=>⟨_,H,I',h⟩) hf)
noncomputable def gNil : TGs:=fun vs σ H Q=>vs = [] ∧ Q σ H
noncomputable def gCons (t : TG) (u : TGs) : TGs:=fun vs σ H Q=>∃ v r,vs = v :: r ∧ t v σ H fun σ' H'=>u r σ' H' Q
theorem pgs_nil : PGs X [] gNil:=by
 intro pins s σ H vs us Q I r h
 obtain ⟨e,h⟩:=h
 subst e
 cases r
 exact assignInOrder_nil ⟨σ,H,I,h⟩
theorem pgs_cons {e : Expr} {es : List Expr} {t : TG} {u : TGs} (h1 : PG X e t) (h2 : PGs X es u)
 (hs : (assignEach (e :: es) X.env).map (·.2) = assign e X.env :: (assignEach es X.env).map (·.2):=by rfl) : PGs X (e :: es) (gCons t u):=by
 intro pins s σ H vs us Q I r h
 obtain ⟨v,vr,e1,h⟩:=h
 subst e1
 cases r with
 | cons r rr =>
  rw [hs]
  refine assignInOrder_cons (thn (h1 pins s σ H _ _ _ I r h) fun _ s1 ⟨σ1,H1,I1,q1⟩=>?_)
  exact h2 pins s1 σ1 H1 _ _ Q I1 rr q1
noncomputable def gTup (K : PySem.W.Frag) (n : Nat) (t : TGs) : TG:=fun v σ H Q=>∃ a xs,v = .ref a ∧ SqT K H a xs ∧ xs.length = n ∧ t xs σ H Q
theorem pg_tup {es : List Expr} {k : Nat} {t : TGs} {n : Nat} (hc : X.calm = true) (h : PGs X es t)
 (hn : (assignEach es X.env).length = n:=by rfl) (hst : (assignEach es X.env).findIdx? (·.1) = none:=by rfl) : PG X (.Tuple es k pos) (gTup X.K n t):=by
 intro pins s σ H v u Q I r hw
 obtain ⟨a,xs,e1,hq,hl,hw⟩:=hw
 subst e1
 cases r
 obtain ⟨its,rv,ht,hz⟩:=I.tuple hq
 refine assign_Tuple_tuple (I.ok.hd hc) ht (by simp [hn,← hl,rv.length]) hst fun h' hx=>?_
 have I1 : Inv X pins σ H { s with heap:=h' }:=I.kept (t':=s.toks) fun b o e=>hx b o (Nat.ne_of_lt (Heap.lt_size e)) e
 exact h pins _ σ H xs _ Q I1 (by simpa using rv) hw
noncomputable def gSub (to ti : TE) (t : TSet) : TG:=fun v σ H Q=>to σ H fun o H1=>ti σ H1 fun i H2=>t o i v H2 fun H3=>Q σ H3
theorem pg_sub {o i : Expr} {to ti : TE} {t : TSet} (ho : PE X o to) (hi : PE X i ti) (hs : PSet X t)
 (ha : ∀ v,assign (.Subscript o i pos) X.env v = (do
   let ov ← holding [v] (eval o X.env)
   let iv ← holding [v,ov] (eval i X.env)
   standAt pos
   holding [v,ov,iv] (setItem ov iv v)
   release [v,ov,iv] []):=by intro _; rfl) : PG X (.Subscript o i pos) (gSub to ti t):=by
 intro pins s σ H v u Q I r h
 rw [ha]
 refine wpAny_bind (wpAny_holding (thn (ho pins s σ H _ I h) fun ov s1 ⟨x,H1,I1,r1,q1⟩=>?_))
 refine wpAny_bind (wpAny_holding (thn (hi pins s1 σ H1 _ I1 q1) fun iv s2 ⟨y,H2,I2,r2,q2⟩=>?_))
 refine wpAny_bind (wpAny_standAt (wpAny_bind (wpAny_holding (thn (hs pins s2 σ H2 x y v ov iv u _ I2 r1 r2 r q2) fun _ s3 ⟨H3,I3,q3⟩=>?_))))
 exact wpAny_release ⟨σ,H3,I3,q3⟩
noncomputable def tAsg (te : TE) (g : TG) : TS:=fun D σ H=>te σ H fun x H1=>g x σ H1 D.nx
theorem ps_asg {tg e : Expr} {te : TE} {g : TG} (he : PE X e te) (hg : PG X tg g) (hs : swapsWithSole [tg] e pos.line X.env = pure false:=by rfl) (hw : swappedStores [tg] e X.env = pure none:=by rfl)
 (h1 : (assignEach [tg] X.env).map (·.2) = [assign tg X.env]:=by rfl) : PS X (.Assign [tg] e pos) (tAsg te g):=by
 intro pins s σ H D I h
 refine wpAny_Assign_stores (thn (he pins s σ H _ I h) fun v s1 ⟨x,H1,I1,r1,q1⟩=>?_) hs hw
 rw [h1]
 exact thn (hg pins s1 σ H1 x v _ I1 r1 q1) fun _ s2 q=>q
theorem ps_set {i : Nat} {x : Str} {e : Expr} {te : TE} {pos' : Pos} (hN : X.N.Nodup) (hi : X.N[i]? = some x) (hx : Loc X.env.scope x) (he : PE X e te) (hs : swapsWith e (some (.Name x pos')) pos.line X.env = pure false:=by rfl) (hf : X.fn x = true ∨ X.env.scope.names.lookup x = some .local:=by first | exact .inl rfl | exact .inr rfl | assumption) :
 PS X (.Assign [.Name x pos'] e pos) (tAsg te (gName i)):=by
 intro pins s σ H D I h
 refine wpAny_Assign_Name (thn (he pins s σ H _ I h) fun v s1 ⟨y,H1,I1,r1,q1⟩=>?_) hs
 exact store_ok I1 hN hi hx r1 (fun s2 I2=>⟨_,H1,I2,q1⟩) hf
noncomputable def tPar (i j : Nat) (ta : TA) : TS:=fun D σ H=>ta σ H fun vs H1=>∃ v w,vs = [v,w] ∧ D.nx ((σ.set i (some v)).set j (some w)) H1
theorem ps_par {i j : Nat} {x y : Str} {a b : Expr} {ta : TA} {px py pt : Pos} {kt k2 pt2} (hc : X.calm = true) (hN : X.N.Nodup) (hi : X.N[i]? = some x) (hj : X.N[j]? = some y) (hij : i ≠ j)
 (hx : X.env.scope.names.lookup x = some .local) (hy : X.env.scope.names.lookup y = some .local) (ha : PA X [a,b] ta)
 (hw : swappedStores [.Tuple [.Name x px,.Name y py] kt pt] (.Tuple [a,b] k2 pt2) X.env = pure (some [x,y]))
 (hs : swapsWithSole [.Tuple [.Name x px,.Name y py] kt pt] (.Tuple [a,b] k2 pt2) pos.line X.env = pure false:=by rfl) :
 PS X (.Assign [.Tuple [.Name x px,.Name y py] kt pt] (.Tuple [a,b] k2 pt2) pos) (tPar i j ta):=by
 intro pins s σ H D I h
 rw [exec_Assign_arm]
 refine wpAny_bind (wpAny_standAt ?_)
 rw [hs]
 refine wpAny_bind (wpAny_pure ?_)
 rw [if_neg (by decide)]
 refine wpAny_bind (Tuple_ (thn (ha _ pins s σ H _ I h) fun us s1 ⟨vs,H1,I1,r1,q1⟩=>?_))
 obtain ⟨v,w,e1,q1⟩:=q1
 subst e1
 obtain ⟨u1,u2,rfl,rv,rw'⟩ : ∃ u1 u2,us = [u1,u2] ∧ RelV v u1 ∧ RelV w u2:=by
  cases r1 with
  | cons p q =>
   cases q with
   | cons p' q' =>
    cases q'
    exact ⟨_,_,rfl,p,p'⟩
 refine wpAny_newObj_type ?_ (by show 2 ≤ sizeLine; decide)
 have I2 : Inv X pins σ H1 { s1 with heap:=s1.heap.push { cls:=.type "tuple",data:=.seq [u1,u2].toArray } }:=I1.kept (t':=s1.toks) fun b o e=>Heap.get?_push_of_some _ e
 rw [hw]
 refine wpAny_bind (wpAny_pure ?_)
 show wpAny (model X.prog X.w) X.A (do rule "assign.swapped-stores"; let items ← unpackItems (.ref s1.heap.objs.size) 2 none; assignInOrder [fun v=>bindName X.env y v,fun v=>bindName X.env x v] items.reverse; pure Flow.next) _ _ _
 refine wpAny_bind (wpAny_rule (wpAny_bind (unpackItems_tuple (items:=#[u1,u2]) (I.ok.hd hc) (IsTup.new s1.heap _) fun h' hx'=>?_)))
 have I3:=I2.kept (h':=h') (t':=s1.toks) fun b o e=>hx' b o (Nat.ne_of_lt (Heap.lt_size e)) e
 show wpAny _ _ (assignInOrder [fun v=>bindName X.env y v,fun v=>bindName X.env x v] [u2,u1] >>= fun _=>pure Flow.next) _ _ _
 refine wpAny_bind (assignInOrder_cons (wpAny_bindName (store_ok I3 hN hj (.inl hy) rw' (fun s2 I4=>?_) (.inr hy))))
 refine assignInOrder_cons (wpAny_bindName (store_ok I4 hN hi (.inl hx) rv (fun s3 I5=>assignInOrder_nil (wpAny_pure ?_)) (.inr hx)))
 rw [List.set_comm _ _ (Ne.symm hij)] at I5
 exact ⟨_,H1,I5,q1⟩
end
section
variable {X : Cx} {pos : Pos}
noncomputable def tWhile (c : TT) (tb : TS) : TS:=fun D σ H=>∃ W : Nat → St → Hp → Prop,(∃ m,W m σ H) ∧ ∀ m σ H,W m σ H →
 c σ H fun b H1=>if b = true then ∃ N : St → Hp → Prop,(∀ σ' H',N σ' H' → ∃ m',m' < m ∧ W m' σ' H') ∧ tb { D with nx:=N,ct:=N,bk:=D.nx } σ H1 else D.nx σ H1
theorem ps_while {c : Expr} {body : List Stmt} {tc : TT} {tb : TS} (hp : PassesOwn (model X.prog X.w) X.A X.env X.xe) (hc : PT X c tc) (hb : PSs X body tb) : PS X (.While c body [] pos) (tWhile tc tb):=by
 intro pins s σ H D I h
 obtain ⟨W,⟨m0,w0⟩,turn⟩:=h
 refine wpAny_While (codeAny_whileLoop (fun n s'=>∃ σ' H',Inv X pins σ' H' s' ∧ W n σ' H') ?_ m0 ⟨σ,H,I,w0⟩)
 rintro n s1 ⟨σ1,H1,I1,w1⟩
 refine wpAny_passesOwn hp (thn (hc pins s1 σ1 H1 _ I1 (turn n σ1 H1 w1)) fun b s2 ⟨H2,I2,q2⟩=>?_)
 cases b with
 | true =>
  obtain ⟨N,hN,q2⟩:=q2
  rw [if_pos rfl]
  refine wpAny_passesOwn hp (thn (hb pins s2 σ1 H2 _ I2 q2) fun f s3 q3=>?_)
  cases f with
  | next =>
   obtain ⟨σ3,H3,I3,n3⟩:=q3
   obtain ⟨m',hm,w3⟩:=hN σ3 H3 n3
   exact ⟨m',hm,σ3,H3,I3,w3⟩
  | cont =>
   obtain ⟨σ3,H3,I3,n3⟩:=q3
   obtain ⟨m',hm,w3⟩:=hN σ3 H3 n3
   exact ⟨m',hm,σ3,H3,I3,w3⟩
  | brk=>exact q3
  | ret v=>exact q3
 | false =>
  rw [if_neg Bool.false_ne_true]
  exact wpAny_execs_nil ⟨σ1,H2,I2,q2⟩
end
structure It where
 go : Nat → Hp → Prop
 yld : Nat → Hp → V → Hp → Prop
 stop : Nat → Hp → Prop
noncomputable def FpOk (X : Cx) (pins : List (Addr × Obj)) (H : Hp) (b : Addr) : Prop :=
 H b = none ∧ b ≠ X.env.locals ∧ b ∉ X.fs ∧ (b ∈ X.ex ∨ X.s₀.heap.objs.size ≤ b) ∧ (∀ x c,X.env.cells.lookup x = some c → c ≠ b) ∧ ∀ p ∈ X.pn ++ pins,p.1 ≠ b
theorem Inv.fpOk {X : Cx} {pins : List (Addr × Obj)} {σ : St} {H H' : Hp} {s : Shared} {b : Addr} (I : Inv X pins σ H s) (hb : s.heap.objs.size ≤ b) (hn : H' b = none) : FpOk X pins H' b:=by
 refine ⟨hn,Nat.ne_of_gt (Nat.lt_of_lt_of_le I.lt hb),I.nofs hb,.inr (Nat.le_trans I.sz hb),fun x c e z=>?_,fun p hp z=>?_⟩
 · obtain ⟨v,q⟩:=I.cell x c e
   exact absurd (Nat.lt_of_lt_of_le q.lt (by rw [z]; exact hb)) (Nat.lt_irrefl _)
 · exact absurd (Nat.lt_of_lt_of_le (Heap.lt_size (I.pin p hp).1) (by rw [z]; exact hb)) (Nat.lt_irrefl _)
structure Turn (P : Program) (w : World) (K : PySem.W.Frag) (tg : Expr) (J : It) (fp : List Addr) (it : Addr) (tn : Nat → Heap → Prop) : Prop where
 mem : it ∈ fp
 obj : ∀ i h,tn i h → ∀ b ∈ fp,∃ o,h.get? b = some o ∧ ∀ v,o.data ≠ .cell v
 keep : ∀ i h h',tn i h → (∀ b ∈ fp,∀ o,h.get? b = some o → h'.get? b = some o) → tn i h'
 item : ∀ (X : Cx),X.prog = P → X.w = w → X.K = K → X.calm = true → ∀ (i : Nat) (pins : List (Addr × Obj)) (s : Shared) (σ : St) (H : Hp) (E : Value → Shared → Prop),Inv X pins σ H s → (∀ b ∈ fp,FpOk X pins H b) → tn i s.heap → J.go i H →
  wpAny (model P w) X.A (pyNext (.ref it)) (fun r s1=>∃ u,r = some u ∧
   wpAny (model P w) X.A (letOwnedTupleGo tg (.ref it) u) (fun _ s2=>∃ x H',Inv X pins σ H' s2 ∧ RelV x u ∧ J.yld i H x H' ∧ tn (i + 1) s2.heap ∧ ∀ b ∈ fp,H' b = none) E s1) E s
 done : ∀ (X : Cx),X.prog = P → X.w = w → X.K = K → X.calm = true → ∀ (i : Nat) (pins : List (Addr × Obj)) (s : Shared) (σ : St) (H : Hp) (E : Value → Shared → Prop),Inv X pins σ H s → (∀ b ∈ fp,FpOk X pins H b) → tn i s.heap → J.stop i H →
  wpAny (model P w) X.A (pyNext (.ref it)) (fun r s1=>r = none ∧ Inv X pins σ H s1) E s
 self : ∀ (A : Around) (i : Nat) (s : Shared) (Q : Value → Shared → Prop) (E : Value → Shared → Prop),tn i s.heap → Q (.ref it) s → wpAny (model P w) A (pyIter (.ref it)) Q E s
noncomputable abbrev TI:=St → Hp → (It → Hp → Prop) → Prop
noncomputable def PIE (X : Cx) (pins : List (Addr × Obj)) (σ : St) (tg : Expr) (R : It → Hp → Prop) (itv : Value) (s2 : Shared) : Prop :=
 ∃ (it : Addr) (fp : List Addr) (tn : Nat → Heap → Prop) (J : It) (H' : Hp),itv = .ref it ∧ Inv X pins σ H' s2 ∧ Turn X.prog X.w X.K tg J fp it tn ∧ tn 0 s2.heap ∧ (∀ b ∈ fp,FpOk X pins H' b) ∧ R J H'
noncomputable def PI (X : Cx) (tg iter : Expr) (wi : TI) : Prop :=
 ∀ (pins : List (Addr × Obj)) (s : Shared) (σ : St) (H : Hp) (R : It → Hp → Prop),Inv X pins σ H s → wi σ H R →
  wpAny (model X.prog X.w) X.A (eval iter X.env) (fun v s1=>wpAny (model X.prog X.w) X.A (pyIter v) (PIE X pins σ tg R) X.xe s1) X.xe s
theorem go_of {M : Model} {A : Around} {E : Value → Shared → Prop} {s : Shared} {tg : Expr} {it : Addr} {u : Value} {o : Obj} {n : String} {vs : Array Value} {Q : Unit → Shared → Prop} (ho : s.heap.get? it = some o) (hc : o.cls = .type n) (hd : o.data = .fields vs)
 (hn : ["enumerate","zip","dict_itemiterator","dict_reverseitemiterator","odict_iterator","itertools.zip_longest","itertools.pairwise"].contains n = false) (hQ : Q () s) : wpAny M A (letOwnedTupleGo tg (.ref it) u) Q E s:=by
 unfold letOwnedTupleGo
 cases tg <;> first
  | exact wpAny_pure hQ
  | (cases u <;> first
      | exact wpAny_pure hQ
      | (refine wpAny_bind (wpAny_load ho ?_)
         rw [hc,hd]
         show wpAny M A (if (["enumerate","zip","dict_itemiterator","dict_reverseitemiterator","odict_iterator","itertools.zip_longest","itertools.pairwise"].contains n && vs[0]? == some (rawInt _)) = true then _ else _) Q E s
         rw [if_neg (by intro h; rw [hn,Bool.false_and] at h; cases h)]
         exact wpAny_pure hQ))
noncomputable def Itl (K : PySem.W.Frag) (a : Addr) : It :=
 ⟨fun i H=>∃ xs x,SqL K H a xs ∧ xs[i]? = some x,fun i H x H'=>H' = H ∧ ∀ xs,SqL K H a xs → xs[i]? = some x,fun i H=>∃ xs,SqL K H a xs ∧ xs.length ≤ i⟩
noncomputable def Itt (K : PySem.W.Frag) (a : Addr) : It :=
 ⟨fun i H=>∃ xs x,SqT K H a xs ∧ xs[i]? = some x,fun i H x H'=>H' = H ∧ ∀ xs,SqT K H a xs → xs[i]? = some x,fun i H=>∃ xs,SqT K H a xs ∧ xs.length ≤ i⟩
noncomputable def Itr (lo : Int) (n : Nat) : It:=⟨fun i _=>i < n,fun i H x H'=>H' = H ∧ x = .int (lo + i),fun i _=>n ≤ i⟩
theorem turn_list {P : Program} {w : World} {K : PySem.W.Frag} {tg : Expr} (a it : Addr) : Turn P w K tg (Itl K a) [it] it (fun i h=>h.IsListIter it a i) where
 mem:=by simp
 obj:=fun i h st b hb=>by
  have e : b = it:=by simpa using hb
  subst e
  obtain ⟨o,e,c,d⟩:=st
  exact ⟨o,e,fun v z=>by rw [d] at z; cases z⟩
 keep:=fun i h h' st k=>st.at fun o e=>k it (by simp) o e
 item:=by
  intro X hP hw hK hc i pins s σ H E I hf st hg
  subst hP hw hK
  obtain ⟨xs,x,hq,hx⟩:=hg
  obtain ⟨its,rv,p,hz⟩:=I.list hq
  obtain ⟨u,hu,ru⟩:=rv.get hx
  obtain ⟨f0,f1,f2,f3,f4,f5⟩:=hf it (by simp)
  refine wpAny_pyNext_list_item st p.isList (x:=u) (by simpa using hu) fun h' st' sb=>?_
  have I1 : Inv X pins σ H { s with heap:=h' }:=I.turned (t':=s.toks) (fun b o hb e=>(sb.2 b hb).trans e) f0 f1 f3 f4 f5
  obtain ⟨o,e,c,d⟩:=id st'
  exact ⟨u,rfl,go_of (s:={ s with heap:=h' }) e c d (by decide) ⟨x,H,I1,ru,⟨rfl,fun ys hy=>by rw [I.list_inj hy hq]; exact hx⟩,st',fun b hb=>(hf b hb).1⟩⟩
 done:=by
  intro X hP hw hK hc i pins s σ H E I hf st hg
  subst hP hw hK
  obtain ⟨xs,hq,hx⟩:=hg
  obtain ⟨its,rv,p,hz⟩:=I.list hq
  obtain ⟨f0,f1,f2,f3,f4,f5⟩:=hf it (by simp)
  have hl:=rv.length
  exact wpAny_pyNext_list_end (I.ok.hd hc) st p.isList (by simp; omega) fun h' eb=>⟨rfl,I.turned (t':=s.toks) (fun b o hb e=>eb b o hb e) f0 f1 f3 f4 f5⟩
 self:=fun _ _ _ _ _ st h=>wpAny_pyIter_listiter st h
theorem turn_tuple {P : Program} {w : World} {K : PySem.W.Frag} {tg : Expr} (a it : Addr) : Turn P w K tg (Itt K a) [it] it (fun i h=>h.IsTupleIter it a i) where
 mem:=by simp
 obj:=fun i h st b hb=>by
  have e : b = it:=by simpa using hb
  subst e
  obtain ⟨o,e,c,d⟩:=st
  exact ⟨o,e,fun v z=>by rw [d] at z; cases z⟩
 keep:=fun i h h' st k=>st.at fun o e=>k it (by simp) o e
 item:=by
  intro X hP hw hK hc i pins s σ H E I hf st hg
  subst hP hw hK
  obtain ⟨xs,x,hq,hx⟩:=hg
  obtain ⟨its,rv,p,hz⟩:=I.tuple hq
  obtain ⟨u,hu,ru⟩:=rv.get hx
  obtain ⟨f0,f1,f2,f3,f4,f5⟩:=hf it (by simp)
  refine wpAny_pyNext_tuple_item st (show s.heap.IsTuple a its.toArray from p) (x:=u) (by simpa using hu) fun h' st' sb=>?_
  have I1 : Inv X pins σ H { s with heap:=h' }:=I.turned (t':=s.toks) (fun b o hb e=>(sb.2 b hb).trans e) f0 f1 f3 f4 f5
  obtain ⟨o,e,c,d⟩:=id st'
  exact ⟨u,rfl,go_of (s:={ s with heap:=h' }) e c d (by decide) ⟨x,H,I1,ru,⟨rfl,fun ys hy=>by rw [I.tuple_inj hy hq]; exact hx⟩,st',fun b hb=>(hf b hb).1⟩⟩
 done:=by
  intro X hP hw hK hc i pins s σ H E I hf st hg
  subst hP hw hK
  obtain ⟨xs,hq,hx⟩:=hg
  obtain ⟨its,rv,p,hz⟩:=I.tuple hq
  obtain ⟨f0,f1,f2,f3,f4,f5⟩:=hf it (by simp)
  have hl:=rv.length
  exact wpAny_pyNext_tuple_end (I.ok.hd hc) st (show s.heap.IsTuple a its.toArray from p) (by simp; omega) fun h' eb=>⟨rfl,I.turned (t':=s.toks) (fun b o hb e=>eb b o hb e) f0 f1 f3 f4 f5⟩
 self:=fun _ _ _ _ _ st h=>wpAny_pyIter_tupleiter st h
theorem turn_range {P : Program} {w : World} {K : PySem.W.Frag} {tg : Expr} (it : Addr) (lo : Int) (n : Nat) : Turn P w K tg (Itr lo n) [it] it (fun i h=>IsRangeIter h it (lo + (i : Nat) * 1) ((n : Int) - (i : Nat)) 1) where
 mem:=by simp
 obj:=fun i h st b hb=>by
  have e : b = it:=by simpa using hb
  subst e
  exact ⟨_,st,fun v z=>by
   have z' : Data.fields _ = Data.cell v:=z
   cases z'⟩
 keep:=fun i h h' st k=>k it (by simp) _ st
 item:=by
  intro X hP hw hK hc i pins s σ H E I hf st hg
  subst hP hw hK
  obtain ⟨f0,f1,f2,f3,f4,f5⟩:=hf it (by simp)
  have W:=Walks.range (prog:=X.prog) (w:=X.w) (I.ok.hd hc) it lo 1 n
  refine W.item i s _ _ hg st fun v h' tk hv st' kk=>?_
  obtain ⟨t,rfl⟩:=hv
  have I1 : Inv X pins σ H { s with heap:=h',toks:=tk }:=I.turned (fun b o hb e=>kk b o (by simpa using hb) e) f0 f1 f3 f4 f5
  refine ⟨_,rfl,go_of (s:={ s with heap:=h',toks:=tk }) (n:="range_iterator") st' rfl rfl (by decide) ⟨.int (lo + i),H,I1,⟨t,?_⟩,⟨rfl,rfl⟩,st',fun b hb=>(hf b hb).1⟩⟩
  rw [Int.mul_one]
 done:=by
  intro X hP hw hK hc i pins s σ H E I hf st hg
  subst hP hw hK
  obtain ⟨f0,f1,f2,f3,f4,f5⟩:=hf it (by simp)
  exact wpAny_pyNext_range_end (I.ok.hd hc) st (by have : n ≤ i:=hg; omega) fun h' eb=>⟨rfl,I.turned (t':=s.toks) (fun b o hb e=>eb b o hb e) f0 f1 f3 f4 f5⟩
 self:=fun _ _ _ _ _ st h=>wpAny_pyIter_rangeiter st h
end L2
namespace L2
open PySem PySem.Spec PyProof.Rows
section
variable {X : Cx} {tg : Expr}
theorem range_it {pins : List (Addr × Obj)} {σ : St} {H : Hp} {s : Shared} {R : It → Hp → Prop} {E : Value → Shared → Prop} {lo hi : Int} {t u v : Tok} {tk : Nat} (I : Inv X pins σ H s) (h1 : -(2 ^ 62) ≤ lo) (h2 : lo < 2 ^ 62) (h3 : -(2 ^ 62) ≤ hi) (h4 : hi < 2 ^ 62)
 (q : R (Itr lo (hi - lo).toNat) H) : wpAny (model X.prog X.w) X.A (pyIter (.ref s.heap.objs.size)) (PIE X pins σ tg R) E { s with heap:=s.heap.push { cls:=.type "range",data:=.fields #[.int lo t,.int hi u,.int 1 v] },toks:=tk }:=by
 refine wpAny_pyIter_range (IsRange.new ..) (small_one h1 h2 h3 h4) ?_
 have I1 : Inv X pins σ H { s with heap:=s.heap.push { cls:=.type "range",data:=.fields #[.int lo t,.int hi u,.int 1 v] },toks:=tk }:=I.kept fun b o e=>Heap.get?_push_of_some _ e
 refine ⟨(s.heap.push { cls:=.type "range",data:=.fields #[.int lo t,.int hi u,.int 1 v] }).objs.size,[(s.heap.push { cls:=.type "range",data:=.fields #[.int lo t,.int hi u,.int 1 v] }).objs.size],_,_,H,rfl,
  I1.kept (t':=tk) fun b o e=>Heap.get?_push_of_some _ e,turn_range _ lo (hi - lo).toNat,?_,fun b hb=>?_,q⟩
 · have e1 : lo + ((0 : Nat) : Int) * 1 = lo:=by simp
   have e2 : (((hi - lo).toNat : Nat) : Int) - ((0 : Nat) : Int) = Builtin.Range.rangeSize lo hi 1:=by rw [rangeSize_one]; split <;> omega
   show IsRangeIter _ _ (lo + ((0 : Nat) : Int) * 1) ((((hi - lo).toNat : Nat) : Int) - ((0 : Nat) : Int)) 1
   rw [e1,e2]
   exact Heap.get?_push_size _ rfl
 · have e : b = (s.heap.push { cls:=.type "range",data:=.fields #[.int lo t,.int hi u,.int 1 v] }).objs.size:=by simpa using hb
   subst e
   exact I1.fpOk (Nat.le_refl _) (I1.hok.fresh (Nat.le_refl _))
noncomputable def iRng1 (ta : TA) : TI:=fun σ H R=>ta σ H fun vs H1=>∃ j : Int,vs = [.int j] ∧ -(2 ^ 62) ≤ j ∧ j < 2 ^ 62 ∧ R (Itr 0 j.toNat) H1
noncomputable def iRng2 (ta : TA) : TI:=fun σ H R=>ta σ H fun vs H1=>∃ i j : Int,vs = [.int i,.int j] ∧ (-(2 ^ 62) ≤ i ∧ i < 2 ^ 62 ∧ -(2 ^ 62) ≤ j ∧ j < 2 ^ 62) ∧ R (Itr i (j - i).toNat) H1
theorem pi_range1 {a : Expr} {ta : TA} {p pos : Pos} (hg : Gl X "range") (hm : X.mg "range" = none) (ha : PA X [a] ta) (hs : starEach [a] X.env = [(false,eval a X.env)]:=by rfl) : PI X tg (.Call (.Name "range" p) [a] [] pos) (iRng1 ta):=by
 intro pins s σ H R I h
 refine Call_ (ld_blt I hg hm boot_range (PyProof.Rows.callWith_type1 (thn (ha pos pins s σ H _ I h) fun us s1 ⟨vs,H1,I1,r1,q1⟩=>?_) hs rfl))
 obtain ⟨j,e,q1,q2,q⟩:=q1
 subst e
 cases r1 with
 | cons r rr =>
  cases rr
  obtain ⟨t,rfl⟩:=r
  exact call_range_1 (range_it I1 (by omega) (by omega) q1 q2 (by simpa using q))
theorem pi_range2 {a b : Expr} {ta : TA} {p pos : Pos} (hg : Gl X "range") (hm : X.mg "range" = none) (ha : PA X [a,b] ta) (hs : starEach [a,b] X.env = [(false,eval a X.env),(false,eval b X.env)]:=by rfl) (hs2 : starEach [b] X.env = [(false,eval b X.env)]:=by rfl) :
 PI X tg (.Call (.Name "range" p) [a,b] [] pos) (iRng2 ta):=by
 intro pins s σ H R I h
 refine Call_ (ld_blt I hg hm boot_range (PyProof.Rows.callWith_type1 (thn (ha pos pins s σ H _ I h) fun us s1 ⟨vs,H1,I1,r1,q1⟩=>?_) (by rw [hs,hs2]) (by rw [hs2]; rfl)))
 obtain ⟨i,j,e,⟨q1,q2,q3,q4⟩,q⟩:=q1
 subst e
 cases r1 with
 | cons r rr =>
  cases rr with
  | cons r' rr =>
   cases rr
   obtain ⟨t,rfl⟩:=r
   obtain ⟨t',rfl⟩:=r'
   exact call_range_2 (range_it I1 q1 q2 q3 q4 q)
noncomputable def tFor (wi : TI) (g : TG) (tb : TS) : TS:=fun D σ H=>wi σ H fun J H1=>∃ W : Nat → Nat → St → Hp → Prop,(∃ m,W 0 m σ H1) ∧ ∀ i m σ H,W i m σ H →
 (J.stop i H ∧ D.nx σ H) ∨ (J.go i H ∧ ∃ N : St → Hp → Prop,(∀ σ' H',N σ' H' → ∃ m',m' < m ∧ W (i + 1) m' σ' H') ∧ ∀ x H',J.yld i H x H' → g x σ H' fun σ2 H2=>tb { D with nx:=N,ct:=N,bk:=D.nx } σ2 H2)
noncomputable def pinsAt (fp : List Addr) (h : Heap) : List (Addr × Obj):=fp.filterMap fun b=>(h.get? b).map fun o=>(b,o)
theorem mem_pinsAt {fp : List Addr} {h : Heap} {b : Addr} {o : Obj} (hb : b ∈ fp) (e : h.get? b = some o) : (b,o) ∈ pinsAt fp h:=List.mem_filterMap.mpr ⟨b,hb,by rw [e]; rfl⟩
theorem of_pinsAt {fp : List Addr} {h : Heap} {p : Addr × Obj} (hp : p ∈ pinsAt fp h) : p.1 ∈ fp ∧ h.get? p.1 = some p.2:=by
 obtain ⟨b,hb,e⟩:=List.mem_filterMap.mp hp
 cases q : h.get? b with
 | none=>rw [q] at e; cases e
 | some o =>
  rw [q] at e
  have e' : (b,o) = p:=Option.some.inj e
  subst e'
  exact ⟨hb,q⟩
theorem Inv.pinned {pins : List (Addr × Obj)} {σ : St} {H : Hp} {s : Shared} {fp : List Addr} (I : Inv X pins σ H s) (hf : ∀ b ∈ fp,FpOk X pins H b) (ho : ∀ b ∈ fp,∃ o,s.heap.get? b = some o ∧ ∀ v,o.data ≠ .cell v) : Inv X (pins ++ pinsAt fp s.heap) σ H s :=
 I.pins_of fun p hp=>(List.mem_append.mp hp).elim (fun z=>I.pin p (List.mem_append_right _ z)) fun z=>by
  obtain ⟨hb,e⟩:=of_pinsAt z
  obtain ⟨f0,f1,f2,_⟩:=hf p.1 hb
  obtain ⟨o,e',d⟩:=ho p.1 hb
  rw [e] at e'; cases e'
  exact ⟨e,f0,f1,f2,d⟩
theorem Inv.unpinned {pins pl : List (Addr × Obj)} {σ : St} {H : Hp} {s : Shared} (I : Inv X (pins ++ pl) σ H s) : Inv X pins σ H s:=I.pins_of fun p hp=>I.pin p (List.mem_append_right _ (List.mem_append_left _ hp))
theorem ps_for {iter : Expr} {body : List Stmt} {wi : TI} {g : TG} {tb : TS} {pos : Pos} (hp : PassesOwn (model X.prog X.w) X.A X.env X.xe) (hc : X.calm = true) (hi : PI X tg iter wi) (hg : PG X tg g) (hb : PSs X body tb)
 (hs : ∀ x,foldedSetIterable iter X.env x = pure x:=by intro _; rfl) : PS X (.For tg iter body [] pos) (tFor wi g tb):=by
 intro pins s σ H D I h
 refine wpAny_For (thn (hi pins s σ H _ I h) fun v s1 h1=>thn h1 fun itv s2 h2=>?_) hs
 obtain ⟨it,fp,tn,J,H2,e,I2,T,st2,f2,W,⟨m0,w0⟩,turn⟩:=h2
 subst e
 have stat : ∀ {H' : Hp},(∀ b ∈ fp,H' b = none) → ∀ b ∈ fp,FpOk X pins H' b:=fun hn b hb=>⟨hn b hb,(f2 b hb).2⟩
 refine codeAny_forLoop_any (fun n s'=>∃ i σ' H',Inv X pins σ' H' s' ∧ tn i s'.heap ∧ (∀ b ∈ fp,H' b = none) ∧ W i n σ' H') ?_ m0 ⟨0,σ,H2,I2,st2,fun b hb=>(f2 b hb).1,w0⟩
 rintro n s3 ⟨i,σ3,H3,I3,st3,fr3,w3⟩
 rcases turn i n σ3 H3 w3 with ⟨stop,qn⟩ | ⟨go,N,hN,step⟩
 · refine wpAny_passesOwn hp (thn (T.done X rfl rfl rfl hc i pins s3 σ3 H3 X.xe I3 (stat fr3) st3 stop) fun r s4 ⟨hr,I4⟩=>?_)
   subst hr
   exact wpAny_execs_nil ⟨σ3,H3,I4,qn⟩
 · refine wpAny_passesOwn hp (thn (T.item X rfl rfl rfl hc i pins s3 σ3 H3 X.xe I3 (stat fr3) st3 go) fun r s4 ⟨u,hr,h4⟩=>?_)
   subst hr
   refine wpAny_passesOwn hp (thn h4 fun _ s5 ⟨x,H5,I5,r5,y5,st5,fr5⟩=>?_)
   have I5':=I5.pinned (stat fr5) (T.obj _ _ st5)
   refine wpAny_passesOwn hp (thn (hg _ s5 σ3 H5 x u _ I5' r5 (step x H5 y5)) fun _ s6 ⟨σ6,H6,I6,q6⟩=>?_)
   refine wpAny_passesOwn hp (thn (hb _ s6 σ6 H6 _ I6 q6) fun f s7 q7=>?_)
   have again : ∀ {σ7 : St} {H7 : Hp},Inv X (pins ++ pinsAt fp s5.heap) σ7 H7 s7 → N σ7 H7 → ∃ m,m < n ∧ ∃ i σ' H',Inv X pins σ' H' s7 ∧ tn i s7.heap ∧ (∀ b ∈ fp,H' b = none) ∧ W i m σ' H':=fun {σ7 H7} I7 n7=>by
    obtain ⟨m',hm,w7⟩:=hN σ7 H7 n7
    refine ⟨m',hm,i + 1,σ7,H7,I7.unpinned,T.keep _ _ _ st5 fun b hb o e=>(I7.pin (b,o) (List.mem_append_right _ (List.mem_append_right _ (mem_pinsAt hb e)))).1,fun b hb=>?_,w7⟩
    obtain ⟨o,e,d⟩:=T.obj _ _ st5 b hb
    exact (I7.pin (b,o) (List.mem_append_right _ (List.mem_append_right _ (mem_pinsAt hb e)))).2.1
   cases f with
   | next=>obtain ⟨σ7,H7,I7,n7⟩:=q7; exact again I7 n7
   | cont=>obtain ⟨σ7,H7,I7,n7⟩:=q7; exact again I7 n7
   | brk=>obtain ⟨σ7,H7,I7,q7⟩:=q7; exact ⟨σ7,H7,I7.unpinned,q7⟩
   | ret v=>obtain ⟨x7,σ7,H7,I7,r7,q7⟩:=q7; exact ⟨x7,σ7,H7,I7.unpinned,r7,q7⟩
end
theorem for_list {K : PySem.W.Frag} {a : Addr} {xs : List V} {g : TG} {tb : TS} {D : Ends} {σ : St} {H : Hp} (Pv : Nat → St → Hp → Prop) (h0 : Pv 0 σ H) (hl : ∀ i σ H,i ≤ xs.length → Pv i σ H → SqL K H a xs)
 (hs : ∀ i x σ H,xs[i]? = some x → Pv i σ H → g x σ H fun σ2 H2=>tb { D with nx:=Pv (i + 1),ct:=Pv (i + 1),bk:=D.nx } σ2 H2) (hd : ∀ σ H,Pv xs.length σ H → D.nx σ H) :
 ∃ W : Nat → Nat → St → Hp → Prop,(∃ m,W 0 m σ H) ∧ ∀ i m σ H,W i m σ H →
  ((Itl K a).stop i H ∧ D.nx σ H) ∨ ((Itl K a).go i H ∧ ∃ N : St → Hp → Prop,(∀ σ' H',N σ' H' → ∃ m',m' < m ∧ W (i + 1) m' σ' H') ∧ ∀ x H',(Itl K a).yld i H x H' → g x σ H' fun σ2 H2=>tb { D with nx:=N,ct:=N,bk:=D.nx } σ2 H2):=by
 refine ⟨fun i m σ H=>m = xs.length - i ∧ i ≤ xs.length ∧ Pv i σ H,⟨xs.length,by simp,Nat.zero_le _,h0⟩,?_⟩
 rintro i m σ H ⟨rfl,hi,p⟩
 have q:=hl i σ H hi p
 by_cases hlt : i < xs.length
 · refine .inr ⟨⟨xs,xs[i],q,by simp [hlt]⟩,Pv (i + 1),fun σ' H' p'=>⟨xs.length - (i + 1),by omega,rfl,hlt,p'⟩,fun x H' y=>?_⟩
   obtain ⟨e,y⟩:=y
   subst e
   exact hs i x σ _ (y xs q) p
 · have e : i = xs.length:=by omega
   subst e
   exact .inl ⟨⟨xs,q,Nat.le_refl _⟩,hd σ H p⟩
theorem for_tup {K : PySem.W.Frag} {a : Addr} {xs : List V} {g : TG} {tb : TS} {D : Ends} {σ : St} {H : Hp} (Pv : Nat → St → Hp → Prop) (h0 : Pv 0 σ H) (hl : ∀ i σ H,i ≤ xs.length → Pv i σ H → SqT K H a xs)
 (hs : ∀ i x σ H,xs[i]? = some x → Pv i σ H → g x σ H fun σ2 H2=>tb { D with nx:=Pv (i + 1),ct:=Pv (i + 1),bk:=D.nx } σ2 H2) (hd : ∀ σ H,Pv xs.length σ H → D.nx σ H) :
 ∃ W : Nat → Nat → St → Hp → Prop,(∃ m,W 0 m σ H) ∧ ∀ i m σ H,W i m σ H →
  ((Itt K a).stop i H ∧ D.nx σ H) ∨ ((Itt K a).go i H ∧ ∃ N : St → Hp → Prop,(∀ σ' H',N σ' H' → ∃ m',m' < m ∧ W (i + 1) m' σ' H') ∧ ∀ x H',(Itt K a).yld i H x H' → g x σ H' fun σ2 H2=>tb { D with nx:=N,ct:=N,bk:=D.nx } σ2 H2):=by
 refine ⟨fun i m σ H=>m = xs.length - i ∧ i ≤ xs.length ∧ Pv i σ H,⟨xs.length,by simp,Nat.zero_le _,h0⟩,?_⟩
 rintro i m σ H ⟨rfl,hi,p⟩
 have q:=hl i σ H hi p
 by_cases hlt : i < xs.length
 · refine .inr ⟨⟨xs,xs[i],q,by simp [hlt]⟩,Pv (i + 1),fun σ' H' p'=>⟨xs.length - (i + 1),by omega,rfl,hlt,p'⟩,fun x H' y=>?_⟩
   obtain ⟨e,y⟩:=y
   subst e
   exact hs i x σ _ (y xs q) p
 · have e : i = xs.length:=by omega
   subst e
   exact .inl ⟨⟨xs,q,Nat.le_refl _⟩,hd σ H p⟩
theorem for_range {lo : Int} {n : Nat} {g : TG} {tb : TS} {D : Ends} {σ : St} {H : Hp} (Pv : Nat → St → Hp → Prop) (h0 : Pv 0 σ H)
 (hs : ∀ i σ H,i < n → Pv i σ H → g (.int (lo + i)) σ H fun σ2 H2=>tb { D with nx:=Pv (i + 1),ct:=Pv (i + 1),bk:=D.nx } σ2 H2) (hd : ∀ σ H,Pv n σ H → D.nx σ H) :
 ∃ W : Nat → Nat → St → Hp → Prop,(∃ m,W 0 m σ H) ∧ ∀ i m σ H,W i m σ H →
  ((Itr lo n).stop i H ∧ D.nx σ H) ∨ ((Itr lo n).go i H ∧ ∃ N : St → Hp → Prop,(∀ σ' H',N σ' H' → ∃ m',m' < m ∧ W (i + 1) m' σ' H') ∧ ∀ x H',(Itr lo n).yld i H x H' → g x σ H' fun σ2 H2=>tb { D with nx:=N,ct:=N,bk:=D.nx } σ2 H2):=by
 refine ⟨fun i m σ H=>m = n - i ∧ i ≤ n ∧ Pv i σ H,⟨n,by simp,Nat.zero_le _,h0⟩,?_⟩
 rintro i m σ H ⟨rfl,hi,p⟩
 by_cases hlt : i < n
 · refine .inr ⟨hlt,Pv (i + 1),fun σ' H' p'=>⟨n - (i + 1),by omega,rfl,hlt,p'⟩,fun x H' y=>?_⟩
   obtain ⟨e,y⟩:=y
   subst e y
   exact hs i σ _ hlt p
 · have e : i = n:=by omega
   subst e
   exact .inl ⟨Nat.le_refl _,hd σ H p⟩
end L2
namespace L2
open PySem PySem.Spec PyProof.Rows
noncomputable abbrev R2:=V → V → Hp → VK → Prop
noncomputable def OpR (X : Cx) (f : Value → Value → Sem Value) (r : R2) : Prop :=
 ∀ (pins : List (Addr × Obj)) (s : Shared) (σ : St) (H : Hp) (x y : V) (v u : Value) (Q : VK),Inv X pins σ H s → RelV x v → RelV y u → r x y H Q →
  wpAny (model X.prog X.w) X.A (f v u) (EP X pins σ Q) X.xe s
noncomputable def UnR (X : Cx) (f : Value → Sem Value) (r : V → Hp → VK → Prop) : Prop :=
 ∀ (pins : List (Addr × Obj)) (s : Shared) (σ : St) (H : Hp) (x : V) (v : Value) (Q : VK),Inv X pins σ H s → RelV x v → r x H Q →
  wpAny (model X.prog X.w) X.A (f v) (EP X pins σ Q) X.xe s
noncomputable def CallR (X : Cx) (f : Value) (r : List V → Hp → VK → Prop) : Prop :=
 ∀ (pins : List (Addr × Obj)) (s : Shared) (σ : St) (H : Hp) (xs : List V) (us : List Value) (Q : VK),Inv X pins σ H s → Vals xs us → r xs H Q →
  wpAny (model X.prog X.w) X.A (call f us) (EP X pins σ Q) X.xe s
noncomputable def tOp (r : R2) (ta tb : TE) : TE:=fun σ H Q=>ta σ H fun x H1=>tb σ H1 fun y H2=>r x y H2 Q
noncomputable def tUn (r : V → Hp → VK → Prop) (ta : TE) : TE:=fun σ H Q=>ta σ H fun x H1=>r x H1 Q
noncomputable def rI (C : Int → Int → Prop) (g : Int → Int → V) : R2:=fun x y H Q=>∃ i j,x = .int i ∧ y = .int j ∧ C i j ∧ Q (g i j) H
noncomputable def rI0 (g : Int → Int → V) : R2:=fun x y H Q=>∃ i j,x = .int i ∧ y = .int j ∧ Q (g i j) H
noncomputable def rU (g : Int → V) : V → Hp → VK → Prop:=fun x H Q=>∃ i,x = .int i ∧ Q (g i) H
section
variable {X : Cx} {a b c : Expr} {ta tb tc : TE} {pos : Pos}
theorem binT (ha : PE X a ta) (hb : PE X b tb) {pins : List (Addr × Obj)} {s : Shared} {σ : St} {H : Hp} {R : V → V → Hp → Prop} (I : Inv X pins σ H s)
 (h : ta σ H fun x H1=>tb σ H1 fun y H2=>R x y H2) {Q : Value → Shared → Prop} {f : Value → Value → Sem Value}
 (hf : ∀ v u s2 x y H2,Inv X pins σ H2 s2 → RelV x v → RelV y u → R x y H2 → wpAny (model X.prog X.w) X.A (f v u) Q X.xe s2) :
 wpAny (model X.prog X.w) X.A (eval a X.env) (fun v s₁=>wpAny (model X.prog X.w) X.A (eval b X.env) (fun u s₂=>wpAny (model X.prog X.w) X.A (f v u) Q X.xe s₂) X.xe s₁) X.xe s:=by
 refine thn (ha pins s σ H _ I h) fun v s1 ⟨x,H1,I1,r1,q1⟩=>?_
 refine thn (hb pins s1 σ H1 _ I1 q1) fun u s2 ⟨y,H2,I2,r2,q2⟩=>?_
 exact hf v u s2 x y H2 I2 r1 r2 q2
theorem pe_op {op : Operator} {r : R2} (ho : OpR X (binaryOp op) r) (ha : PE X a ta) (hb : PE X b tb) : PE X (.BinOp a op b pos) (tOp r ta tb):=by
 intro pins s σ H Q I h
 exact wpAny_BinOp (binT ha hb I h fun v u s2 x y H2 I2 rx ry q=>ho pins s2 σ H2 x y v u Q I2 rx ry q)
theorem pe_un {op : UnaryOp} {r : V → Hp → VK → Prop} (ho : UnR X (unaryOp op) r) (ha : PE X a ta) : PE X (.UnaryOp op a pos) (tUn r ta):=by
 intro pins s σ H Q I h
 exact UnaryOp_ (thn (ha pins s σ H _ I h) fun v s1 ⟨x,H1,I1,r1,q1⟩=>ho pins s1 σ H1 x v Q I1 r1 q1)
theorem opI {f : Value → Value → Sem Value} {C : Int → Int → Prop} {g : Int → Int → Int}
 (rule : ∀ (i j : Int) (t u : Tok) (s : Shared) (Q : Value → Shared → Prop) (E : Value → Shared → Prop),C i j → Q (.int (g i j) s.toks) { s with toks:=s.toks + 1 } → wpAny (model X.prog X.w) X.A (f (.int i t) (.int j u)) Q E s) :
 OpR X f (rI C fun i j=>.int (g i j)):=by
 intro pins s σ H x y v u Q I rx ry h
 obtain ⟨i,j,rfl,rfl,hc,q⟩:=h
 obtain ⟨t,rfl⟩:=rx
 obtain ⟨t',rfl⟩:=ry
 exact rule i j t t' s _ _ hc ⟨.int (g i j),H,I.tok _,⟨_,rfl⟩,q⟩
theorem opI0 {f : Value → Value → Sem Value} {g : Int → Int → Int}
 (rule : ∀ (i j : Int) (t u : Tok) (s : Shared) (Q : Value → Shared → Prop) (E : Value → Shared → Prop),Q (.int (g i j) s.toks) { s with toks:=s.toks + 1 } → wpAny (model X.prog X.w) X.A (f (.int i t) (.int j u)) Q E s) :
 OpR X f (rI0 fun i j=>.int (g i j)):=by
 intro pins s σ H x y v u Q I rx ry h
 obtain ⟨i,j,rfl,rfl,q⟩:=h
 obtain ⟨t,rfl⟩:=rx
 obtain ⟨t',rfl⟩:=ry
 exact rule i j t t' s _ _ ⟨.int (g i j),H,I.tok _,⟨_,rfl⟩,q⟩
theorem opB0 {f : Value → Value → Sem Value} {g : Int → Int → Bool}
 (rule : ∀ (i j : Int) (t u : Tok) (s : Shared) (Q : Value → Shared → Prop) (E : Value → Shared → Prop),Q (.bool (g i j)) s → wpAny (model X.prog X.w) X.A (f (.int i t) (.int j u)) Q E s) :
 OpR X f (rI0 fun i j=>.bl (g i j)):=by
 intro pins s σ H x y v u Q I rx ry h
 obtain ⟨i,j,rfl,rfl,q⟩:=h
 obtain ⟨t,rfl⟩:=rx
 obtain ⟨t',rfl⟩:=ry
 exact rule i j t t' s _ _ ⟨.bl (g i j),H,I,rfl,q⟩
noncomputable def CDiv (i j : Int) : Prop:=0 < j ∧ j < 1073741824
noncomputable def CMul (i j : Int) : Prop:=(-(2 ^ 64) < i ∧ i < 2 ^ 64) ∨ (-(2 ^ 64) < j ∧ j < 2 ^ 64)
theorem CMul.ok {i j : Int} (h : CMul i j) : IntMulOk i j:=by
 rcases h with ⟨h1,h2⟩ | ⟨h1,h2⟩
 · exact .of_left (intBits_le_64 h1 h2)
 · exact .of_right (intBits_le_64 h1 h2)
theorem op_add : OpR X (binaryOp .Add) (rI0 fun i j=>.int (i + j)):=opI0 fun _ _ _ _ _ _ _ q=>add_int q
theorem op_sub : OpR X (binaryOp .Sub) (rI0 fun i j=>.int (i - j)):=opI0 fun _ _ _ _ _ _ _ q=>sub_int q
theorem op_mul : OpR X (binaryOp .Mult) (rI CMul fun i j=>.int (i * j)):=opI fun _ _ _ _ _ _ _ hc q=>mul_int q hc.ok
theorem op_fdiv : OpR X (binaryOp .FloorDiv) (rI CDiv fun i j=>.int (i / j)):=opI fun i j _ _ _ _ _ hc q=>by
 have h1 : (0 : Int) < j:=hc.1
 have h2 : j < 1073741824:=hc.2
 exact floordiv_int (by omega) (by rw [Int.fdiv_eq_ediv_of_nonneg i (by omega)]; exact q) (.inl (PyProof.noPylong_small (by omega)))
theorem op_mod : OpR X (binaryOp .Mod) (rI (fun _ j=>0 < j) fun i j=>.int (i % j)):=opI fun i j _ _ _ _ _ hc q=>by
 have h1 : (0 : Int) < j:=hc
 exact mod_int' (by omega) (by rw [Int.fmod_eq_emod_of_nonneg i (by omega)]; exact q)
theorem unI {f : Value → Sem Value} {g : Int → Int}
 (rule : ∀ (i : Int) (t : Tok) (s : Shared) (Q : Value → Shared → Prop) (E : Value → Shared → Prop),Q (.int (g i) s.toks) { s with toks:=s.toks + 1 } → wpAny (model X.prog X.w) X.A (f (.int i t)) Q E s) :
 UnR X f (rU fun i=>.int (g i)):=by
 intro pins s σ H x v Q I rx h
 obtain ⟨i,rfl,q⟩:=h
 obtain ⟨t,rfl⟩:=rx
 exact rule i t s _ _ ⟨.int (g i),H,I.tok _,⟨_,rfl⟩,q⟩
theorem un_neg : UnR X (unaryOp .USub) (rU fun i=>.int (-i)):=unI fun _ _ _ _ _ q=>neg_int q
end
noncomputable def scal : V → V → Bool
 | .non,.non=>true | .non,.int _=>true | .int _,.non=>true | .non,.bl _=>true | .bl _,.non=>true | .non,.str _=>true | .str _,.non=>true
 | .int _,.int _=>true | .bl _,.bl _=>true | .str _,.str _=>true | .byt _,.byt _=>true
 | .int _,.str _=>true | .str _,.int _=>true | .bl _,.str _=>true | .str _,.bl _=>true
 | _,_=>false
noncomputable def rEq : R2:=fun x y H Q=>scal x y = true ∧ Q (.bl (decide (x = y))) H
noncomputable def rNe : R2:=fun x y H Q=>scal x y = true ∧ Q (.bl (!decide (x = y))) H
theorem dec_int {i j : Int} : decide (V.int i = V.int j) = (i == j):=by
 rw [Bool.eq_iff_iff]
 simp
theorem dec_bl {i j : Bool} : decide (V.bl i = V.bl j) = (i == j):=by
 rw [Bool.eq_iff_iff]
 simp
theorem dec_str {i j : Str} : decide (V.str i = V.str j) = (i == j):=by
 rw [Bool.eq_iff_iff]
 simp
theorem dec_byt {i j : Array UInt8} : decide (V.byt i = V.byt j) = (i.toList == j.toList):=by
 rw [Bool.eq_iff_iff]
 cases i
 cases j
 simp
section
variable {X : Cx} {a b c : Expr} {ta tb tc : TE} {pos : Pos}
theorem fin_bl {pins : List (Addr × Obj)} {σ : St} {H : Hp} {s : Shared} {Q : VK} {k k' : Bool} (I : Inv X pins σ H s) (q : Q (.bl k) H) (e : k = k') : EP X pins σ Q (.bool k') s:=by
 subst e
 exact ⟨.bl k,H,I,rfl,q⟩
theorem op_eq : OpR X (compareOp .Eq) rEq:=by
 intro pins s σ H x y v u Q I rx ry h
 obtain ⟨hs,q⟩:=h
 cases x with
 | non =>
  cases rx
  cases y with
  | non=>cases ry; exact PySem.EqNone.eq_none_none (fin_bl I q (by simp))
  | bl j=>cases ry; exact PySem.EqNone.eq_none_bool (fin_bl I q (by simp))
  | int j=>obtain ⟨t',rfl⟩:=ry; exact PySem.EqNone.eq_none_int (fin_bl I q (by simp))
  | str j=>obtain ⟨t',rfl⟩:=ry; exact PySem.EqNone.eq_none_str (fin_bl I q (by simp))
  | _=>exact absurd (show false = true from hs) Bool.false_ne_true
 | bl i =>
  cases rx
  cases y with
  | non=>cases ry; exact PySem.EqNone.eq_bool_none (fin_bl I q (by simp))
  | bl j=>cases ry; exact eq_bool (fin_bl I q dec_bl)
  | str j=>obtain ⟨t',rfl⟩:=ry; exact PySem.EqMixed.eq_bool_str (fin_bl I q (by simp))
  | _=>exact absurd (show false = true from hs) Bool.false_ne_true
 | int i =>
  obtain ⟨t,rfl⟩:=rx
  cases y with
  | non=>cases ry; exact PySem.EqNone.eq_int_none (fin_bl I q (by simp))
  | int j=>obtain ⟨t',rfl⟩:=ry; exact eq_int (fin_bl I q dec_int)
  | str j=>obtain ⟨t',rfl⟩:=ry; exact PySem.EqMixed.eq_int_str (fin_bl I q (by simp))
  | _=>exact absurd (show false = true from hs) Bool.false_ne_true
 | str i =>
  obtain ⟨t,rfl⟩:=rx
  cases y with
  | non=>cases ry; exact PySem.EqNone.eq_str_none (fin_bl I q (by simp))
  | bl j=>cases ry; exact PySem.EqMixed.eq_str_bool (fin_bl I q (by simp))
  | int j=>obtain ⟨t',rfl⟩:=ry; exact PySem.EqMixed.eq_str_int (fin_bl I q (by simp))
  | str j=>obtain ⟨t',rfl⟩:=ry; exact eq_str (fin_bl I q dec_str)
  | _=>exact absurd (show false = true from hs) Bool.false_ne_true
 | byt i =>
  obtain ⟨t,rfl⟩:=rx
  cases y with
  | byt j=>obtain ⟨t',rfl⟩:=ry; exact PySem.W.eq_bytes (fin_bl I q dec_byt)
  | _=>exact absurd (show false = true from hs) Bool.false_ne_true
 | _=>cases y <;> exact absurd (show false = true from hs) Bool.false_ne_true
theorem op_ne : OpR X (compareOp .NotEq) rNe:=by
 intro pins s σ H x y v u Q I rx ry h
 obtain ⟨hs,q⟩:=h
 cases x with
 | non =>
  cases rx
  cases y with
  | non=>cases ry; exact PySem.EqNone.ne_none_none (fin_bl I q (by simp))
  | bl j=>cases ry; exact PySem.EqNone.ne_none_bool (fin_bl I q (by simp))
  | int j=>obtain ⟨t',rfl⟩:=ry; exact PySem.EqNone.ne_none_int (fin_bl I q (by simp))
  | str j=>obtain ⟨t',rfl⟩:=ry; exact PySem.EqNone.ne_none_str (fin_bl I q (by simp))
  | _=>exact absurd (show false = true from hs) Bool.false_ne_true
 | bl i =>
  cases rx
  cases y with
  | non=>cases ry; exact PySem.EqNone.ne_bool_none (fin_bl I q (by simp))
  | bl j=>cases ry; exact ne_bool (fin_bl I q (congrArg not dec_bl))
  | str j=>obtain ⟨t',rfl⟩:=ry; exact PySem.EqMixed.ne_bool_str (fin_bl I q (by simp))
  | _=>exact absurd (show false = true from hs) Bool.false_ne_true
 | int i =>
  obtain ⟨t,rfl⟩:=rx
  cases y with
  | non=>cases ry; exact PySem.EqNone.ne_int_none (fin_bl I q (by simp))
  | int j=>obtain ⟨t',rfl⟩:=ry; exact ne_int (fin_bl I q (congrArg not dec_int))
  | str j=>obtain ⟨t',rfl⟩:=ry; exact PySem.EqMixed.ne_int_str (fin_bl I q (by simp))
  | _=>exact absurd (show false = true from hs) Bool.false_ne_true
 | str i =>
  obtain ⟨t,rfl⟩:=rx
  cases y with
  | non=>cases ry; exact PySem.EqNone.ne_str_none (fin_bl I q (by simp))
  | bl j=>cases ry; exact PySem.EqMixed.ne_str_bool (fin_bl I q (by simp))
  | int j=>obtain ⟨t',rfl⟩:=ry; exact PySem.EqMixed.ne_str_int (fin_bl I q (by simp))
  | str j=>obtain ⟨t',rfl⟩:=ry; exact ne_str (fin_bl I q (congrArg not dec_str))
  | _=>exact absurd (show false = true from hs) Bool.false_ne_true
 | byt i =>
  obtain ⟨t,rfl⟩:=rx
  cases y with
  | byt j=>obtain ⟨t',rfl⟩:=ry; exact PySem.W.ne_bytes (fin_bl I q (congrArg not dec_byt))
  | _=>exact absurd (show false = true from hs) Bool.false_ne_true
 | _=>cases y <;> exact absurd (show false = true from hs) Bool.false_ne_true
theorem op_lt : OpR X (compareOp .Lt) (rI0 fun i j=>.bl (decide (i < j))):=opB0 fun _ _ _ _ _ _ _ q=>lt_int q
theorem op_le : OpR X (compareOp .LtE) (rI0 fun i j=>.bl (decide (i ≤ j))):=opB0 fun _ _ _ _ _ _ _ q=>le_int q
theorem op_gt : OpR X (compareOp .Gt) (rI0 fun i j=>.bl (decide (j < i))):=opB0 fun _ _ _ _ _ _ _ q=>gt_int q
theorem op_ge : OpR X (compareOp .GtE) (rI0 fun i j=>.bl (decide (j ≤ i))):=opB0 fun _ _ _ _ _ _ _ q=>ge_int q
theorem OpR.or {f : Value → Value → Sem Value} {r r' : R2} (h : OpR X f r) (h' : OpR X f r') : OpR X f (fun x y H Q=>r x y H Q ∨ r' x y H Q):=by
 intro pins s σ H x y v u Q I rx ry q
 rcases q with q | q
 · exact h pins s σ H x y v u Q I rx ry q
 · exact h' pins s σ H x y v u Q I rx ry q
theorem nomark (b : Expr) {op : CmpOp} (h : op ≠ .In:=by decide) (h2 : op ≠ .NotIn:=by decide) : behindInMarks op b = false:=by
 have e1 : (op == CmpOp.In) = false:=by cases op <;> first | rfl | exact absurd rfl h
 have e2 : (op == CmpOp.NotIn) = false:=by cases op <;> first | rfl | exact absurd rfl h2
 cases b <;> simp [behindInMarks,e1,e2]
theorem pe_cmpR {op : CmpOp} {r : R2} (ho : OpR X (compareOp op) r) (ha : PE X a ta) (hb : PE X b tb) (hm : behindInMarks op b = false) : PE X (.Compare a [op] [b] pos) (tOp r ta tb):=by
 intro pins s σ H Q I h
 exact wpAny_Compare1 (binT ha hb I h fun v u s2 x y H2 I2 rx ry q=>ho pins s2 σ H2 x y v u Q I2 rx ry q) hm
noncomputable def tTest (t : TE) : TT:=fun σ H Q=>t σ H fun x H'=>∃ k,x = .bl k ∧ Q k H'
theorem pt_cmpR {op : CmpOp} {r : R2} (ho : OpR X (compareOp op) r) (ha : PE X a ta) (hb : PE X b tb) (hm : behindInMarks op b = false) : PT X (.Compare a [op] [b] pos) (tTest (tOp r ta tb)):=by
 intro pins s σ H Q I h
 refine wpAny_isTrue_Compare1 (thn (ha pins s σ H _ I h) fun v s1 ⟨x,H1,I1,r1,q1⟩=>thn (hb pins s1 σ H1 _ I1 q1) fun u s2 ⟨y,H2,I2,r2,q2⟩ =>
  thn (ho pins s2 σ H2 x y v u _ I2 r1 r2 q2) fun c s3 ⟨z,H3,I3,r3,k,e,q3⟩=>?_) hm
 subst e
 cases r3
 exact wpAny_truthy_bool ⟨H3,I3,q3⟩
noncomputable def tChain (r r' : R2) (ta tb tc : TE) : TE:=fun σ H Q=>ta σ H fun x H1=>tb σ H1 fun y H2=>r x y H2 fun z H3=>∃ k,z = .bl k ∧
 (if k = true then tc σ H3 fun w' H4=>r' y w' H4 Q else Q (.bl false) H3)
theorem pt_chain {op op' : CmpOp} {r r' : R2} (ho : OpR X (compareOp op) r) (ho' : OpR X (compareOp op') r') (ha : PE X a ta) (hb : PE X b tb) (hc : PE X c tc)
 (hm : lastMarks [op,op'] [b,c] = false:=by with_unfolding_all rfl) : PT X (.Compare a [op,op'] [b,c] pos) (tTest (tChain r r' ta tb tc)):=by
 intro pins s σ H Q I h
 refine isTrue_chain (thn (ha pins s σ H _ I h) fun v s1 ⟨x,H1,I1,r1,q1⟩=>test_link (thn (hb pins s1 σ H1 _ I1 q1) fun u s2 ⟨y,H2,I2,r2,q2⟩ =>
  thn (ho pins s2 σ H2 x y v u _ I2 r1 r2 q2) fun d s3 ⟨z,H3,I3,r3,k,e,q3⟩=>?_)) hm
 subst e
 cases r3
 refine wpAny_truthy_bool ?_
 cases k with
 | false =>
  obtain ⟨k',e',q'⟩:=q3
  cases e'
  exact ite_ff ⟨H3,I3,q'⟩
 | true =>
  refine ite_tt (test_last (thn (hc pins s3 σ H3 _ I3 q3) fun w' s4 ⟨z',H4,I4,r4,q4⟩=>thn (ho' pins s4 σ H4 y z' u w' _ I4 r2 r4 q4) fun d' s5 ⟨z2,H5,I5,r5,k2,e2,q5⟩=>?_))
  subst e2
  cases r5
  exact wpAny_truthy_bool ⟨H5,I5,q5⟩
theorem line63 : (sizeLine : Nat) < 2 ^ 63:=by rw [sizeLine_eq]; decide
theorem vals1 {x : V} {us : List Value} (r : Vals [x] us) : ∃ u,us = [u] ∧ RelV x u:=by
 cases r with
 | cons r1 r2=>cases r2; exact ⟨_,rfl,r1⟩
theorem vals2 {x y : V} {us : List Value} (r : Vals [x,y] us) : ∃ u w',us = [u,w'] ∧ RelV x u ∧ RelV y w':=by
 cases r with
 | cons r1 r2 =>
  cases r2 with
  | cons r3 r4=>cases r4; exact ⟨_,_,rfl,r1,r3⟩
theorem call_max2 (hc : X.calm = true) : CallR X (.builtin "max") (fun xs H Q=>∃ i j,xs = [.int i,.int j] ∧ Q (.int (if j > i then j else i)) H):=by
 intro pins s σ H xs us Q I r h
 obtain ⟨i,j,rfl,q⟩:=h
 obtain ⟨u,w',rfl,⟨t,rfl⟩,⟨t',rfl⟩⟩:=vals2 r
 refine max_two_ints (I.ok.hd hc) fun h' tk k=>⟨_,H,I.kept k,?_,q⟩
 by_cases hj : j > i
 · rw [if_pos hj,if_pos hj]; exact ⟨_,rfl⟩
 · rw [if_neg hj,if_neg hj]; exact ⟨_,rfl⟩
theorem call_min2 (hc : X.calm = true) : CallR X (.builtin "min") (fun xs H Q=>∃ i j,xs = [.int i,.int j] ∧ Q (.int (if j < i then j else i)) H):=by
 intro pins s σ H xs us Q I r h
 obtain ⟨i,j,rfl,q⟩:=h
 obtain ⟨u,w',rfl,⟨t,rfl⟩,⟨t',rfl⟩⟩:=vals2 r
 refine min_two_ints (I.ok.hd hc) fun h' tk k=>⟨_,H,I.kept k,?_,q⟩
 by_cases hj : j < i
 · rw [if_pos hj,if_pos hj]; exact ⟨_,rfl⟩
 · rw [if_neg hj,if_neg hj]; exact ⟨_,rfl⟩
theorem call_int1 : CallR X (.type "int") (fun xs H Q=>(∃ i,xs = [.int i] ∧ Q (.int i) H) ∨ ∃ k,xs = [.bl k] ∧ Q (.int (if k then 1 else 0)) H):=by
 intro pins s σ H xs us Q I r h
 rcases h with ⟨i,rfl,q⟩ | ⟨k,rfl,q⟩
 · obtain ⟨u,rfl,t,rfl⟩:=vals1 r
   exact call_int_int ⟨.int i,H,I,⟨_,rfl⟩,q⟩
 · obtain ⟨u,rfl,r1⟩:=vals1 r
   cases r1
   exact call_int_bool ⟨.int (if k then 1 else 0),H,I.tok _,⟨_,rfl⟩,q⟩
end
end L2
namespace L2
open PySem PySem.Spec PyProof.Rows
structure ObjM (h : Heap) (x dx C : Addr) (mA : Str → Option Value) : Prop where
 obj : h.get? x = some (PySem.W.instObj C dx)
 ns : h.Ns1 dx mA
 ne : dx ≠ x
theorem lookIn_ns {h : Heap} {dx : Addr} {mA : Str → Option Value} (n : h.Ns1 dx mA) : ∃ od,h.get? dx = some od ∧ ∀ name,PySem.W.lookIn name od = some (mA name):=by
 obtain ⟨o,es,ep,ho,hd,hk,_,hm⟩:=n
 refine ⟨o,ho,fun name=>?_⟩
 have e:=hm name
 unfold nsFind findBy at e
 rw [← Array.find?_toList] at e
 unfold PySem.W.lookIn
 rw [hd]
 dsimp only
 split
 · rename_i y q
   rw [q] at e
   exact congrArg some e
 · rename_i q
   rw [q] at e
   have a : es.toList.any (·.refKey) = false:=by
    rw [List.any_eq_false]
    intro y hy
    obtain ⟨z,t,hkey⟩:=hk y (Array.mem_toList_iff.mp hy)
    simp [DictEntry.refKey,hkey]
   have a' : ¬ es.toList.any (·.refKey) = true:=by rw [a]; exact Bool.false_ne_true
   rw [if_neg a']
   exact congrArg some e
theorem ObjM.look {h : Heap} {x dx C : Addr} {mA : Str → Option Value} (I : ObjM h x dx C mA) : ∃ od,PySem.W.InstAt h x (PySem.W.instObj C dx) C (some od) ∧ ∀ name,PySem.W.lookIn name od = some (mA name) :=
 let ⟨od,ho,hl⟩:=lookIn_ns I.ns
 ⟨od,⟨I.obj,rfl,rfl,ho⟩,hl⟩
section
variable {prog : Program} {w : World} {A : Around} {E : Value → Shared → Prop} {s : Shared} {K : PySem.W.Frag} {x dx C f : Addr} {mA : Str → Option Value} {name : Str} {v : Value}
theorem set_map {ns : List Str} {Q : Unit → Shared → Prop} (X : K.In s.heap) (I : ObjM s.heap x dx C mA)
 (hs : PySem.W.findIn K (.ref C) "__setattr__" = some (some (.builtin "object.__setattr__"))) (hp : PySem.W.plainOver K C = true) (ht : PySem.W.takerIn K C name = some none) (hh : PySem.W.hasDictIn K C = true)
 (hw : PySem.Within mA ns) (hsz : ns.length ≤ sizeLine)
 (h : ∀ h',ObjM h' x dx C (fun y=>if y = name then some v else mA y) → Heap.SameBut dx s.heap h' → Q () { s with heap:=h',toks:=s.toks + 2 }) :
 wpAny (model prog w) A (setAttr (.ref x) name v) Q E s:=by
 obtain ⟨od,J,hl⟩:=I.look
 refine PySem.W.set_plain X J hs (PySem.W.osa_open (s:={ s with toks:=s.toks + 1 }) (r:=none) X J hp ht fun b=>?_)
 obtain ⟨cd,hc,hd'⟩:=PySem.W.any_some hh
 have hx : s.heap.get? x = some ⟨.ref C,some dx,.plain,#[]⟩:=I.obj
 refine wpAny_bind (wpAny_pure (wpAny_bind (wpAny_bind (wpAny_loadPart hx (wpAny_bind (PySem.W.Looks.here (s:={ s with toks:=s.toks + 1 }) (PySem.W.looks_clsIn X hc) ?_))))))
 rw [hd']
 refine wpAny_pure (a:=some dx) (wpAny_bind (wpAny_pure (wpAny_bind ?_)))
 refine wpAny_nsSet1 (s:={ s with toks:=s.toks + 1 }) I.ns fun h' hn2 hs2=>?_
 obtain ⟨oD,esD,epD,hoD,hdD,hcD⟩:=hn2.count (PySem.Within.cons name v hw)
 refine wpAny_bind (wpAny_lookBehind hoD (by rw [hdD]; exact pastItsLine_dict (Nat.le_trans hcD (by rw [List.length_cons]; omega))) ?_)
 exact wpAny_pure (h _ ⟨(hs2.2 _ (Ne.symm I.ne)).trans I.obj,hn2,I.ne⟩ hs2)
end
section
variable {P : Program} {w : World} {H H' : Hp} {h h' : Heap} {a C dx : Addr} {fs fs' : List (Str × V)}
theorem ins_get (hok : HOk P w H h) (e : H a = some (.ins C dx fs)) : ∃ mA,ObjM h a dx C mA ∧ (∀ f,RelO (fs.lookup f) (mA f)) ∧ PySem.Within mA (fs.map (·.1)) ∧ fs.length ≤ 1000 ∧ H dx = some (.own a):=by
 obtain ⟨d,z,ne,ob,mA,n,r,q⟩:=(show ObjOk P w H h a (.ins C dx fs) from hok a _ e)
 exact ⟨mA,⟨ob,n,ne⟩,r,q,z,d⟩
end
structure Cls (K : PySem.W.Frag) (C : Addr) : Prop where
 pg : PySem.W.plainGet K C Str.empty = true
 hd : PySem.W.hasDictIn K C = true
 po : PySem.W.plainOver K C = true
 sa : PySem.W.findIn K (.ref C) "__setattr__" = some (some (.builtin "object.__setattr__"))
theorem Cls.get {K : PySem.W.Frag} {C : Addr} (c : Cls K C) (f : Str) : PySem.W.plainGet K C f = true:=c.pg
structure Con (K : PySem.W.Frag) (C : Addr) (f : Str) (v : V) (u : Value) : Prop where
 at_ : PySem.W.findIn K (.ref C) f = some (some u)
 rel : RelV v u
 get : PySem.W.specialIn K u "__get__" = some none
 cp : PySem.W.copiedNames.contains f = false
structure Meth (K : PySem.W.Frag) (C : Addr) (m : Str) (f : Addr) : Prop where
 at_ : PySem.W.findIn K (.ref C) m = some (some (.ref f))
 fn : PySem.W.isFn K (.ref f) = true
 kp : PySem.W.keepIn K (.ref f) = true
section
variable {X : Cx} {pins : List (Addr × Obj)} {σ : St} {H : Hp} {s : Shared} {a C dx : Addr} {fs : List (Str × V)} {f : Str} {v : V} {A : Around} {E : Value → Shared → Prop}
theorem Inv.made (I : Inv X pins σ H s) : Inv X pins σ (upd (upd H s.heap.objs.size (.own (s.heap.objs.size + 1))) (s.heap.objs.size + 1) (.ins C s.heap.objs.size []))
 { s with heap:=(s.heap.push PySem.W.emptyDict).push (PySem.W.instObj C s.heap.objs.size) }:=by
 have e1 : (s.heap.push PySem.W.emptyDict).get? s.heap.objs.size = some PySem.W.emptyDict:=Heap.get?_push_size s.heap rfl
 have e2 : ((s.heap.push PySem.W.emptyDict).push (PySem.W.instObj C s.heap.objs.size)).get? (s.heap.objs.size + 1) = some (PySem.W.instObj C s.heap.objs.size):=by
  have:=Heap.get?_push_size (s.heap.push PySem.W.emptyDict) (o:=PySem.W.instObj C s.heap.objs.size) rfl
  rwa [Heap.size_push] at this
 have e3 : (s.heap.push PySem.W.emptyDict).Ns s.heap.objs.size (fun _=>none):=⟨PySem.W.emptyDict,#[],_,e1,rfl,(fun e he=>absurd he (by simp)),fun _=>rfl⟩
 have I1:=I.laid (a:=s.heap.objs.size) (o:=.own (s.heap.objs.size + 1)) (h':=s.heap.push PySem.W.emptyDict) (t':=s.toks) (fun b u q=>Heap.get?_push_of_some _ q) (Nat.le_refl _) ⟨_,e1⟩
 refine I1.laid (a:=s.heap.objs.size + 1) (o:=.ins C s.heap.objs.size []) (t':=s.toks) (fun b u q=>Heap.get?_push_of_some _ q) (Nat.le_of_eq (Heap.size_push _ _)) ?_
 have ne : s.heap.objs.size ≠ s.heap.objs.size + 1:=Nat.ne_of_lt (Nat.lt_succ_self _)
 refine ⟨by rw [upd_ne ne,upd_same],Nat.zero_le _,ne,e2,fun _=>none,(Heap.Ns1.of_empty e3).at fun o q=>Heap.get?_push_of_some _ q,fun _=>True.intro,fun y hy=>absurd rfl hy⟩
end
section
variable {X : Cx} {o e value : Expr} {f : Str} {pos pos' tpos : Pos} {ta tv : TE}
end
section
variable {X : Cx} {pins : List (Addr × Obj)} {σ : St} {H : Hp} {s : Shared} {A : Around} {E : Value → Shared → Prop} {Q : Value → Shared → Prop} {c : Value} {b : Bool}
inductive TyOf (K : PySem.W.Frag) (H : Hp) : V → Value → Prop where
 | non : TyOf K H .non (.type "NoneType")
 | bl (x : Bool) : TyOf K H (.bl x) (.type "bool")
 | int (i : Int) : TyOf K H (.int i) (.type "int")
 | str (x : Str) : TyOf K H (.str x) (.type "str")
 | flt (x : UInt64) : TyOf K H (.flt x) (.type "float")
 | lst {a : Addr} {xs : List V} (e : H a = some (.lst xs)) : TyOf K H (.ref a) (.type "list")
 | frz {a : Addr} {o : Obj} {xs : List V} (e : H a = some (.frz o (.lst xs))) : TyOf K H (.ref a) (.type "list")
 | tup {a : Addr} {xs : List V} (e : H a = some (.tup xs)) : TyOf K H (.ref a) (.type "tuple")
 | dK {a : Addr} {kvs : List (Key × V)} (e : H a = some (.dK kvs)) : TyOf K H (.ref a) (.type "dict")
 | dT {a : Addr} {kvs : List (List Key × V)} (e : H a = some (.dT kvs)) : TyOf K H (.ref a) (.type "dict")
 | ins {a C dx : Addr} {fs : List (Str × V)} (e : H a = some (.ins C dx fs)) (cl : Cls K C) (ha : PySem.W.findIn K (.ref C) "__class__" = some (some (.builtin "object.__class__")))
  (hn : PySem.W.specialIn K (.builtin "object.__class__") "__get__" = some (some (.builtin "getset_descriptor.__get__"))) (htk : PySem.W.takesIn K (.builtin "object.__class__") = some true)
  (hm : PySem.W.mroIn K C (.type "object") = some true) : TyOf K H (.ref a) (.ref C)
theorem isinst_ok {x : V} {u t : Value} (I : Inv X pins σ H s) (rx : RelV x u) (ty : TyOf X.K H x t) (e : PySem.W.kitOne X.K t c = some b) (h : ∀ tk,Q (.bool b) { s with toks:=tk }) :
 wpAny (model X.prog X.w) A (call (.builtin "isinstance") [u,c]) Q E s:=by
 cases ty with
 | non=>cases (show u = Value.none from rx); exact PySem.W.kia_one PySem.W.kitx_none I.kIn True.intro e (fun z=>nomatch z) h
 | bl y=>cases (show u = Value.bool y from rx); exact PySem.W.kia_one PySem.W.kitx_bool I.kIn True.intro e (fun z=>nomatch z) h
 | int i=>obtain ⟨t,q⟩:=(show ∃ t,u = Value.int i t from rx); cases q; exact PySem.W.kia_one PySem.W.kitx_int I.kIn True.intro e (fun z=>nomatch z) h
 | str y=>obtain ⟨t,q⟩:=(show ∃ t,u = Value.str y t from rx); cases q; exact PySem.W.kia_one PySem.W.kitx_str I.kIn True.intro e (fun z=>nomatch z) h
 | flt y=>obtain ⟨t,q⟩:=(show ∃ t,u = Value.float y t from rx); cases q; exact PySem.W.kia_one PySem.W.kitx_float I.kIn True.intro e (fun z=>nomatch z) h
 | @lst a xs ea =>
  cases (show u = Value.ref a from rx)
  obtain ⟨_,_,n,_,h1⟩:=(show ObjOk X.prog X.w H s.heap a (.lst xs) from I.hok a _ ea)
  exact PySem.W.kia_one PySem.W.kitx_list I.kIn ⟨_,h1,rfl⟩ e (fun z=>nomatch z) h
 | @frz a ob xs ea =>
  cases (show u = Value.ref a from rx)
  obtain ⟨_,_,_,n,_,h1⟩:=(show ObjOk X.prog X.w H s.heap a (.frz ob (.lst xs)) from I.hok a _ ea)
  exact PySem.W.kia_one PySem.W.kitx_list I.kIn ⟨_,h1,rfl⟩ e (fun z=>nomatch z) h
 | @tup a xs ea =>
  cases (show u = Value.ref a from rx)
  obtain ⟨_,_,_,p⟩:=(show ObjOk X.prog X.w H s.heap a (.tup xs) from I.hok a _ ea)
  obtain ⟨o,h1,h2,_⟩:=p
  exact PySem.W.kia_one PySem.W.kitx_tuple I.kIn ⟨o,h1,h2⟩ e (fun z=>nomatch z) h
 | @dK a kvs ea =>
  cases (show u = Value.ref a from rx)
  obtain ⟨_,_,vs,_,p⟩:=(show ObjOk X.prog X.w H s.heap a (.dK kvs) from I.hok a _ ea)
  obtain ⟨o,es,ep,h1,h2,_⟩:=p
  exact PySem.W.kia_one PySem.W.kitx_dict I.kIn ⟨o,h1,h2.1⟩ e (fun z=>nomatch z) h
 | @dT a kvs ea =>
  cases (show u = Value.ref a from rx)
  obtain ⟨_,_,xs,_,o,es,ep,h1,h2,_⟩:=(show ObjOk X.prog X.w H s.heap a (.dT kvs) from I.hok a _ ea)
  exact PySem.W.kia_one PySem.W.kitx_dict I.kIn ⟨o,h1,h2.1⟩ e (fun z=>nomatch z) h
 | @ins a C dx fs ea cl ha hn htk hm =>
  cases (show u = Value.ref a from rx)
  obtain ⟨mA,O,_⟩:=ins_get I.hok ea
  obtain ⟨od,J,_⟩:=O.look
  exact PySem.W.kia_one (PySem.W.kitx_own (cl.get _) cl.hd ha hn htk hm) I.kIn J e (fun z=>nomatch z) h
end
end L2
namespace L2
open PySem PySem.Spec PyProof.Rows
structure Room (k : Nat) (A : Around) : Prop where
 hd : A.handled = none
 dp : A.depth + 3 * k + 5 < recursionLimit
 un : A.units + 16 * k + 200 < cLine
 gd : A.guards = some []
theorem Room.mono {j k : Nat} {A : Around} (r : Room k A) (h : j ≤ k) : Room j A:=⟨r.hd,by have:=r.dp; omega,by have:=r.un; omega,r.gd⟩
theorem Room.deeper {k : Nat} {A : Around} (r : Room (k + 1) A) (env : Env) : Room k (A.deeper env) :=
 ⟨r.hd,by have:=r.dp; show A.depth + 1 + 3 * k + 5 < _; omega,by have:=r.un; show A.units + 3 + 16 * k + 200 < _; omega,r.gd⟩
theorem Room.in1 {k : Nat} {A : Around} (r : Room (k + 1) A) : Room k A.in1 :=
 ⟨r.hd,by have:=r.dp; show A.depth + 3 * k + 5 < _; omega,by have:=r.un; show A.units + 1 + 16 * k + 200 < _; omega,r.gd⟩
theorem Room.depth {k : Nat} {A : Around} (r : Room k A) : A.depth < recursionLimit:=by have:=r.dp; omega
theorem Room.units {k : Nat} {A : Around} (r : Room k A) : A.units + 64 < cLine:=by have:=r.un; omega
noncomputable def tNil : TA:=fun _ H Q=>Q [] H
noncomputable def tCons (ta : TE) (tr : TA) : TA:=fun σ H Q=>ta σ H fun x H1=>tr σ H1 fun xs H2=>Q (x :: xs) H2
section
variable {X : Cx} {e : Expr} {es : List Expr} {te : TE} {t : TA} {pos : Pos}
theorem pa_nil : PA X [] tNil:=fun _ _ _ _ H Q I h=>Calls.spliced_nil ⟨[],H,I,.nil,h⟩
theorem pa_cons (ha : PE X e te) (hr : PA X es t) (hs : starEach (e :: es) X.env = (false,eval e X.env) :: starEach es X.env:=by rfl) : PA X (e :: es) (tCons te t):=by
 intro pos pins s σ H Q I h
 rw [hs]
 show wpAny _ _ (spliced ((false,eval e X.env) :: backTo pos (starEach es X.env))) _ _ s
 refine Calls.spliced_cons (thn (ha pins s σ H _ I h) fun u s1 ⟨x,H1,I1,r1,q1⟩=>?_)
 exact thn (hr pos pins s1 σ H1 _ I1 q1) fun us s2 ⟨xs,H2,I2,r2,q2⟩=>⟨x :: xs,H2,I2,.cons r1 r2,q2⟩
noncomputable def tTup (t : TA) : TE:=fun σ H Q=>t σ H fun xs H1=>xs.length ≤ sizeLine ∧ ∀ p,H1 p = none → Q (.ref p) (upd H1 p (.tup xs))
noncomputable def tLst (t : TA) : TE:=fun σ H Q=>t σ H fun xs H1=>xs.length ≤ sizeLine ∧ ∀ p,H1 p = none → Q (.ref p) (upd H1 p (.lst xs))
theorem pe_tup {x1} (h : PA X es t) : PE X (.Tuple es x1 pos) (tTup t):=by
 intro pins s σ H Q I hq
 refine wpAny_Tuple_spliced (thn (h pos pins s σ H _ I hq) fun us s1 ⟨xs,H1,I1,r,z,q⟩=>⟨by rw [← r.length]; exact z,?_⟩)
 have hf : H1 s1.heap.objs.size = none:=I1.hok.fresh (Nat.le_refl _)
 refine ⟨.ref s1.heap.objs.size,upd H1 s1.heap.objs.size (.tup xs),I1.laid (t':=s1.toks) (fun b u e=>Heap.get?_push_of_some _ e) (Nat.le_refl _) ?_,rfl,q _ hf⟩
 exact ⟨z,us,r,⟨_,Heap.get?_push_size _ rfl,rfl,_,rfl⟩⟩
theorem pe_lst (h : PA X es t) : PE X (.List es pos) (tLst t):=by
 intro pins s σ H Q I hq
 refine wpAny_List_spliced (thn (h pos pins s σ H _ I hq) fun us s1 ⟨xs,H1,I1,r,z,q⟩=>⟨by rw [← r.length]; exact z,?_⟩)
 have hf : H1 s1.heap.objs.size = none:=I1.hok.fresh (Nat.le_refl _)
 refine ⟨.ref s1.heap.objs.size,upd H1 s1.heap.objs.size (.lst xs),I1.laid (t':=s1.toks) (fun b u e=>Heap.get?_push_of_some _ e) (Nat.le_refl _) ?_,rfl,q _ hf⟩
 exact ⟨z,us,0,r,Heap.get?_push_size _ rfl⟩
end
noncomputable abbrev Sp:=List V → Hp → VK → XK → Prop
noncomputable abbrev CXT:=List Env → Hp → Shared → XK → Value → Shared → Prop
structure Env0 (P : Program) (w : World) (K : PySem.W.Frag) (mg : Str → Option Value) (base : Heap) (A : Around) (outer : List Env) (s : Shared) (H : Hp) : Prop where
 frames : A.frames = some outer
 mod : Mod K mg base
 bs : ∀ b o,base.get? b = some o → s.heap.get? b = some o ∧ H b = none
 bsz : base.objs.size ≤ s.heap.objs.size
 funs : s.heap.FunFrames base outer
 frf : ∀ b ∈ frs outer,H b = none
 hok : HOk P w H s.heap
 bare : AllBare s.gens
noncomputable def CE (outer : List Env) (P : Program) (w : World) (H : Hp) (s : Shared) (Q : VK) (u : Value) (s' : Shared) : Prop :=
 ∃ v H',s'.os = s.os ∧ AllBare s'.gens ∧ Un (frs outer) [] H H' s.heap s'.heap ∧ HOk P w H' s'.heap ∧ RelV v u ∧ Q v H'
noncomputable def CR (CX : CXT) (outer : List Env) (P : Program) (w : World) (H : Hp) (s : Shared) (Q : VK) (E : XK) (r : Result) (s' : Shared) : Prop :=
 match r with
 | .ok (.ret u)=>CE outer P w H s Q u s'
 | .ok _=>False
 | .error e=>CX outer H s E e s'
structure FnOk (P : Program) (w : World) (K : PySem.W.Frag) (mg : Str → Option Value) (base : Heap) (CX : CXT) (k : Nat) (f : Addr) (fd : FuncData) (ps : List Str) (sp : Sp) : Prop where
 len : ∀ vs H Q E,sp vs H Q E → vs.length = ps.length
 run : ∀ (A : Around) (outer : List Env) (s : Shared) (H : Hp) (args : Args) (us : List Value) (vs : List V) (Q : VK) (E : XK),Room k A → Env0 P w K mg base A outer s H → BindsTo s fd args (ps.zip us) → Vals vs us → sp vs H Q E →
  codeAny (model P w) A (.call (.ref f) args) (CR CX outer P w H s Q E) s
theorem FnOk.mono {P : Program} {w : World} {K : PySem.W.Frag} {mg : Str → Option Value} {base : Heap} {CX : CXT} {j k : Nat} {f : Addr} {fd : FuncData} {ps : List Str} {sp : Sp} (F : FnOk P w K mg base CX j f fd ps sp) (h : j ≤ k) :
 FnOk P w K mg base CX k f fd ps sp:=⟨F.len,fun A outer s H args us vs Q E hr=>F.run A outer s H args us vs Q E (hr.mono h)⟩
theorem Env0.in1 {P : Program} {w : World} {K : PySem.W.Frag} {mg : Str → Option Value} {base : Heap} {A : Around} {outer : List Env} {s : Shared} {H : Hp} (e : Env0 P w K mg base A outer s H) :
 Env0 P w K mg base A.in1 outer s H:=⟨e.frames,e.mod,e.bs,e.bsz,e.funs,e.frf,e.hok,e.bare⟩
section
variable {X : Cx} {pins : List (Addr × Obj)} {σ : St} {H : Hp} {s s' : Shared}
theorem Inv.env0 (I : Inv X pins σ H s) : Env0 X.prog X.w X.K X.mg X.base X.A X.stack s H :=
 ⟨I.ok.frames,I.ok.mod,I.bs,Nat.le_trans I.ok.bsz I.sz,I.stack,I.stkFree,I.hok,I.bare⟩
theorem Inv.after {Q : VK} {u : Value} (I : Inv X pins σ H s) (h : CE X.stack X.prog X.w H s Q u s') : EP X pins σ Q u s':=by
 obtain ⟨v,H',os,bare,un,hok,r,q⟩:=h
 obtain ⟨hh,g,d,t,os'⟩:=s'
 obtain rfl : os' = s.os:=os
 exact ⟨v,H',I.call (h':=hh) (g':=g) (d':=d) (t':=t) (ch:=[]) un hok bare (fun b z=>absurd z (by simp)),r,q⟩
end
noncomputable def tCall (sp : Sp) (dvs : List V) (E : XK) (t : TA) : TE:=fun σ H Q=>t σ H fun vs H1=>sp (vs ++ dvs) H1 Q E
noncomputable def Binds (K : PySem.W.Frag) (fd : FuncData) (ps : List Str) (ds : List Value) : Prop :=
 ∀ (s : Shared) (us : List Value),K.In s.heap → (us ++ ds).length = ps.length → BindsTo s fd ⟨us,[]⟩ (ps.zip (us ++ ds))
theorem Binds.all {K : PySem.W.Frag} {fd : FuncData} {ps : List Str} (h : ∀ us : List Value,us.length = ps.length → bindArgs fd ⟨us,[]⟩ = pure (ps.zip us)) : Binds K fd ps []:=fun s us _ hl=>by
 rw [List.append_nil] at hl ⊢
 exact .of_eq (h us hl)
noncomputable def Passes (CX : CXT) (X : Cx) (E : XK) : Prop:=∀ (pins : List (Addr × Obj)) (σ : St) (H : Hp) (s : Shared) (e : Value) (s' : Shared),Inv X pins σ H s → CX X.stack H s E e s' → X.xe e s'
section
variable {X : Cx} {CX : CXT} {k : Nat} {f C : Addr} {fd : FuncData} {ps : List Str} {sp : Sp} {dvs : List V} {ds : List Value} {E : XK} {x m : Str} {p pos apos : Pos} {e o : Expr} {es : List Expr} {ta : TE} {t : TA}
theorem run_fn {pins : List (Addr × Obj)} {σ : St} {H : Hp} {s : Shared} {Q : VK} {us : List Value} {vs : List V} (F : FnOk X.prog X.w X.K X.mg X.base CX k f fd ps sp) (hr : Room k X.A) (hb : Binds X.K fd ps ds) (hd : Vals dvs ds) (hx : Passes CX X E)
 (I : Inv X pins σ H s) (r : Vals vs us) (h : sp (vs ++ dvs) H Q E) : wpAny (model X.prog X.w) X.A (call (.ref f) us) (EP X pins σ Q) X.xe s:=by
 have r2 : Vals (vs ++ dvs) (us ++ ds):=r.append hd
 have hl : (us ++ ds).length = ps.length:=by rw [← r2.length]; exact F.len _ _ _ _ h
 refine wpAny_call (codeAny_mono (F.run X.A X.stack s H ⟨us,[]⟩ (us ++ ds) (vs ++ dvs) Q E hr I.env0 (hb s us I.kIn hl) r2 h) fun r s' hq=>?_)
 cases r with
 | error e=>exact hx pins σ H s e s' I hq
 | ok fl =>
  cases fl with
  | ret u=>exact I.after hq
  | next=>exact False.elim hq
  | brk=>exact False.elim hq
  | cont=>exact False.elim hq
theorem pe_call (F : FnOk X.prog X.w X.K X.mg X.base CX k f fd ps sp) (hr : Room k X.A) (hg : Gl X x) (hm : X.mg x = some (.ref f)) (hk : PySem.W.keepIn X.K (.ref f) = true) (hb : Binds X.K fd ps ds) (hd : Vals dvs ds) (hx : Passes CX X E)
 (ha : PA X (e :: es) t) (hdb : (x == ("__debug__" : Str)) = false:=by decide) (he : starEach (e :: es) X.env = (false,eval e X.env) :: starEach es X.env:=by rfl) (hpl : (backTo pos (starEach es X.env)).any (·.1) = false:=by rfl) :
 PE X (.Call (.Name x p) (e :: es) [] pos) (tCall sp dvs E t):=by
 intro pins s σ H Q I h
 refine wpAny_Call_Name_kw (ld_glob I hg hm ?_ hdb)
 refine PySem.W.callWith_K (h₀:=X.base) I.ok.mod.kin hk (thn (ha pos pins s σ H _ I h) fun us s1 ⟨vs,H1,I1,r,q⟩=>⟨I1.kIn,?_⟩) he hpl
 exact run_fn F hr hb hd hx I1 r q
structure Mk (K : PySem.W.Frag) (C f : Addr) : Prop where
 makes : PySem.W.makesIn K C = true
 init : PySem.W.findIn K (.ref C) "__init__" = some (some (.ref f))
 fn : PySem.W.isFn K (.ref f) = true
 kp : PySem.W.keepIn K (.ref C) = true
end
section
variable {X : Cx} {CX : CXT} {k : Nat} {f C : Addr} {fd : FuncData} {ps ks : List Str} {sp : Sp} {E : XK} {x m : Str} {p pos apos kpos : Pos} {e o : Expr} {es : List Expr} {kws : List Keyword} {te ta : TE} {t tk : TA} {nm : Option Str}
structure KBinds (K : PySem.W.Frag) (fd : FuncData) (ps ks : List Str) (g : List Value → List Value → List Value) (gV : List V → List V → List V) : Prop where
 to : ∀ (s : Shared) (us ws : List Value),K.In s.heap → (g us ws).length = ps.length → BindsTo s fd ⟨us,ks.zip ws⟩ (ps.zip (g us ws))
 rel : ∀ {vs : List V} {us : List Value} {zs : List V} {ws : List Value},Vals vs us → Vals zs ws → Vals (gV vs zs) (g us ws)
variable {g : List Value → List Value → List Value} {gV : List V → List V → List V}
end
structure FnScope (N P : List Str) (sc : Scope) : Prop where
 kind : sc.kind = .function
 co : sc.isCoroutine = false
 gen : sc.isGenerator = false
 nd : N.Nodup
 pre : N.take P.length = P
 par : ∀ x ∈ P,sc.names.lookup x = some .local ∨ sc.names.lookup x = some .cell
 nofree : ∀ y ∈ sc.names,y.2 ≠ .free
theorem bindL_out {kindOf : Str → Option NameKind} {x : Str} : ∀ {binds : List (Str × Value)} {m : Str → Option Value},(∀ v,(x,v) ∉ binds) → bindL kindOf binds m x = m x
 | [],_,_=>rfl
 | (n,v) :: r,m,h=>by
  unfold bindL
  rw [bindL_out fun w hw=>h w (List.mem_cons_of_mem _ hw)]
  split
  · have : x ≠ n:=by rintro rfl; exact h v List.mem_cons_self
    simp [this]
  · rfl
theorem bindC_out {kindOf : Str → Option NameKind} {x : Str} : ∀ {binds : List (Str × Value)} {m : Str → Option Value},(∀ v,(x,v) ∉ binds) → bindC kindOf binds m x = m x
 | [],_,_=>rfl
 | (n,v) :: r,m,h=>by
  unfold bindC
  rw [bindC_out fun w hw=>h w (List.mem_cons_of_mem _ hw)]
  split
  · rfl
  · have : x ≠ n:=by rintro rfl; exact h v List.mem_cons_self
    simp [this]
theorem bindL_get {kindOf : Str → Option NameKind} {x : Str} {v : Value} : ∀ {P : List Str} {vs : List Value} {i : Nat} {m : Str → Option Value},P.Nodup → P[i]? = some x → vs[i]? = some v → kindOf x = some .local →
 bindL kindOf (P.zip vs) m x = some v
 | [],_,_,_,_,h,_,_=>by simp at h
 | _ :: _,[],_,_,_,_,h,_=>by simp at h
 | p :: P,w :: vs,0,m,nd,h1,h2,hk=>by
  simp at h1 h2; subst h1; subst h2
  show bindL kindOf ((p,w) :: P.zip vs) m p = _
  unfold bindL
  rw [bindL_out fun v hv=>(List.nodup_cons.mp nd).1 (List.of_mem_zip hv).1,if_pos hk]
  simp
 | p :: P,w :: vs,i + 1,m,nd,h1,h2,hk=>by
  show bindL kindOf ((p,w) :: P.zip vs) m x = _
  unfold bindL
  exact bindL_get (i:=i) (List.nodup_cons.mp nd).2 (by simpa using h1) (by simpa using h2) hk
theorem bindC_get {kindOf : Str → Option NameKind} {x : Str} {v : Value} : ∀ {P : List Str} {vs : List Value} {i : Nat} {m : Str → Option Value},P.Nodup → P[i]? = some x → vs[i]? = some v → kindOf x ≠ some .local →
 bindC kindOf (P.zip vs) m x = some v
 | [],_,_,_,_,h,_,_=>by simp at h
 | _ :: _,[],_,_,_,_,h,_=>by simp at h
 | p :: P,w :: vs,0,m,nd,h1,h2,hk=>by
  simp at h1 h2; subst h1; subst h2
  show bindC kindOf ((p,w) :: P.zip vs) m p = _
  unfold bindC
  rw [bindC_out fun v hv=>(List.nodup_cons.mp nd).1 (List.of_mem_zip hv).1,if_neg hk]
  simp
 | p :: P,w :: vs,i + 1,m,nd,h1,h2,hk=>by
  show bindC kindOf ((p,w) :: P.zip vs) m x = _
  unfold bindC
  exact bindC_get (i:=i) (List.nodup_cons.mp nd).2 (by simpa using h1) (by simpa using h2) hk
noncomputable def start (N : List Str) (vs : List V) : St:=vs.map some ++ List.replicate (N.length - vs.length) none
noncomputable def cxOf (CX : CXT) (P : Program) (w : World) (K : PySem.W.Frag) (mg : Str → Option Value) (base : Heap) (N : List Str) (qual : Str) (scope : Scope) (f : Addr) (cd : Value) (A : Around) (outer : List Env) (s : Shared) (H : Hp) (E : XK) : Cx where
 prog:=P
 w:=w
 K:=K
 mg:=mg
 base:=base
 A:=A.deeper (envOfC qual scope s.heap.objs.size f cd)
 N:=N
 s₀:=s
 H₀:=H
 env:=envOfC qual scope s.heap.objs.size f cd
 outer:=outer
 stack:=envOfC qual scope s.heap.objs.size f cd :: outer
 ex:=[]
 calm:=true
 fn:=fun _=>true
 pn:=[]
 xe:=fun e s'=>wpAny (model P w) (A.deeper (envOfC qual scope s.heap.objs.size f cd)) (leaving (envOfC qual scope s.heap.objs.size f cd) e) (fun _ s''=>CX outer H s E e s'') (fun e' s''=>CX outer H s E e' s'') s'
theorem cell_has {sc : Scope} {n : Nat} {x : Str} (h : sc.names.lookup x = some .cell) : ∃ c,(cellsFrom n sc.names []).lookup x = some c:=by
 have q:=PySem.W.cellsFrom_some sc.names n [] (.inl h)
 exact Option.isSome_iff_exists.mp q
theorem inv_start {CX : CXT} {P : Program} {w : World} {K : PySem.W.Frag} {mg : Str → Option Value} {base : Heap} {N ps : List Str} {qual : Str} {scope : Scope} {f : Addr} {cd : Value} {A : Around} {outer : List Env} {s s1 : Shared} {H : Hp} {E : XK} {us : List Value} {vs : List V}
 (S : FnScope N ps scope) (hd : A.handled = none) (e0 : Env0 P w K mg base A outer s H) (hl : vs.length = ps.length) (r : Vals vs us)
 (x : InCallC s s.heap.objs.size (bindL (envOfC qual scope s.heap.objs.size f cd).kindOf (ps.zip us) fun _=>none) (cellsFrom (s.heap.objs.size + 1) scope.names []) (bindC (envOfC qual scope s.heap.objs.size f cd).kindOf (ps.zip us) fun _=>none) s1) :
 Inv (cxOf CX P w K mg base N qual scope f cd A outer s H E) [] (start N vs) H s1:=by
 have hpl : ps.length ≤ N.length:=by have:=congrArg List.length S.pre; rw [List.length_take] at this; omega
 obtain ⟨h1,tk,rfl,hk⟩:=x.done
 have noA : ∀ b : Addr,b ∉ (cxOf CX P w K mg base N qual scope f cd A outer s H E).ex:=fun b z=>absurd (show b ∈ ([] : List Addr) from z) (by simp)
 refine ⟨⟨e0.mod,S.kind,rfl,rfl,Nat.le_refl _,fun y z c h1 h2=>?_,fun y hy=>?_,fun y c _ h=>?_,fun _=>hd,Around.frames_deeper e0.frames,.inr ⟨rfl,rfl⟩,fun b z=>absurd z (noA b),e0.bs,e0.bsz,fun b _ _=>noA b,fun b z=>absurd z (noA b),e0.funs,e0.frf⟩,
  rfl,e0.bare,Un.kept hk,⟨_,x.toInCall.ns,fun i y v h1 h2 h3=>?_⟩,fun y c h=>⟨_,x.cell y c h⟩,e0.hok.fresh (Nat.le_refl _),fun y c h=>?_,fun p hp=>absurd (show p ∈ ([] : List (Addr × Obj)) from hp) (by simp),e0.hok.kept hk,?_⟩
 · exact name_of_addr x.apart (PySem.mem_of_lookup h1) (PySem.mem_of_lookup h2)
 · have hy : scope.names.lookup y = some .cell ∨ scope.names.lookup y = some .free:=hy
   rcases hy with hy | hy
   · exact cell_has hy
   · exact absurd rfl (S.nofree _ (PySem.mem_of_lookup hy))
 · exact Nat.le_of_lt (x.above y c (PySem.mem_of_lookup h))
 · have hi : i < vs.length:=by
    unfold start at h2
    by_cases hi : i < vs.length
    · exact hi
    · rw [List.getElem?_append_right (by simpa using hi)] at h2
      rw [List.getElem?_replicate] at h2
      split at h2 <;> cases h2
   have ha : vs[i]? = some v:=by
    unfold start at h2
    rw [List.getElem?_append_left (by simpa using hi),List.getElem?_map] at h2
    cases e : vs[i]? with
    | none=>rw [e] at h2; cases h2
    | some a=>rw [e] at h2; cases h2; rfl
   obtain ⟨u,hu,rv⟩:=r.get ha
   have hp : ps[i]? = some y:=by
    rw [← S.pre,List.getElem?_take_of_lt (by omega)]; exact h1
   have ndP : ps.Nodup:=by rw [← S.pre]; exact S.nd.sublist (List.take_sublist _ _)
   refine ⟨u,rv,?_⟩
   rcases S.par y (List.mem_of_getElem? hp) with k | k
   · exact .inl ⟨k,bindL_get ndP hp hu k⟩
   · obtain ⟨c,e⟩:=cell_has (n:=s.heap.objs.size + 1) k
     refine .inr ⟨.inl k,c,e,?_⟩
     have q:=x.cell y c e
     rw [bindC_get ndP hp hu (by show scope.names.lookup y ≠ _; rw [k]; decide)] at q
     exact q
 · exact e0.hok.fresh (Nat.le_of_lt (x.above y c (PySem.mem_of_lookup h)))
 · unfold start
   show _ = N.length
   rw [List.length_append,List.length_map,List.length_replicate]
   omega
theorem fn_of {CX : CXT} {P : Program} {w : World} {K : PySem.W.Frag} {mg : Str → Option Value} {base : Heap} {k : Nat} {f : Addr} {name qual : Str} {params : Arguments} {body : List Stmt} {scope : Scope} {dV kV doc pm cdv ct oc : Value} {an od : Option Addr}
 {osl : Array (Option Value)} {N ps : List Str} {sp : Sp} (lk : K.lookup f = some ⟨oc,od,.func (PySem.W.fnOf name qual params body scope dV kV doc pm an cdv ct),osl⟩) (hcd : PySem.W.codeIn K cdv qual = true) (S : FnScope N ps scope)
 (len : ∀ vs H Q E,sp vs H Q E → vs.length = ps.length)
 (hbody : ∀ (A : Around) (outer : List Env) (s : Shared) (H : Hp) (vs : List V) (Q : VK) (E : XK),Room k (A.deeper (envOfC qual scope s.heap.objs.size f cdv)) → sp vs H Q E →
   ∃ t,PSs (cxOf CX P w K mg base N qual scope f cdv A outer s H E) body t ∧ t { nx:=fun _ H'=>Q .non H',rt:=Q } (start N vs) H) :
 FnOk P w K mg base CX (k + 1) f (PySem.W.fnOf name qual params body scope dV kV doc pm an cdv ct) ps sp:=by
 refine ⟨len,fun A outer s H args us vs Q E hr e0 hb r hsp=>?_⟩
 have hl:=len _ _ _ _ hsp
 have KX : K.In s.heap:=e0.mod.kin.keeps fun b o e=>(e0.bs b o e).1
 have lim : s.heap.NoLimit:=e0.mod.nolimit.keeps fun b o e=>(e0.bs b o e).1
 have hkind : ∀ y ∈ ps.zip us,scope.names.lookup y.1 = some .local ∨ (scope.names.lookup y.1 = some .cell ∧ ((cellsFrom (s.heap.objs.size + 1) scope.names []).lookup y.1).isSome = true):=fun ⟨n,v⟩ hy=>by
  rcases S.par n (List.of_mem_zip hy).1 with q | q
  · exact .inl q
  · exact .inr ⟨q,PySem.W.cellsFrom_some _ _ _ (.inl q)⟩
 refine codeAny_call_function hr.depth (KX _ _ lk) rfl S.co S.gen rfl (PySem.W.codeRec_of KX hcd) (hb _ _ _ _ ?_)
 refine wpAny_newFunctionEnv_cells S.kind hkind fun env he s1 x=>?_
 subst he
 refine ⟨lim.keeps x.toInCall.keep,codeAny_func ?_⟩
 obtain ⟨t,ht,hq⟩:=hbody A outer s H vs Q E (hr.deeper _) hsp
 have I : Inv (cxOf CX P w K mg base N qual scope f cdv A outer s H E) [] (start N vs) H s1:=inv_start S hr.hd e0 hl r x
 refine wpAny_mono (ht [] s1 (start N vs) H _ I hq) (fun fl s' hs=>?_) fun e s' hs=>hs
 have fin : ∀ {σ' : St} {H' : Hp} {v : V} {u : Value},Inv (cxOf CX P w K mg base N qual scope f cdv A outer s H E) [] σ' H' s' → RelV v u → Q v H' → CE outer P w H s Q u s' :=
  fun {σ' H' v u} J rv q=>⟨v,H',J.os,J.bare,J.base,J.hok,rv,q⟩
 cases fl with
 | ret u =>
  obtain ⟨v,σ',H',J,rv,q⟩:=hs
  exact fin J rv q
 | next =>
  obtain ⟨σ',H',J,q⟩:=hs
  exact fin (v:=V.non) (u:=Value.none) J rfl q
 | brk =>
  obtain ⟨_,_,_,q⟩:=hs
  exact False.elim q
 | cont =>
  obtain ⟨_,_,_,q⟩:=hs
  exact False.elim q
end L2
namespace L2
open PySem PySem.Spec PyProof.Rows
section
variable {X : Cx} {x : Str} {p pos : Pos} {e : Expr} {es : List Expr} {t : TA} {id T : String} {r : List V → Hp → VK → Prop}
noncomputable def tCB (r : List V → Hp → VK → Prop) (t : TA) : TE:=fun σ H Q=>t σ H fun vs H1=>r vs H1 Q
theorem pe_callB (hc : CallR X (.builtin id) r) (hg : Gl X x) (hm : X.mg x = none) (hv : bootBuiltins x = some (.builtin id)) (ha : PA X (e :: es) t) (hn : x ≠ "__name__":=by decide) (hdb : (x == ("__debug__" : Str)) = false:=by decide)
 (he : starEach (e :: es) X.env = (false,eval e X.env) :: starEach es X.env:=by rfl) (hpl : (backTo pos (starEach es X.env)).any (·.1) = false:=by rfl) : PE X (.Call (.Name x p) (e :: es) [] pos) (tCB r t):=by
 intro pins s σ H Q I h
 refine wpAny_Call_Name_kw (ld_blt I hg hm hv ?_ hn hdb)
 exact PyProof.Rows.callWith_builtin1 (thn (ha pos pins s σ H _ I h) fun us s1 ⟨vs,H1,I1,r1,q1⟩=>hc pins s1 σ H1 vs us Q I1 r1 q1) he hpl
theorem pe_callTy (hc : CallR X (.type T) r) (hg : Gl X x) (hm : X.mg x = none) (hv : bootBuiltins x = some (.type T)) (ha : PA X (e :: es) t) (hn : x ≠ "__name__":=by decide) (hdb : (x == ("__debug__" : Str)) = false:=by decide)
 (he : starEach (e :: es) X.env = (false,eval e X.env) :: starEach es X.env:=by rfl) (hpl : (backTo pos (starEach es X.env)).any (·.1) = false:=by rfl) : PE X (.Call (.Name x p) (e :: es) [] pos) (tCB r t):=by
 intro pins s σ H Q I h
 refine wpAny_Call_Name_kw (ld_blt I hg hm hv ?_ hn hdb)
 exact PyProof.Rows.callWith_type1 (thn (ha pos pins s σ H _ I h) fun us s1 ⟨vs,H1,I1,r1,q1⟩=>hc pins s1 σ H1 vs us Q I1 r1 q1) he hpl
end
end L2
namespace HT
open PySem PyProof.Rows
section
open PySem.SeqAt
open PySem.AutoSeq1 (wpAny_loadPart')
open PySem.MeetsSeq PySem.MeetsSeq2 PySem.MeetsSeq3
end
section
variable {prog : Program} {w : World} {A : Around} {E : Value → Shared → Prop} {s : Shared}
theorem cat_tup {t b : Addr} {vs ws : List Value} {Q : Value → Shared → Prop} (ht : IsTup s.heap t vs.toArray) (hb : IsTup s.heap b ws.toArray) (hv : vs ≠ [])
 (h1 : ws = [] → Q (.ref t) s) (h2 : ws ≠ [] → Q (.ref s.heap.objs.size) { s with heap:=s.heap.push { cls:=.type "tuple",data:=.seq (vs ++ ws).toArray } })
 (hsz : vs.length + ws.length ≤ sizeLine) : wpAny (model prog w) A (binaryOp .Add (.ref t) (.ref b)) Q E s:=by
 obtain ⟨⟨cls,dd,data,sl⟩,ho,hc,n,hd⟩:=id ht
 obtain ⟨⟨cls2,dd2,data2,sl2⟩,ho2,hc2,n2,hd2⟩:=id hb
 simp only at hc hd hc2 hd2
 subst hc hd hc2 hd2
 have e : vs.toArray ++ ws.toArray = (vs ++ ws).toArray:=by simp
 by_cases hw : ws = []
 · exact concat_meets ⟨_,ho,rfl⟩ ⟨_,ho2,rfl⟩ noFill_tuple_add seq_tuple_add PySem.F.slot_tuple_add PySem.F.entry_tuple_add (PySem.F.args_tuple_add_2 _ _)
    (tuple_addW1 t b vs.toArray ws.toArray n n2 dd dd2 sl sl2 (by simpa using hv) (by simp [hw])) ⟨ho,ho2,h1 hw⟩
 · refine concat_meets ⟨_,ho,rfl⟩ ⟨_,ho2,rfl⟩ noFill_tuple_add seq_tuple_add PySem.F.slot_tuple_add PySem.F.entry_tuple_add (PySem.F.args_tuple_add_2 _ _)
    (tuple_addW2 t b vs.toArray ws.toArray n n2 dd dd2 sl sl2 (by simpa using hv) (by simpa using hw) (by rw [List.size_toArray,List.size_toArray]; exact hsz)) ⟨ho,ho2,?_⟩
   rw [e]
   exact h2 hw
noncomputable def sIx (n d : Nat) : Option Int → Nat
 | none=>d
 | some v=>if v < 0 then (v + (n : Int)).toNat else min v.toNat n
theorem sIx_nat (n d k : Nat) : sIx n d (some (k : Int)) = min k n:=by
 show (if (k : Int) < 0 then ((k : Int) + (n : Int)).toNat else min (k : Int).toNat n) = min k n
 rw [if_neg (by omega),Int.toNat_natCast]
theorem sIx_le (n d : Nat) (hd : d ≤ n) (o : Option Int) : sIx n d o ≤ n:=by
 cases o with
 | none=>exact hd
 | some v =>
  show (if v < 0 then (v + (n : Int)).toNat else min v.toNat n) ≤ n
  by_cases hv : v < 0
  · rw [if_pos hv]; omega
  · rw [if_neg hv]; exact Nat.min_le_right _ _
theorem clip_eq (v : Int) (n d : Nat) : (if v < 0 then max (v + (n : Int)) 0 else min v (n : Int)) = ((sIx n d (some v) : Nat) : Int):=by
 show (if v < 0 then max (v + (n : Int)) 0 else min v (n : Int)) = (((if v < 0 then (v + (n : Int)).toNat else min v.toNat n) : Nat) : Int)
 by_cases hv : v < 0
 · simp only [if_pos hv]; omega
 · simp only [if_neg hv]; omega
theorem adjust_gen (lo hi : Option Int) (n : Nat) : Builtin.Slice.sliceAdjust lo hi 1 (n : Int) = (((sIx n 0 lo : Nat) : Int),((sIx n n hi : Nat) : Int)):=by
 have h1 : ¬ ((1 : Int) < 0):=by omega
 unfold Builtin.Slice.sliceAdjust
 simp only [h1,if_false]
 refine Prod.ext ?_ ?_
 · cases lo with
   | none=>rfl
   | some v=>exact clip_eq v n 0
 · cases hi with
   | none=>rfl
   | some v=>exact clip_eq v n n
theorem places_gen (i j : Nat) : Builtin.Slice.slicePlaces (i : Int) (j : Int) 1 = j - i:=by
 unfold Builtin.Slice.slicePlaces
 have h1 : (1 : Int) > 0:=by omega
 simp only [h1,if_true,Int.ediv_one]
 split <;> omega
theorem slicePart_ {v : Value} {o : Option Int} {Q : Option Int → Shared → Prop} (p : IsPart v o) (h : Q o s) : wpAny (model prog w) A (Builtin.Slice.slicePartIndex v) Q E s:=by
 cases p with
 | none=>exact slicePart_none h
 | int i t=>exact slicePart_int h
theorem sliceApplied_gen {sl : Addr} {vl vu : Value} {lo hi : Option Int} {n : Nat} {Q : Int × Int × Nat → Shared → Prop} (hs : s.heap.IsSliceOf sl vl vu .none) (pl : IsPart vl lo) (pu : IsPart vu hi)
 (h : Q (((sIx n 0 lo : Nat) : Int),1,sIx n n hi - sIx n 0 lo) s) : wpAny (model prog w) A (Builtin.Slice.sliceApplied (.ref sl) (pure (n : Int))) Q E s:=by
 obtain ⟨os,hos,hcs,hds⟩:=id hs
 unfold Builtin.Slice.sliceApplied Builtin.Slice.sliceFields
 refine wpAny_bind (wpAny_bind (wpAny_field hos hds (x:=vl) rfl (wpAny_bind (wpAny_field hos hds (x:=vu) rfl (wpAny_bind (wpAny_field hos hds (x:=.none) rfl (wpAny_pure ?_)))))))
 refine wpAny_bind (slicePart_none ?_)
 show wpAny _ _ (if ((1 : Int) == 0) = true then _ else _) _ _ s
 rw [if_neg (by decide)]
 refine wpAny_bind (slicePart_ pl (wpAny_bind (slicePart_ pu (wpAny_bind (wpAny_pure ?_)))))
 show wpAny _ _ (match Builtin.Slice.sliceAdjust lo hi 1 (n : Int) with | (lo,hi)=>pure (lo,(1 : Int),Builtin.Slice.slicePlaces lo hi 1)) _ _ s
 rw [adjust_gen lo hi n]
 show wpAny _ _ (pure (((sIx n 0 lo : Nat) : Int),(1 : Int),Builtin.Slice.slicePlaces ((sIx n 0 lo : Nat) : Int) ((sIx n n hi : Nat) : Int) 1)) _ _ s
 rw [places_gen]
 exact wpAny_pure h
theorem pick_gen (xs : Array Value) (i k : Nat) : ((List.range k).filterMap fun (m : Nat)=>xs[((i : Int) + (m : Int) * 1).toNat]?).toArray = ((xs.toList.drop i).take k).toArray:=by
 have e : (fun (m : Nat)=>xs[((i : Int) + (m : Int) * 1).toNat]?) = fun m=>xs[i + m]?:=by
  funext m
  have : ((i : Int) + (m : Int) * 1).toNat = i + m:=by omega
  rw [this]
 rw [e]
 have:=pick_run xs i k
 rw [List.filterMap_map] at this
 have e2 : ((fun x=>xs[x]?) ∘ fun x=>i + x) = fun m=>xs[i + m]?:=rfl
 rw [e2] at this
 rw [this]
theorem getItem_tuple_cut {t sl : Addr} {items : Array Value} {vl vu : Value} {lo hi : Option Int} {Q : Value → Shared → Prop} (ht : IsTup s.heap t items) (hs : s.heap.IsSliceOf sl vl vu .none) (pl : IsPart vl lo) (pu : IsPart vu hi)
 (hw : ¬ (sIx items.size 0 lo = 0 ∧ sIx items.size items.size hi = items.size))
 (h : Q (.ref s.heap.objs.size) { s with heap:=s.heap.push { cls:=.type "tuple",data:=.seq ((items.toList.drop (sIx items.size 0 lo)).take (sIx items.size items.size hi - sIx items.size 0 lo)).toArray } })
 (hsz : items.size ≤ sizeLine) : wpAny (model prog w) A (getItem (.ref t) (.ref sl)) Q E s:=by
 have htake : sizeOk (.seq ((items.toList.drop (sIx items.size 0 lo)).take (sIx items.size items.size hi - sIx items.size 0 lo)).toArray):=by
  show ((items.toList.drop (sIx items.size 0 lo)).take (sIx items.size items.size hi - sIx items.size 0 lo)).toArray.size ≤ sizeLine
  rw [List.size_toArray,List.length_take,List.length_drop,Array.length_toList]
  omega
 have hj : sIx items.size items.size hi ≤ items.size:=sIx_le _ _ (Nat.le_refl _) hi
 obtain ⟨os,hos,hcs,hds⟩:=id hs
 have hTs : s.TypeIs (.ref sl) "slice":=⟨os,hos,hcs⟩
 unfold getItem
 try with_reducible refine wpAny_holding ?_
 first | refine wpAny_bind (wpAny_pure ?_) | skip
 refine wpAny_bind (wpAny_sequenceKey ht.typeIs (by decide) ?_)
 refine wpAny_bind (wpAny_callSpecial?_slot (name:=Str.ofString "__getitem__") ht.typeIs PyProof.Rows.slot_tuple_getitem
  (wpAny_call_entry PyProof.Rows.slot_tuple_getitem ht.typeIs entry_tuple_getitem ?_ (args_tuple_getitem _ _)))
 show wpAny _ _ (Builtin.Tuple.tupleItemsOf (.ref t) >>= _) _ _ s
 refine wpAny_bind (tupleItemsOf_ ht ?_)
 refine wpAny_bind (wpAny_typeOf hTs ?_)
 rw [if_pos (by decide)]
 refine wpAny_bind (sliceApplied_gen hs pl pu ?_)
 have hno : ¬ ((((sIx items.size 0 lo : Nat) : Int) == 0 && (1 : Int) == 1 && (sIx items.size items.size hi - sIx items.size 0 lo) == items.size) = true):=by
  intro q
  rw [Bool.and_eq_true,Bool.and_eq_true] at q
  have q1 : ((sIx items.size 0 lo : Nat) : Int) = 0:=eq_of_beq q.1.1
  have q2 : sIx items.size items.size hi - sIx items.size 0 lo = items.size:=eq_of_beq q.2
  exact hw ⟨by omega,by omega⟩
 show wpAny _ _ (if (((sIx items.size 0 lo : Nat) : Int) == 0 && (1 : Int) == 1 && (sIx items.size items.size hi - sIx items.size 0 lo) == items.size) = true then _ else _) _ _ s
 rw [if_neg hno,pick_gen]
 first
  | exact wpAny_bind (m:=Builtin.Tuple.tupleExact _) (wpAny_newObj_type (wpAny_pure ⟨_,rfl,wpAny_pure h⟩) htake)
  | exact wpAny_bind (m:=Builtin.Tuple.tupleExact _) (wpAny_newObj_type (wpAny_bind (wpAny_pure (wpAny_pure ⟨_,rfl,wpAny_pure h⟩))) htake)
  | exact wpAny_bind (wpAny_bind (m:=Builtin.Tuple.tupleExact _) (wpAny_newObj_type (wpAny_pure (wpAny_pure ⟨_,rfl,wpAny_pure h⟩)) htake))
  | exact wpAny_bind (wpAny_bind (m:=Builtin.Tuple.tupleExact _) (wpAny_newObj_type (wpAny_pure ⟨_,rfl,wpAny_pure h⟩) htake))
end
end HT
namespace L2
open PySem PySem.Spec PyProof.Rows
noncomputable abbrev TO:=St → Hp → (Option Int → Hp → Prop) → Prop
noncomputable def PO (X : Cx) (e : Option Expr) (t : TO) : Prop :=
 ∀ (pins : List (Addr × Obj)) (s : Shared) (σ : St) (H : Hp) (Q : Option Int → Hp → Prop),Inv X pins σ H s → t σ H Q →
  wpAny (model X.prog X.w) X.A (evalPart e X.env) (fun u s'=>∃ o H',Inv X pins σ H' s' ∧ IsPart u o ∧ Q o H') X.xe s
noncomputable def tNoPart : TO:=fun _ H Q=>Q none H
noncomputable def tPart (t : TE) : TO:=fun σ H Q=>t σ H fun x H1=>∃ i,x = .int i ∧ Q (some i) H1
section
variable {X : Cx} {e : Expr} {te : TE} {lo hi : Option Expr} {tl th : TO} {pos p2 : Pos}
theorem po_none : PO X none tNoPart:=by
 intro pins s σ H Q I h
 rw [evalPart_none]
 exact wpAny_pure ⟨none,H,I,.none,h⟩
theorem po_some (h : PE X e te) : PO X (some e) (tPart te):=by
 intro pins s σ H Q I hw
 rw [evalPart_some]
 refine thn (h pins s σ H _ I hw) fun u s1 ⟨x,H1,I1,r1,q1⟩=>?_
 obtain ⟨i,rfl,q⟩:=q1
 obtain ⟨t,rfl⟩:=r1
 exact ⟨some i,H1,I1,.int i t,q⟩
noncomputable def SlR (X : Cx) (r : V → Option Int → Option Int → Hp → VK → Prop) : Prop :=
 ∀ (pins : List (Addr × Obj)) (s : Shared) (σ : St) (H : Hp) (x : V) (v vl vu : Value) (lo hi : Option Int) (sl : Addr) (Q : VK),Inv X pins σ H s → RelV x v → s.heap.IsSliceOf sl vl vu .none → IsPart vl lo → IsPart vu hi → r x lo hi H Q →
  ∃ T id,typeLookup (.type T) "__getitem__" = pure (some (.builtin id)) ∧ s.TypeIs v T ∧ wpAny (model X.prog X.w) X.A (getItem v (.ref sl)) (EP X pins σ Q) X.xe s
theorem SlR.or {r r' : V → Option Int → Option Int → Hp → VK → Prop} (h : SlR X r) (h' : SlR X r') : SlR X (fun x lo hi H Q=>r x lo hi H Q ∨ r' x lo hi H Q):=by
 intro pins s σ H x v vl vu lo hi sl Q I rx hs pl pu q
 rcases q with q | q
 · exact h pins s σ H x v vl vu lo hi sl Q I rx hs pl pu q
 · exact h' pins s σ H x v vl vu lo hi sl Q I rx hs pl pu q
noncomputable def tSl (r : V → Option Int → Option Int → Hp → VK → Prop) (te : TE) (tl th : TO) : TE:=fun σ H Q=>te σ H fun x H1=>tl σ H1 fun l H2=>th σ H2 fun u H3=>r x l u H3 Q
theorem pe_slice {r : V → Option Int → Option Int → Hp → VK → Prop} (hr : SlR X r) (he : PE X e te) (hl : PO X lo tl) (hu : PO X hi th) : PE X (.Subscript e (.Slice lo hi none p2) pos) (tSl r te tl th):=by
 intro pins s σ H Q I h
 refine Subscript_ (thn (he pins s σ H _ I h) fun v s1 ⟨x,H1,I1,r1,q1⟩=>?_)
 refine wpAny_Slice (thn (hl pins s1 σ H1 _ I1 q1) fun vl s2 ⟨l,H2,I2,pl,q2⟩=>thn (hu pins s2 σ H2 _ I2 q2) fun vu s3 ⟨u,H3,I3,pu,q3⟩=>?_)
 rw [evalPart_none]
 refine wpAny_pure ?_
 have I4 : Inv X pins σ H3 { s3 with heap:=s3.heap.push { cls:=.type "slice",data:=.fields #[vl,vu,.none] } }:=I3.kept (t':=s3.toks) fun b ob q=>Heap.get?_push_of_some _ q
 obtain ⟨T,id,hT,ht,hg⟩:=hr pins { s3 with heap:=s3.heap.push { cls:=.type "slice",data:=.fields #[vl,vu,.none] } } σ H3 x v vl vu l u s3.heap.objs.size Q I4 r1 (Heap.IsSliceOf.new ..) pl pu q3
 show wpAny (model X.prog X.w) X.A (subscriptTail e (.Slice lo hi none p2) v (.ref s3.heap.objs.size)) (EP X pins σ Q) X.xe { s3 with heap:=s3.heap.push { cls:=.type "slice",data:=.fields #[vl,vu,.none] } }
 exact tail_any (ops:=[.ref s3.heap.objs.size,v]) ht hT hg (by with_unfolding_all rfl)
noncomputable def cutV (xs : List V) (lo hi : Option Int) : List V:=(xs.drop (HT.sIx xs.length 0 lo)).take (HT.sIx xs.length xs.length hi - HT.sIx xs.length 0 lo)
theorem cutV_length (xs : List V) (lo hi : Option Int) : (cutV xs lo hi).length ≤ xs.length:=by
 unfold cutV
 rw [List.length_take,List.length_drop]
 omega
noncomputable def rSlT (K : PySem.W.Frag) : V → Option Int → Option Int → Hp → VK → Prop:=fun x lo hi H Q=>∃ a xs,x = .ref a ∧ SqT K H a xs ∧
 ¬ (HT.sIx xs.length 0 lo = 0 ∧ HT.sIx xs.length xs.length hi = xs.length) ∧ ∀ p,H p = none → Q (.ref p) (upd H p (.tup (cutV xs lo hi)))
theorem sl_tup : SlR X (rSlT X.K):=by
 intro pins s σ H x v vl vu lo hi sl Q I rx hs pl pu h
 obtain ⟨a,xs,rfl,hx,hw,q⟩:=h
 cases rx
 obtain ⟨its,r,ht,hz⟩:=I.tuple hx
 have hlen : its.toArray.size = xs.length:=by rw [List.size_toArray]; exact r.length.symm
 refine ⟨"tuple",_,PyProof.Rows.slot_tuple_getitem.lookup,ht.typeIs,?_⟩
 refine HT.getItem_tuple_cut ht hs pl pu (by rw [hlen]; exact hw) ?_ (by rw [hlen]; exact hz)
 rw [hlen]
 refine ⟨.ref s.heap.objs.size,_,I.laid (t':=s.toks) (o:=.tup (cutV xs lo hi)) (fun b ob q=>Heap.get?_push_of_some _ q) (Nat.le_refl _) ?_,rfl,q _ (I.hok.fresh (Nat.le_refl _))⟩
 exact ⟨Nat.le_trans (cutV_length xs lo hi) hz,_,(r.drop (HT.sIx xs.length 0 lo)).take (HT.sIx xs.length xs.length hi - HT.sIx xs.length 0 lo),IsTup.new _ _⟩
noncomputable def rCatT (K : PySem.W.Frag) : R2:=fun x y H Q=>∃ a b xs ys,x = .ref a ∧ y = .ref b ∧ SqT K H a xs ∧ SqT K H b ys ∧ xs ≠ [] ∧ xs.length + ys.length ≤ sizeLine ∧
 (ys = [] → Q (.ref a) H) ∧ (ys ≠ [] → ∀ p,H p = none → Q (.ref p) (upd H p (.tup (xs ++ ys))))
theorem Vals.nil_iff {xs : List V} {us : List Value} (r : Vals xs us) : us = [] ↔ xs = []:=by
 cases r with
 | nil=>simp
 | cons _ _=>simp
theorem op_catT : OpR X (binaryOp .Add) (rCatT X.K):=by
 intro pins s σ H x y v u Q I rx ry h
 obtain ⟨a,b,xs,ys,rfl,rfl,ha,hb,hx,hz,q1,q2⟩:=h
 cases rx
 cases ry
 obtain ⟨its,r1,p1,_⟩:=I.tuple ha
 obtain ⟨its2,r2,p2,_⟩:=I.tuple hb
 refine HT.cat_tup p1 p2 (fun z=>hx (r1.nil_iff.mp z)) (fun z=>⟨.ref a,H,I,rfl,q1 (r2.nil_iff.mp z)⟩) (fun z=>?_) (by rw [← r1.length,← r2.length]; exact hz)
 refine ⟨.ref s.heap.objs.size,_,I.laid (t':=s.toks) (o:=.tup (xs ++ ys)) (fun b ob q=>Heap.get?_push_of_some _ q) (Nat.le_refl _) ?_,rfl,q2 (fun w=>z (r2.nil_iff.mpr w)) _ (I.hok.fresh (Nat.le_refl _))⟩
 exact ⟨by rw [List.length_append]; exact hz,_,r1.append r2,IsTup.new _ _⟩
end
end L2
namespace L2
open PySem PySem.Spec PyProof.Rows
noncomputable def ixN (n : Nat) (i : Int) : Option Nat:=if 0 ≤ i then (if i < n then some i.toNat else none) else if -(n : Int) ≤ i then some (i + n).toNat else none
noncomputable def atI {α : Type} (xs : List α) (i : Int) : Option α:=(ixN xs.length i).bind fun j=>xs[j]?
theorem ixN_seq {n : Nat} {i : Int} {j : Nat} (h : ixN n i = some j) : seqIndex? i n = some j ∧ j < n ∧ -(n : Int) ≤ i ∧ i < n:=by
 unfold ixN at h
 by_cases h0 : 0 ≤ i
 · rw [if_pos h0] at h
   by_cases h1 : i < n
   · rw [if_pos h1] at h
     have e : i.toNat = j:=Option.some.inj h
     exact ⟨by rw [seqIndex_of h0 h1,e],by omega,by omega,h1⟩
   · rw [if_neg h1] at h; cases h
 · rw [if_neg h0] at h
   by_cases h1 : -(n : Int) ≤ i
   · rw [if_pos h1] at h
     have e : (i + n).toNat = j:=Option.some.inj h
     exact ⟨by rw [seqIndex_neg (by omega) h1,e],by omega,h1,by omega⟩
   · rw [if_neg h1] at h; cases h
theorem atI_get {α : Type} {xs : List α} {i : Int} {v : α} (h : atI xs i = some v) : ∃ j,seqIndex? i xs.length = some j ∧ xs[j]? = some v ∧ j < xs.length ∧ -(xs.length : Int) ≤ i ∧ i < xs.length:=by
 unfold atI at h
 cases e : ixN xs.length i with
 | none=>rw [e] at h; cases h
 | some j =>
  rw [e] at h
  obtain ⟨h1,h2,h3,h4⟩:=ixN_seq e
  exact ⟨j,h1,h,h2,h3,h4⟩
theorem atI_nat {α : Type} {xs : List α} {j : Nat} {v : α} (h : xs[j]? = some v) : atI xs (j : Int) = some v:=by
 have hj : j < xs.length:=(List.getElem?_eq_some_iff.mp h).1
 have e : ixN xs.length (j : Int) = some j:=by
  unfold ixN
  rw [if_pos (by omega),if_pos (by omega)]; simp
 unfold atI; rw [e]; exact h
theorem atI_last {α : Type} (xs : List α) (v : α) : atI (xs ++ [v]) (-1) = some v:=by
 have hl : (xs ++ [v]).length = xs.length + 1:=by simp
 have e : ixN (xs ++ [v]).length (-1) = some xs.length:=by
  unfold ixN
  rw [hl,if_neg (by decide),if_pos (by omega)]
  congr 1
  omega
 unfold atI
 rw [e]
 show (xs ++ [v])[xs.length]? = some v
 simp
noncomputable def PlainIx (b : Expr) : Prop:=∀ o i,subscripted b false o i = operate [o,i] (getItem o i)
noncomputable def IxR (X : Cx) (r : R2) : Prop :=
 ∀ (value slice : Expr) (pins : List (Addr × Obj)) (s : Shared) (σ : St) (H : Hp) (x y : V) (v u : Value) (Q : VK),Inv X pins σ H s → RelV x v → RelV y u → r x y H Q →
  subscripted slice false v u = operate [v,u] (getItem v u) → wpAny (model X.prog X.w) X.A (subscriptTail value slice v u) (EP X pins σ Q) X.xe s
noncomputable def MtR (X : Cx) (id : String) (r : V → List V → Hp → VK → Prop) : Prop :=
 ∀ (pins : List (Addr × Obj)) (s : Shared) (σ : St) (H : Hp) (x : V) (xs : List V) (v : Value) (us : List Value) (Q : VK),Inv X pins σ H s → RelV x v → Vals xs us → r x xs H Q →
  wpAny (model X.prog X.w) X.A (call (.builtin id) (v :: us)) (EP X pins σ Q) X.xe s
section
variable {X : Cx} {a b : Expr} {ta tb : TE} {pos : Pos}
theorem IxR.or {r r' : R2} (h : IxR X r) (h' : IxR X r') : IxR X (fun x y H Q=>r x y H Q ∨ r' x y H Q):=by
 intro value slice pins s σ H x y v u Q I rx ry q hs
 rcases q with q | q
 · exact h value slice pins s σ H x y v u Q I rx ry q hs
 · exact h' value slice pins s σ H x y v u Q I rx ry q hs
theorem MtR.or {id : String} {r r' : V → List V → Hp → VK → Prop} (h : MtR X id r) (h' : MtR X id r') : MtR X id (fun x xs H Q=>r x xs H Q ∨ r' x xs H Q):=by
 intro pins s σ H x xs v us Q I rx rs q
 rcases q with q | q
 · exact h pins s σ H x xs v us Q I rx rs q
 · exact h' pins s σ H x xs v us Q I rx rs q
theorem pe_ix {r : R2} (hr : IxR X r) (ha : PE X a ta) (hb : PE X b tb) (hs : PlainIx b) : PE X (.Subscript a b pos) (tOp r ta tb):=by
 intro pins s σ H Q I h
 exact Subscript_ (binT ha hb I h fun v u s2 x y H2 I2 rx ry q=>hr a b pins s2 σ H2 x y v u Q I2 rx ry q (hs _ _))
noncomputable def rIxL (K : PySem.W.Frag) : R2:=fun x y H Q=>∃ p xs i v,x = .ref p ∧ y = .int i ∧ SqL K H p xs ∧ atI xs i = some v ∧ Q v H
noncomputable def rIxT (K : PySem.W.Frag) : R2:=fun x y H Q=>∃ p xs i v,x = .ref p ∧ y = .int i ∧ SqT K H p xs ∧ atI xs i = some v ∧ Q v H
noncomputable def rIxS : R2:=fun x y H Q=>∃ z i c,x = .str z ∧ y = .int i ∧ z.length ≤ sizeLine ∧ atI z.cps.toList i = some c ∧ Q (.str ⟨#[c]⟩) H
theorem ix_list : IxR X (rIxL X.K):=by
 intro value slice pins s σ H x y v u Q I rx ry h hs
 obtain ⟨p,xs,i,z,rfl,rfl,hq,he,q⟩:=h
 cases rx
 obtain ⟨t,rfl⟩:=ry
 obtain ⟨its,r,pl,hz⟩:=I.list hq
 obtain ⟨j,h1,h2,h3,h4,h5⟩:=atI_get he
 obtain ⟨w,ew,rw'⟩:=r.get h2
 have hl:=r.length
 have hn:=line63
 have fin : EP X pins σ Q w s:=⟨z,H,I,rw',q⟩
 by_cases h0 : 0 ≤ i
 · have hj : i.toNat = j:=by
    rw [seqIndex_of h0 h5] at h1
    exact Option.some.inj h1
   exact item_listR pl.isList h0 (by omega) (by rw [hj]; simpa using ew) fin hs
 · have hj : (i + (its.toArray.size : Int)).toNat = j:=by
    rw [seqIndex_neg (by omega) h4] at h1
    rw [List.size_toArray,← hl]
    exact Option.some.inj h1
   exact subscriptTail_builtinR (x:=w) pl.isList.typeIs slot_list_getitem.lookup
    (wpAny_getItem_list_neg (Q:=fun r s'=>r = w ∧ EP X pins σ Q r s') pl.isList (by omega) (by rw [List.size_toArray] <;> omega) (by omega) (by rw [hj]; simpa using ew) ⟨rfl,fin⟩) hs
theorem ix_tup : IxR X (rIxT X.K):=by
 intro value slice pins s σ H x y v u Q I rx ry h hs
 obtain ⟨p,xs,i,z,rfl,rfl,hq,he,q⟩:=h
 cases rx
 obtain ⟨t,rfl⟩:=ry
 obtain ⟨its,r,pl,hz⟩:=I.tuple hq
 obtain ⟨j,h1,h2,h3,h4,h5⟩:=atI_get he
 obtain ⟨w,ew,rw'⟩:=r.get h2
 have hl:=r.length
 have hn:=line63
 have fin : EP X pins σ Q w s:=⟨z,H,I,rw',q⟩
 exact subscriptTail_builtinR (x:=w) pl.typeIs slot_tuple_getitem.lookup
  (getItem_tuple (j:=j) (Q:=fun r s'=>r = w ∧ EP X pins σ Q r s') pl (by omega) (by omega) (by rw [List.size_toArray,← hl]; exact h1) (by simpa using ew) ⟨rfl,fin⟩) hs
theorem ix_str : IxR X rIxS:=by
 intro value slice pins s σ H x y v u Q I rx ry h hs
 obtain ⟨z,i,c,rfl,rfl,hz,he,q⟩:=h
 obtain ⟨t,rfl⟩:=rx
 obtain ⟨t',rfl⟩:=ry
 obtain ⟨j,h1,h2,h3,h4,h5⟩:=atI_get he
 have hl : z.cps.toList.length = z.length:=by simp [Str.length]
 rw [hl] at h1 h4 h5
 have hn:=line63
 exact tail_any (typeIs_str s z t) slot_str_getitem.lookup (getItem_str (c:=c) (by
  have e1 : decide (i < -(2 ^ 63 : Int)) = false:=decide_eq_false (by omega)
  have e2 : decide (i ≥ 2 ^ 63) = false:=decide_eq_false (by omega)
  rw [e1,e2,Bool.or_false]) (by rw [h1]; simpa using h2) ⟨.str ⟨#[c]⟩,H,I.tok _,⟨_,rfl⟩,q⟩) hs
theorem mapSeq_set (its : List Value) (n j : Nat) (u : Value) : Obj.mapSeq (·.setIfInBounds j u) { cls:=.type "list",data:=.seq its.toArray n } = { cls:=.type "list",data:=.seq (its.set j u).toArray n }:=by
 simp [Obj.mapSeq]
theorem Inv.lst {pins : List (Addr × Obj)} {σ : St} {H : Hp} {s : Shared} {p : Addr} {xs : List V} (I : Inv X pins σ H s) (h : H p = some (.lst xs)) :
 ∃ (its : List Value) (n : Nat),Vals xs its ∧ s.heap.get? p = some { cls:=.type "list",data:=.seq its.toArray n } ∧ xs.length ≤ sizeLine:=by
 obtain ⟨z,its,n,r,e⟩:=I.hok p _ h
 exact ⟨its,n,r,e,z⟩
theorem Inv.lstUpd {pins : List (Addr × Obj)} {σ : St} {H : Hp} {s : Shared} {p : Addr} {xs ys : List V} {its its' : List Value} {n n' : Nat} {f : Obj → Obj} (I : Inv X pins σ H s) (h : H p = some (.lst xs))
 (ho : s.heap.get? p = some { cls:=.type "list",data:=.seq its.toArray n }) (hf : f { cls:=.type "list",data:=.seq its.toArray n } = { cls:=.type "list",data:=.seq its'.toArray n' }) (r : Vals ys its') (hz : ys.length ≤ sizeLine) (t : Nat) :
 Inv X pins σ (upd H p (.lst ys)) { s with heap:=s.heap.update p f,toks:=t }:=by
 have e : (s.heap.update p f).get? p = some { cls:=.type "list",data:=.seq its'.toArray n' }:=by
  rw [Heap.get?_update_self f ho (by rw [hf] <;> rfl),hf]
 refine I.write (x:=p) (e:=p) (by rw [h]; trivial) (.inl rfl) (fun b u hb q=>(Heap.get?_update_other _ _ (Ne.symm hb)).trans q) ⟨_,e⟩ ?_
 exact ⟨hz,its',n',r,e⟩
noncomputable def rSetL : V → V → V → Hp → (Hp → Prop) → Prop:=fun o i v H Q=>∃ p xs k j,o = .ref p ∧ i = .int k ∧ H p = some (.lst xs) ∧ ixN xs.length k = some j ∧ Q (upd H p (.lst (xs.set j v)))
theorem set_list : PSet X rSetL:=by
 intro pins s σ H o i v ov iv u Q I ro ri rv h
 obtain ⟨p,xs,k,j,rfl,rfl,hp,hj,q⟩:=h
 cases ro
 obtain ⟨t,rfl⟩:=ri
 obtain ⟨its,n,r,ho,hz⟩:=I.lst hp
 obtain ⟨h1,h2,h3,h4⟩:=ixN_seq hj
 have hl:=r.length
 have hn:=line63
 have I' : Inv X pins σ (upd H p (.lst (xs.set j v))) { s with heap:=s.heap.update p (Obj.mapSeq (·.setIfInBounds j u)) } :=
  I.lstUpd hp ho (mapSeq_set its n j u) (r.set rv j) (by rw [List.length_set]; exact hz) s.toks
 by_cases h0 : 0 ≤ k
 · have hk : k.toNat = j:=by
    rw [seqIndex_of h0 h4] at h1
    exact Option.some.inj h1
   exact PySem.W.ki_setAt ho h0 (by omega) (by rw [List.size_toArray,← hl]; exact h4) (by rw [hk]; exact ⟨_,I',q⟩)
 · have hk : (k + (its.toArray.size : Int)).toNat = j:=by
    rw [seqIndex_neg (by omega) h3] at h1
    rw [List.size_toArray,← hl]
    exact Option.some.inj h1
   exact PySem.W.ki_setBack ho (by omega) (by rw [List.size_toArray,← hl]; exact h3) (by omega) (by rw [hk]; exact ⟨_,I',q⟩)
theorem slice_bounds (lo hi : Option Int) (n : Nat) : (sliceBounds lo hi none n).1 = ((HT.sIx n 0 lo : Nat) : Int) ∧ (sliceBounds lo hi none n).2.1 = ((HT.sIx n n hi : Nat) : Int) ∧ (sliceBounds lo hi none n).2.2 = 1:=by
 refine ⟨?_,?_,rfl⟩
 · cases lo with
   | none=>simp [sliceBounds,HT.sIx]
   | some i =>
    simp only [sliceBounds,HT.sIx,Option.getD_none,show (1 : Int) > 0 by decide,if_true]
    by_cases h : i < 0
    · simp only [h,if_true] <;> omega
    · simp only [h,if_false] <;> omega
 · cases hi with
   | none=>simp [sliceBounds,HT.sIx]
   | some i =>
    simp only [sliceBounds,HT.sIx,Option.getD_none,show (1 : Int) > 0 by decide,if_true]
    by_cases h : i < 0
    · simp only [h,if_true] <;> omega
    · simp only [h,if_false] <;> omega
theorem slicePick_cut (its : List Value) (lo hi : Option Int) : slicePick its.toArray lo hi none = ((its.drop (HT.sIx its.length 0 lo)).take (HT.sIx its.length its.length hi - HT.sIx its.length 0 lo)).toArray:=by
 obtain ⟨h1,h2,h3⟩:=slice_bounds lo hi its.toArray.size
 unfold slicePick
 rw [h1,h2,h3]
 simp only [sliceRange_one,pick_run,List.size_toArray] <;> rfl
noncomputable def rSlL (K : PySem.W.Frag) : V → Option Int → Option Int → Hp → VK → Prop:=fun x lo hi H Q=>∃ a xs,x = .ref a ∧ SqL K H a xs ∧ ∀ p,H p = none → Q (.ref p) (upd H p (.lst (cutV xs lo hi)))
theorem sl_list : SlR X (rSlL X.K):=by
 intro pins s σ H x v vl vu lo hi sl Q I rx hs pl pu h
 obtain ⟨a,xs,rfl,hx,q⟩:=h
 cases rx
 obtain ⟨its,r,ht,hz⟩:=I.list hx
 have hlen:=r.length
 refine ⟨"list",_,slot_list_getitem.lookup,ht.isList.typeIs,?_⟩
 refine wpAny_getItem_list_slice ht.isList hs pl pu .none (by simp) ?_ (by rw [List.size_toArray] <;> omega)
 rw [slicePick_cut,← hlen]
 refine ⟨.ref s.heap.objs.size,_,I.laid (t':=s.toks) (o:=.lst (cutV xs lo hi)) (fun b ob q=>Heap.get?_push_of_some _ q) (Nat.le_refl _) ?_,rfl,q _ (I.hok.fresh (Nat.le_refl _))⟩
 exact ⟨Nat.le_trans (cutV_length xs lo hi) hz,_,0,(r.drop (HT.sIx xs.length 0 lo)).take (HT.sIx xs.length xs.length hi - HT.sIx xs.length 0 lo),Heap.get?_push_size _ rfl⟩
theorem call_len_seq : CallR X (.builtin "len") (fun xs H Q=>∃ p ys,xs = [.ref p] ∧ (SqL X.K H p ys ∨ SqT X.K H p ys) ∧ Q (.int ys.length) H):=by
 intro pins s σ H xs us Q I r h
 obtain ⟨p,ys,rfl,hq,q⟩:=h
 obtain ⟨u,rfl,rx⟩:=vals1 r
 cases rx
 have hn:=line63
 rcases hq with hq | hq
 · obtain ⟨its,r',pl,hz⟩:=I.list hq
   have hlen:=r'.length
   exact Calls.call_len_list pl.isList (by simp only [List.size_toArray] <;> omega) ⟨.int ys.length,H,I.tok _,⟨s.toks + 1,by rw [List.size_toArray,hlen]⟩,q⟩
 · obtain ⟨its,r',pl,hz⟩:=I.tuple hq
   have hlen:=r'.length
   exact len_tuple pl (by simp only [List.size_toArray] <;> omega) ⟨.int ys.length,H,I.tok _,⟨s.toks + 1,by rw [List.size_toArray,hlen]⟩,q⟩
theorem CallR.or {f : Value} {r r' : List V → Hp → VK → Prop} (h : CallR X f r) (h' : CallR X f r') : CallR X f (fun xs H Q=>r xs H Q ∨ r' xs H Q):=by
 intro pins s σ H xs us Q I rs q
 rcases q with q | q
 · exact h pins s σ H xs us Q I rs q
 · exact h' pins s σ H xs us Q I rs q
theorem call_list_of : CallR X (.type "list") (fun xs H Q=>∃ p ys,xs = [.ref p] ∧ (SqL X.K H p ys ∨ SqT X.K H p ys) ∧ ∀ l,H l = none → Q (.ref l) (upd H l (.lst ys))):=by
 intro pins s σ H xs us Q I r h
 obtain ⟨p,ys,rfl,hq,q⟩:=h
 obtain ⟨u,rfl,rx⟩:=vals1 r
 cases rx
 have fin : ∀ (its : List Value),Vals ys its → ys.length ≤ sizeLine → ∀ (h' : Heap) (c' : Nat),(∀ b o',s.heap.get? b = some o' → h'.get? b = some o') →
  h'.get? s.heap.objs.size = some { cls:=.type "list",dict:=none,data:=.seq its.toArray c',slots:=#[] } → EP X pins σ Q (.ref s.heap.objs.size) { s with heap:=h' }:=fun its r' hz h' c' kp e =>
  ⟨.ref s.heap.objs.size,_,I.laid (t':=s.toks) kp (Nat.le_refl _) (show ObjOk X.prog X.w _ h' _ (.lst ys) from ⟨hz,its,c',r',e⟩),rfl,q _ (I.hok.fresh (Nat.le_refl _))⟩
 rcases hq with hq | hq
 · obtain ⟨its,r',pl,hz⟩:=I.list hq
   have hlen:=r'.length
   obtain ⟨o,ho,hc,n,hd⟩:=pl.isList
   exact call_list_seq p (.inl rfl) ho hc hd (fun h' c' kp e=>fin its r' hz h' c' kp e) (by simp only [List.size_toArray] <;> omega)
 · obtain ⟨its,r',pl,hz⟩:=I.tuple hq
   have hlen:=r'.length
   obtain ⟨o,ho,hc,n,hd⟩:=pl
   exact call_list_seq p (.inr rfl) ho hc hd (fun h' c' kp e=>fin its r' hz h' c' kp e) (by simp only [List.size_toArray] <;> omega)
noncomputable def tyV (K : PySem.W.Frag) (T : String) (x : V) (H : Hp) : Prop:=match x with
 | .str _=>T = "str"
 | .int _=>T = "int"
 | .ref p=>(T = "list" ∧ ∃ xs,SqL K H p xs) ∨ (T = "tuple" ∧ ∃ o,K.lookup p = some o ∧ o.cls = .type "tuple" ∧ o.dict = none) ∨
  (T = "dict" ∧ ((∃ kvs,H p = some (.dK kvs)) ∨ ∃ kvs,H p = some (.dT kvs))) ∨ (T = "set" ∧ ∃ S n,H p = some (.set S n))
 | _=>False
theorem tyV_is {pins : List (Addr × Obj)} {σ : St} {H : Hp} {s : Shared} {T : String} {x : V} {v : Value} (I : Inv X pins σ H s) (r : RelV x v) (ty : tyV X.K T x H) :
 s.TypeIs v T ∧ ∀ a,v = .ref a → ∃ ob,s.heap.get? a = some ob ∧ ob.dict = none:=by
 cases x with
 | str z =>
  obtain ⟨t,rfl⟩:=r
  cases (show T = "str" from ty)
  exact ⟨typeIs_str s z t,fun _ e=>nomatch e⟩
 | int i =>
  obtain ⟨t,rfl⟩:=r
  cases (show T = "int" from ty)
  exact ⟨typeIs_int s i t,fun _ e=>nomatch e⟩
 | ref p =>
  cases r
  rcases ty with ⟨rfl,xs,hq⟩ | ⟨rfl,o,hk,hc,hd⟩ | ⟨rfl,hk⟩ | ⟨rfl,S,n,hk⟩
  · obtain ⟨its,_,pl,_⟩:=I.list hq
    refine ⟨pl.isList.typeIs,fun a e=>?_⟩
    cases e
    obtain ⟨o,n,e,c,hd,_⟩:=pl
    exact ⟨o,e,hd⟩
  · refine ⟨⟨o,I.kIn p o hk,hc⟩,fun a e=>?_⟩
    cases e
    exact ⟨o,I.kIn _ o hk,hd⟩
  · have z : ∃ o,s.heap.get? p = some o ∧ o.ExactDict:=by
     rcases hk with ⟨kvs,hk⟩ | ⟨kvs,hk⟩
     · obtain ⟨_,_,_,_,o,_,_,e,ex,_⟩:=I.hok p _ hk
       exact ⟨o,e,ex⟩
     · obtain ⟨_,_,_,_,o,_,_,e,ex,_⟩:=I.hok p _ hk
       exact ⟨o,e,ex⟩
    obtain ⟨o,e,ex⟩:=z
    refine ⟨⟨o,e,ex.1⟩,fun a e2=>?_⟩
    cases e2
    exact ⟨o,e,ex.2.1⟩
  · obtain ⟨o,_,_,_,e,ex,_⟩:=I.hok p _ hk
    refine ⟨⟨o,e,ex.1⟩,fun a e2=>?_⟩
    cases e2
    exact ⟨o,e,ex.2.1⟩
 | _=>exact False.elim ty
noncomputable def tBM (K : PySem.W.Frag) (T : String) (r : V → List V → Hp → VK → Prop) (to : TE) (t : TA) : TE:=fun σ H Q=>to σ H fun x H1=>tyV K T x H1 ∧ t σ H1 fun xs H2=>r x xs H2 Q
variable {o e : Expr} {es : List Expr} {to : TE} {t : TA} {name : Str} {apos cpos : Pos} {T id : String} {r : V → List V → Hp → VK → Prop}
theorem pe_bm (pa : PlainAttrs T) (slot : Slot T name id) (hty : typeOf (.builtin id) = pure (.type "method_descriptor")) (hm : MtR X id r) (ho : PE X o to) (ha : PA X (e :: es) t)
 (hbase : attributeBase o name X.env (eval o X.env) = eval o X.env:=by rfl)
 (hfew : ((backTo cpos (starEach (e :: es) X.env)).all (fun x=>!x.1) && (backToKw cpos (keywordEach [] X.env)).all (fun x=>x.1.isSome)
   && decide ((e :: es).length + ([] : List Keyword).length + (if ([] : List Keyword).isEmpty then 0 else 1) < 30)) = true:=by rfl)
 (hline : (apos.endLine == cpos.line) = true:=by rfl) (hs : starEach (e :: es) X.env = (false,eval e X.env) :: starEach es X.env:=by rfl) (hplain : (backTo cpos (starEach es X.env)).any (·.1) = false:=by rfl) :
 PE X (.Call (.Attribute o name apos) (e :: es) [] cpos) (tBM X.K T r to t):=by
 intro pins s σ H Q I h
 refine wpAny_Call_method_late hbase hfew hline rfl (thn (ho pins s σ H _ I h) fun v s1 ⟨x,H1,I1,r1,ty,q1⟩=>?_)
 obtain ⟨h1,h2⟩:=tyV_is I1 r1 ty
 refine ⟨T,id,pa,slot,hty,h1,h2,?_⟩
 have hA:=ha cpos pins s1 σ H1 _ I1 q1
 rw [hs] at hA ⊢
 refine Calls.callWith_builtin (by show (false || (backTo cpos (starEach es X.env)).any (·.1)) = false; rw [hplain] <;> rfl) (Calls.evalArgs_plain ?_)
 exact thn hA fun us s2 ⟨vs,H2,I2,r2,q2⟩=>hm pins s2 σ H2 x vs v us Q I2 r1 r2 q2
/- xs.append(e),list.index on a module's tuple .. are MtR facts of 06m -/
end
end L2
namespace L2
open PySem PySem.Spec PyProof.Rows
noncomputable def MtM (X : Cx) (id : String) (r : V → List V → Hp → VK → Prop) : Prop :=
 ∀ (pins : List (Addr × Obj)) (s : Shared) (σ : St) (H : Hp) (x : V) (xs : List V) (v : Value) (us : List Value) (Q : VK),Inv X pins σ H s → RelV x v → Vals xs us → r x xs H Q →
  wpAny (model X.prog X.w) X.A (call (.builtin id) (v :: us)) (EP X pins σ Q) X.xe s
theorem Vals.one : ∀ {x : V} {us : List Value},Vals [x] us → ∃ u,us = [u] ∧ RelV x u
 | _,_,.cons r .nil=>⟨_,rfl,r⟩
theorem Vals.two : ∀ {x y : V} {us : List Value},Vals [x,y] us → ∃ u v,us = [u,v] ∧ RelV x u ∧ RelV y v
 | _,_,_,.cons r (.cons q .nil)=>⟨_,_,rfl,r,q⟩
theorem Vals.zero : ∀ {us : List Value},Vals [] us → us = []
 | _,.nil=>rfl
theorem Vals.dropLast {xs : List V} {us : List Value} (h : Vals xs us) : Vals xs.dropLast us.dropLast:=by
 induction h with
 | nil=>exact .nil
 | cons r t ih =>
  cases t with
  | nil=>exact .nil
  | cons q t'=>exact .cons r ih
theorem Vals.eraseIdx : ∀ {xs : List V} {us : List Value} (i : Nat),Vals xs us → Vals (xs.eraseIdx i) (us.eraseIdx i)
 | _,_,_,.nil=>.nil
 | _,_,0,.cons _ t=>t
 | _,_,i + 1,.cons r t=>.cons r (Vals.eraseIdx i t)
theorem Vals.reverse {xs : List V} {us : List Value} (h : Vals xs us) : Vals xs.reverse us.reverse:=by
 induction h with
 | nil=>exact .nil
 | cons r t ih=>rw [List.reverse_cons,List.reverse_cons]; exact Vals.append ih (.cons r .nil)
theorem Vals.rep {xs : List V} {us : List Value} (h : Vals xs us) : ∀ k : Nat,Vals (List.replicate k xs).flatten (List.replicate k us).flatten
 | 0=>.nil
 | k + 1=>by
  rw [List.replicate_succ,List.replicate_succ,List.flatten_cons,List.flatten_cons]
  exact Vals.append h (Vals.rep h k)
theorem foldl_rep (its : List Value) : ∀ (k : Nat) (acc : List Value),
 List.foldl (fun x1 x2=>x1 ++ x2) acc.toArray (List.replicate k its.toArray) = (acc ++ (List.replicate k its).flatten).toArray
 | 0,acc=>by simp
 | k + 1,acc=>by
  have e : acc.toArray ++ its.toArray = (acc ++ its).toArray:=by simp
  have e2 : (acc ++ its) ++ (List.replicate k its).flatten = acc ++ (List.replicate (k + 1) its).flatten:=by
   rw [List.replicate_succ,List.flatten_cons,List.append_assoc]
  rw [← e2,← foldl_rep its k (acc ++ its),← e,List.replicate_succ,List.foldl_cons]
section
variable {X : Cx} {pins : List (Addr × Obj)} {σ : St} {H : Hp} {s : Shared} {l b : Addr} {xs ys zs : List V}
theorem Inv.lset {its its' : List Value} {n : Nat} {f : Array Value → Array Value} {t' : Nat} (I : Inv X pins σ H s) (hH : H l = some (.lst xs))
 (e : s.heap.get? l = some { cls:=.type "list",data:=.seq its.toArray n }) (hf : f its.toArray = its'.toArray) (hv : Vals ys its') (hz : ys.length ≤ sizeLine) :
 Inv X pins σ (upd H l (.lst ys)) { s with heap:=s.heap.update l (Obj.mapSeq f),toks:=t' }:=by
 have q:=PySem.IsL.update e f
 rw [hf] at q
 refine I.write (x:=l) (e:=l) (by rw [hH]; exact trivial) (.inl rfl) (fun b' u hb hu=>(Heap.get?_update_other s.heap (Obj.mapSeq f) (Ne.symm hb)).trans hu) ⟨_,q⟩ ?_
 exact ⟨hz,its',_,hv,q⟩
theorem Inv.lnew {its : List Value} {t' : Nat} (I : Inv X pins σ H s) (hv : Vals ys its) (hz : ys.length ≤ sizeLine) :
 Inv X pins σ (upd H s.heap.objs.size (.lst ys)) { s with heap:=s.heap.push { cls:=.type "list",data:=.seq its.toArray },toks:=t' } :=
 I.laid (fun _ _ q=>Heap.get?_push_of_some _ q) (Nat.le_refl _) ⟨hz,its,0,hv,Heap.get?_push_size _ rfl⟩
theorem Inv.fresh (I : Inv X pins σ H s) : H s.heap.objs.size = none:=I.hok.fresh (Nat.le_refl _)
theorem Inv.lstM (I : Inv X pins σ H s) (hH : H l = some (.lst xs)) : xs.length ≤ sizeLine ∧ ∃ (its : List Value) (n : Nat),Vals xs its ∧ xs.length = its.length ∧ s.heap.get? l = some { cls:=.type "list",data:=.seq its.toArray n }:=by
 obtain ⟨z,its,n,r,e⟩:=I.hok l _ hH
 exact ⟨z,its,n,r,r.length,e⟩
theorem notLongL {n : Nat} (h : n ≤ sizeLine) : Builtin.List.listTooLong n = false:=by
 unfold Builtin.List.listTooLong
 exact decide_eq_false (by omega)
end
section
variable {X : Cx}
noncomputable def rAppend : V → List V → Hp → VK → Prop:=fun x vs H Q=>∃ l xs y,x = .ref l ∧ vs = [y] ∧ H l = some (.lst xs) ∧ xs.length < sizeLine ∧ Q .non (upd H l (.lst (xs ++ [y])))
theorem mt_append : MtM X "list.append" rAppend:=by
 intro pins s σ H x vs v us Q I rx rv h
 obtain ⟨l,xs,y,rfl,rfl,hH,hz,q⟩:=h
 cases rx
 obtain ⟨u,rfl,ru⟩:=rv.one
 obtain ⟨z,its,n,r,hl,e⟩:=I.lstM hH
 refine call_meets F.slot_list_append ⟨_,e,rfl⟩ F.entry_list_append (F.args_list_append_2 _ _) (PySem.list_append l its.toArray n u (by rw [List.size_toArray]; omega)) ⟨e,?_⟩
 refine ⟨.non,_,I.lset (its':=its ++ [u]) hH e (by simp) (r.append (.cons ru .nil)) ?_,rfl,q⟩
 rw [List.length_append,List.length_singleton]
 omega
noncomputable def rExtend : V → List V → Hp → VK → Prop:=fun x vs H Q=>∃ l b xs zs,x = .ref l ∧ vs = [.ref b] ∧ H l = some (.lst xs) ∧ H b = some (.lst zs) ∧ xs.length + zs.length ≤ sizeLine ∧ Q .non (upd H l (.lst (xs ++ zs)))
theorem mt_extend : MtM X "list.extend" rExtend:=by
 intro pins s σ H x vs v us Q I rx rv h
 obtain ⟨l,b,xs,zs,rfl,rfl,hH,hB,hz,q⟩:=h
 cases rx
 obtain ⟨u,rfl,ru⟩:=rv.one
 cases ru
 obtain ⟨z,its,n,r,hl,e⟩:=I.lstM hH
 obtain ⟨z2,its2,n2,r2,hl2,e2⟩:=I.lstM hB
 have hsz : its.toArray.size + its2.toArray.size ≤ sizeLine:=by rw [List.size_toArray,List.size_toArray]; omega
 have hlong : ¬ (!its.toArray.isEmpty && Builtin.List.listTooLong (its.toArray.size + its2.toArray.size)) = true:=by
  rw [notLongL hsz,Bool.and_false]
  exact Bool.false_ne_true
 refine call_meets F.slot_list_extend ⟨_,e,rfl⟩ F.entry_list_extend (F.args_list_extend_2 _ _)
  (AutoSeq1.list_extend_list_list_0 l its.toArray n b its2.toArray n2 hlong (by rw [List.size_toArray]; omega) (by omega)) ⟨e,e2,?_⟩
 refine ⟨.non,_,I.lset (its':=its ++ its2) hH e (by simp) (r.append r2) ?_,rfl,q⟩
 rw [List.length_append]
 omega
noncomputable def rCat : R2:=fun x y H Q=>∃ l b xs zs,x = .ref l ∧ y = .ref b ∧ H l = some (.lst xs) ∧ H b = some (.lst zs) ∧ xs.length + zs.length ≤ sizeLine ∧ ∀ p,H p = none → Q (.ref p) (upd H p (.lst (xs ++ zs)))
theorem op_cat : OpR X (binaryOp .Add) rCat:=by
 intro pins s σ H x y v u Q I rx ry h
 obtain ⟨l,b,xs,zs,rfl,rfl,hH,hB,hz,q⟩:=h
 cases rx
 cases ry
 obtain ⟨z,its,n,r,hl,e⟩:=I.lstM hH
 obtain ⟨z2,its2,n2,r2,hl2,e2⟩:=I.lstM hB
 refine PySem.P.add_list e e2 ?_ (by rw [List.size_toArray,List.size_toArray]; omega)
 have ea : its.toArray ++ its2.toArray = (its ++ its2).toArray:=by simp
 rw [ea]
 exact ⟨.ref _,_,I.lnew (t':=s.toks) (r.append r2) (by rw [List.length_append]; omega),rfl,q _ I.fresh⟩
noncomputable def rRep : R2:=fun x y H Q=>∃ l k xs,x = .ref l ∧ y = .int k ∧ H l = some (.lst xs) ∧ -(2 ^ 63) ≤ k ∧ k < 2 ^ 63 ∧ xs.length * k.toNat ≤ sizeLine ∧
 ∀ p,H p = none → Q (.ref p) (upd H p (.lst (List.replicate k.toNat xs).flatten))
theorem len_rep {α : Type} (xs : List α) (k : Nat) : (List.replicate k xs).flatten.length = k * xs.length:=by
 induction k with
 | zero=>simp
 | succ k ih=>rw [List.replicate_succ,List.flatten_cons,List.length_append,ih,Nat.succ_mul,Nat.add_comm]
theorem op_rep : OpR X (binaryOp .Mult) rRep:=by
 intro pins s σ H x y v u Q I rx ry h
 obtain ⟨l,k,xs,rfl,rfl,hH,h1,h2,hz,q⟩:=h
 cases rx
 obtain ⟨t,rfl⟩:=ry
 obtain ⟨z,its,n,r,hl,e⟩:=I.lstM hH
 have hlen : its.toArray.size * k.toNat ≤ sizeLine:=by rw [List.size_toArray,← hl]; exact hz
 have hcap : ¬ its.toArray.size * k.toNat > (2 ^ 63 - 1) / 8:=by
  have : (sizeLine : Nat) ≤ (2 ^ 63 - 1) / 8:=by decide
  omega
 have hfit : ¬ (!Builtin.List.listFitsIndex k) = true:=by
  rw [fitsIndex_both h1 h2]
  exact Bool.false_ne_true
 have hlong : ¬ Builtin.List.listTooLong (its.toArray.size * k.toNat) = true:=by
  rw [notLongL hlen]
  exact Bool.false_ne_true
 have hnew : List.foldl (fun x1 x2=>x1 ++ x2) #[] (List.replicate (if its.toArray.isEmpty = true then 0 else k.toNat) its.toArray) = (List.replicate k.toNat its).flatten.toArray:=by
  have f0 : ∀ m : Nat,List.foldl (fun x1 x2=>x1 ++ x2) #[] (List.replicate m its.toArray) = (List.replicate m its).flatten.toArray:=fun m=>by
   have:=foldl_rep its m []
   rw [List.nil_append] at this
   exact this
  rw [f0]
  cases its with
  | nil=>simp
  | cons a r'=>rw [if_neg (by simp)]
 refine wpAny_binaryOp_repeat_ref (T:="list") (U:="int") (by decide) ⟨_,e,rfl⟩ (fun s'=>typeIs_int s' k t) noFill_list_mul F.fills_int_mul F.slot_int_rmul repeat_list F.slot_int_index.lookup
  (call_meets F.slot_int_rmul (typeIs_int s k t) F.entry_int_rmul (F.args_int_rmul_2 _ _) (int___rmul___int_list k t l its.toArray n)
    ⟨e,rfl,⟨_,e,rfl⟩,call_meets F.slot_list_mul ⟨_,e,rfl⟩ F.entry_list_mul (F.args_list_mul_2 _ _) (AutoListH.list___mul___list_int_3 l its.toArray n k t hfit hcap hlong) ⟨e,?_⟩⟩)
 rw [hnew]
 exact ⟨.ref _,_,I.lnew (t':=s.toks) (r.rep k.toNat) (by rw [len_rep,Nat.mul_comm]; exact hz),rfl,q _ I.fresh⟩
end
section
variable {prog : Program} {w : World} {A : Around} {E : Value → Shared → Prop} {s : Shared}
set_option maxRecDepth 100000 in
end
section
variable {X : Cx}
end
end L2
namespace L2
open PySem PySem.Spec PyProof.Rows
section
variable {κ : Type} [DecidableEq κ]
noncomputable def valV (kvs : List (κ × V)) (k : κ) : Option V:=(kvs.find? fun kv=>decide (kv.1 = k)).map (·.2)
noncomputable def putK (kvs : List (κ × V)) (k : κ) (v : V) : List (κ × V) :=
 if (kvs.any fun kv=>decide (kv.1 = k)) = true then kvs.map (fun kv=>if kv.1 = k then (kv.1,v) else kv) else kvs ++ [(k,v)]
noncomputable def dropK (kvs : List (κ × V)) (k : κ) : List (κ × V):=kvs.filter fun kv=>decide (kv.1 ≠ k)
theorem valV_pos {p : κ × V} {r : List (κ × V)} {k : κ} (e : p.1 = k) : valV (p :: r) k = some p.2:=by simp [valV,List.find?_cons,e]
theorem valV_neg {p : κ × V} {r : List (κ × V)} {k : κ} (e : ¬ p.1 = k) : valV (p :: r) k = valV r k:=by simp [valV,List.find?_cons,e]
theorem valV_any (k : κ) : ∀ kvs : List (κ × V),(kvs.any fun kv=>decide (kv.1 = k)) = (valV kvs k).isSome
 | []=>rfl
 | p :: r=>by
  rw [List.any_cons]
  by_cases e : p.1 = k
  · simp only [valV_pos e,decide_eq_true e,Bool.true_or,Option.isSome_some]
  · rw [valV_neg e,decide_eq_false e,Bool.false_or]; exact valV_any k r
theorem RelO.isSome_eq {o : Option V} {u : Option Value} (r : RelO o u) : o.isSome = u.isSome:=by
 cases o with
 | none=>cases u with
  | none=>rfl
  | some _=>exact (show False from r).elim
 | some _=>cases u with
  | none=>exact (show False from r).elim
  | some _=>rfl
theorem RelO.getD {o : Option V} {u : Option Value} {d : V} {d' : Value} (r : RelO o u) (rd : RelV d d') : RelV (o.getD d) (u.getD d'):=by
 cases o with
 | none=>cases u with
  | none=>exact rd
  | some _=>exact (show False from r).elim
 | some _=>cases u with
  | none=>exact (show False from r).elim
  | some _=>exact r
theorem KV.val {kvs : List (κ × V)} {vs : List (κ × Value)} (r : KV kvs vs) (k : κ) : RelO (valV kvs k) (valueAt vs k):=by
 unfold KV at r
 induction r with
 | nil=>exact True.intro
 | @cons p q ps qs h t ih =>
  obtain ⟨h1,h2⟩:=h
  by_cases e : p.1 = k
  · have e' : q.1 = k:=h1.symm.trans e
    have b : valueAt (q :: qs) k = some q.2:=by simp [valueAt,List.find?_cons,e']
    rw [valV_pos e,b]; exact h2
  · have e' : ¬ q.1 = k:=fun z=>e (h1.trans z)
    have b : valueAt (q :: qs) k = valueAt qs k:=by simp [valueAt,List.find?_cons,e']
    rw [valV_neg e,b]; exact ih
theorem KV.any {kvs : List (κ × V)} {vs : List (κ × Value)} (r : KV kvs vs) (k : κ) : (kvs.any fun kv=>decide (kv.1 = k)) = vs.any fun kv=>decide (kv.1 = k):=by
 unfold KV at r
 induction r with
 | nil=>rfl
 | cons h t ih=>rw [List.any_cons,List.any_cons,ih,h.1]
theorem KV.repl {kvs : List (κ × V)} {vs : List (κ × Value)} (r : KV kvs vs) (k : κ) {y : V} {u : Value} (ry : RelV y u) :
 KV (kvs.map fun kv=>if kv.1 = k then (kv.1,y) else kv) (vs.map fun kv=>if kv.1 = k then (kv.1,u) else kv):=by
 unfold KV at r ⊢
 induction r with
 | nil=>exact .nil
 | @cons p q ps qs h t ih =>
  rw [List.map_cons,List.map_cons]
  refine .cons ?_ ih
  obtain ⟨h1,h2⟩:=h
  by_cases e : p.1 = k
  · rw [if_pos e,if_pos (h1.symm.trans e)]; exact ⟨h1,ry⟩
  · rw [if_neg e,if_neg (fun z=>e (h1.trans z))]; exact ⟨h1,h2⟩
theorem KV.put {kvs : List (κ × V)} {vs : List (κ × Value)} (r : KV kvs vs) (k : κ) {y : V} {u : Value} (ry : RelV y u) : KV (putK kvs k y) (stored vs k u):=by
 unfold putK stored
 rw [r.any k]
 by_cases e : (vs.any fun kv=>decide (kv.1 = k)) = true
 · rw [if_pos e,if_pos e]; exact r.repl k ry
 · rw [if_neg e,if_neg e]; exact Paired.snoc r ⟨rfl,ry⟩
theorem KV.drop {kvs : List (κ × V)} {vs : List (κ × Value)} (r : KV kvs vs) (k : κ) : KV (dropK kvs k) (without vs k):=by
 unfold KV at r ⊢
 unfold dropK without
 induction r with
 | nil=>exact .nil
 | @cons p q ps qs h t ih =>
  obtain ⟨h1,h2⟩:=h
  rw [List.filter_cons,List.filter_cons]
  by_cases e : p.1 = k
  · have a : ¬ decide (p.1 ≠ k) = true:=by simp [e]
    have b : ¬ decide (q.1 ≠ k) = true:=by simp [h1.symm.trans e]
    rw [if_neg a,if_neg b]; exact ih
  · have e' : ¬ q.1 = k:=fun z=>e (h1.trans z)
    have a : decide (p.1 ≠ k) = true:=by simp [e]
    have b : decide (q.1 ≠ k) = true:=by simp [e']
    rw [if_pos a,if_pos b]; exact .cons ⟨h1,h2⟩ ih
theorem KV.keys {kvs : List (κ × V)} {vs : List (κ × Value)} (r : KV kvs vs) : kvs.map (·.1) = vs.map (·.1):=by
 unfold KV at r
 induction r with
 | nil=>rfl
 | cons h t ih=>rw [List.map_cons,List.map_cons,ih,h.1]
theorem KV.length {kvs : List (κ × V)} {vs : List (κ × Value)} (r : KV kvs vs) : kvs.length = vs.length:=Paired.length r
end
noncomputable abbrev KT (H : Hp) : List (List Key × V) → List (List Key × Addr × Value) → Prop:=Paired fun p q=>p.1 = q.1 ∧ H q.2.1 = some (.tup (p.1.map kV)) ∧ RelV p.2 q.2.2
theorem KT.val {H : Hp} {kvs : List (List Key × V)} {xs : List (List Key × Addr × Value)} (r : KT H kvs xs) (k : List Key) : RelO (valV kvs k) ((atKey xs k).map (·.2)):=by
 induction r with
 | nil=>exact True.intro
 | @cons p q ps qs h t ih =>
  obtain ⟨h1,_,h2⟩:=h
  by_cases e : p.1 = k
  · have e' : q.1 = k:=h1.symm.trans e
    have b : atKey (q :: qs) k = some q.2:=by simp [atKey,List.find?_cons,e']
    rw [valV_pos e,b]; exact h2
  · have e' : ¬ q.1 = k:=fun z=>e (h1.trans z)
    have b : atKey (q :: qs) k = atKey qs k:=by simp [atKey,List.find?_cons,e']
    rw [valV_neg e,b]; exact ih
theorem KT.repl {H : Hp} {kvs : List (List Key × V)} {xs : List (List Key × Addr × Value)} (r : KT H kvs xs) (k : List Key) {y : V} {u : Value} (ry : RelV y u) :
 KT H (kvs.map fun kv=>if kv.1 = k then (kv.1,y) else kv) (xs.map (putAt k u)):=by
 induction r with
 | nil=>exact .nil
 | @cons p q ps qs h t ih =>
  rw [List.map_cons,List.map_cons]
  refine .cons ?_ ih
  obtain ⟨h1,h2,h3⟩:=h
  unfold putAt
  by_cases e : p.1 = k
  · rw [if_pos e,if_pos (h1.symm.trans e)]; exact ⟨h1,h2,ry⟩
  · rw [if_neg e,if_neg (fun z=>e (h1.trans z))]; exact ⟨h1,h2,h3⟩
theorem KT.put {H : Hp} {kvs : List (List Key × V)} {xs : List (List Key × Addr × Value)} (r : KT H kvs xs) (k : List Key) {b : Addr} {y : V} {u : Value} (hb : H b = some (.tup (k.map kV))) (ry : RelV y u) :
 KT H (putK kvs k y) (storedH xs k b u):=by
 have e : (kvs.any fun kv=>decide (kv.1 = k)) = (atKey xs k).isSome:=by
  rw [valV_any,(r.val k).isSome_eq,Option.isSome_map]
 unfold putK storedH
 rw [e]
 by_cases q : (atKey xs k).isSome = true
 · rw [if_pos q,if_pos q]; exact r.repl k ry
 · rw [if_neg q,if_neg q]; exact Paired.snoc r ⟨rfl,hb,ry⟩
theorem KT.keeps {H H' : Hp} {kvs : List (List Key × V)} {xs : List (List Key × Addr × Value)} (r : KT H kvs xs) (ht : ∀ b ys,H b = some (.tup ys) → H' b = some (.tup ys)) : KT H' kvs xs :=
 Paired.mapP r fun _ _ z=>⟨z.1,ht _ _ z.2.1,z.2.2⟩
section
variable {P : Program} {w : World} {H : Hp} {h : Heap} {a : Addr}
end
noncomputable def DGet (H : Hp) (a : Addr) (y : V) (r : Option V) : Prop :=
 (∃ kvs k,Rd H a (.dK kvs) ∧ y = kV k ∧ r = valV kvs k) ∨ ∃ kvs k b,Rd H a (.dT kvs) ∧ y = .ref b ∧ H b = some (.tup (k.map kV)) ∧ r = valV kvs k
noncomputable def DPut (H : Hp) (a : Addr) (y v : V) (H' : Hp) : Prop :=
 (∃ kvs k,H a = some (.dK kvs) ∧ y = kV k ∧ kvs.length < sizeLine ∧ H' = upd H a (.dK (putK kvs k v))) ∨
 ∃ kvs k b,H a = some (.dT kvs) ∧ y = .ref b ∧ H b = some (.tup (k.map kV)) ∧ kvs.length < sizeLine ∧ H' = upd H a (.dT (putK kvs k v))
theorem DGet.k {H : Hp} {a : Addr} {kvs : List (Key × V)} {k : Key} (e : H a = some (.dK kvs)) : DGet H a (kV k) (valV kvs k):=.inl ⟨kvs,k,.inl e,rfl,rfl⟩
theorem DGet.t {H : Hp} {a b : Addr} {kvs : List (List Key × V)} {k : List Key} (e : H a = some (.dT kvs)) (eb : H b = some (.tup (k.map kV))) : DGet H a (.ref b) (valV kvs k):=.inr ⟨kvs,k,b,.inl e,rfl,eb,rfl⟩
theorem DPut.k {H : Hp} {a : Addr} {kvs : List (Key × V)} {k : Key} {v : V} (e : H a = some (.dK kvs)) (hl : kvs.length < sizeLine) : DPut H a (kV k) v (upd H a (.dK (putK kvs k v))):=.inl ⟨kvs,k,e,rfl,hl,rfl⟩
theorem DPut.t {H : Hp} {a b : Addr} {kvs : List (List Key × V)} {k : List Key} {v : V} (e : H a = some (.dT kvs)) (eb : H b = some (.tup (k.map kV))) (hl : kvs.length < sizeLine) :
 DPut H a (.ref b) v (upd H a (.dT (putK kvs k v))):=.inr ⟨kvs,k,b,e,rfl,eb,hl,rfl⟩
section
variable {X : Cx} {pins : List (Addr × Obj)} {σ : St} {H : Hp} {s : Shared} {a : Addr} {y v : V} {u r : Value} {o : Option V} {A : Around} {E : Value → Shared → Prop}
end
section
variable {X : Cx} {pins : List (Addr × Obj)} {σ : St} {H : Hp} {s : Shared} {a : Addr} {kvs : List (Key × V)} {k : Key} {u : Value} {A : Around} {E : Value → Shared → Prop}
end
section
variable {X : Cx} {o i e value : Expr} {pos pos' tpos : Pos} {td ty tv : TE}
end
section
variable {X : Cx} {pos : Pos}
end
noncomputable abbrev VV : List (V × V) → List (Value × Value) → Prop:=Paired fun p q=>RelV p.1 q.1 ∧ RelV p.2 q.2
noncomputable def mergeK (kvs more : List (Key × V)) : List (Key × V):=more.foldl (fun acc kv=>putK acc kv.1 kv.2) kvs
theorem KV.merge : ∀ {more : List (Key × V)} {rs : List (Key × Value)} {kvs : List (Key × V)} {vs : List (Key × Value)},KV more rs → KV kvs vs → KV (mergeK kvs more) (merged vs rs):=by
 intro more rs kvs vs r
 unfold KV at r
 induction r generalizing kvs vs with
 | nil=>intro q; exact q
 | @cons p q ps qs h t ih =>
  intro r0
  have e : KV (putK kvs p.1 p.2) (stored vs q.1 q.2):=by
   have:=r0.put p.1 h.2
   rw [← h.1]; exact this
  exact ih e
structure M1 (X : Cx) (o : Expr) (m : Str) (apos : Pos) (e : Expr) (cpos : Pos) : Prop where
 base : attributeBase o m X.env (eval o X.env) = eval o X.env
 few : ((backTo cpos (starEach [e] X.env)).all (fun x=>!x.1) && (backToKw cpos (keywordEach [] X.env)).all (fun x=>x.1.isSome)
  && decide (([e] : List Expr).length + ([] : List Keyword).length + (if ([] : List Keyword).isEmpty then 0 else 1) < 30)) = true
 line : (apos.endLine == cpos.line) = true
 trees : backTo cpos (starEach [e] X.env) = [(false,eval e X.env)]
structure M2 (X : Cx) (o : Expr) (m : Str) (apos : Pos) (e f : Expr) (cpos : Pos) : Prop where
 base : attributeBase o m X.env (eval o X.env) = eval o X.env
 few : ((backTo cpos (starEach [e,f] X.env)).all (fun x=>!x.1) && (backToKw cpos (keywordEach [] X.env)).all (fun x=>x.1.isSome)
  && decide (([e,f] : List Expr).length + ([] : List Keyword).length + (if ([] : List Keyword).isEmpty then 0 else 1) < 30)) = true
 line : (apos.endLine == cpos.line) = true
 trees : backTo cpos (starEach [e,f] X.env) = [(false,eval e X.env),(false,eval f X.env)]
section
variable {X : Cx} {pins : List (Addr × Obj)} {σ : St} {H : Hp} {s : Shared} {a : Addr} {y d : V} {u r : Value} {o : Option V} {A : Around} {E : Value → Shared → Prop}
end
section
variable {X : Cx} {o e f : Expr} {apos cpos : Pos} {td ty tx : TE}
end
section
variable {X : Cx} {pins : List (Addr × Obj)} {σ : St} {H : Hp} {s : Shared} {a : Addr} {kvs : List (Key × V)} {A : Around} {E : Value → Shared → Prop}
end
section
variable {X : Cx} {pins : List (Addr × Obj)} {σ : St} {H : Hp} {s : Shared} {a : Addr} {y : V} {u : Value} {A : Around} {E : Value → Shared → Prop}
end
end L2
namespace Att
open PySem PySem.W PySem.Calls PyProof.Rows
theorem ints_of_wellAll {P : Params} {h : Heap} : ∀ (ns : List Int) (vs : List Value),WellAll P h vs (ns.map WData.int) → IntsAre vs ns:=by
 intro ns
 induction ns with
 | nil =>
  intro vs w
  rw [List.map_nil] at w
  cases w
  exact .nil
 | cons n ns ih =>
  intro vs w
  rw [List.map_cons] at w
  cases w with
  | cons a b =>
   cases a
   exact .cons _ _ (ih _ b)
theorem script_of {l : OpenLaw} {n : Nat} (hn : l.most = some n) {P : Params} {h : Heap} {args : List WData} {vals : List Value}
 (hpre : l.row.toRowW.claim.pre args = true) (hwl : WellAll P h vals args) :
 ∃ a vs ns,vals = [Value.ref a] ∧ args = [WData.list (ns.map WData.int)] ∧ h.get? a = some { cls:=.type "list",data:=.seq vs.toArray } ∧ IntsAre vs ns ∧ ns.length ≤ n:=by
 have hsh : WShape.hasAll [] args [.list .int] = true:=(pre_splitW hpre).1
 have hc : l.pre.holds [] { args:=args } = true:=(pre_splitW hpre).2
 obtain ⟨d,r,rfl,h1,h2⟩:=hasAllW_cons hsh
 obtain rfl:=hasAllW_nil h2
 obtain ⟨xs,rfl,h3⟩:=hasW_list h1
 obtain ⟨ns,rfl⟩:=items_int h3
 have hlen : ns.length ≤ n:=by
  unfold OpenLaw.pre at hc
  have h4 : (WTm.not (.lt (.lit (.int (n : Int))) (.len (.arg 0)))).holds [] { args:=[.list (ns.map .int)] } = true:=by
   have h4:=(holds_andW hc).1
   rw [hn] at h4
   exact h4
  have h5:=condW_of h4 (w_not (w_lt w_lit (w_len_list (w_arg rfl))))
  rw [List.length_map] at h5
  refine Nat.le_of_not_lt fun q=>?_
  have q' : (n : Int) < ((ns.length : Nat) : Int):=by omega
  first
   | (rw [decide_eq_true q'] at h5; exact absurd h5 (by decide))
   | (simp at h5; omega)
 cases hwl with
 | cons w1 w2 =>
  cases w2
  cases w1 with
  | list ho hall=>exact ⟨_,_,ns,rfl,rfl,ho,ints_of_wellAll ns _ hall,hlen⟩
theorem post_true (l : OpenLaw) (args : List WData) : l.row.toRowW.claim.post args (.bool true) args = true :=
 postW_of (r:=l.row.toRowW) (X:=(true == true))
  (show WShape.has [] (.bool true) .bool = true by first | rfl | decide | simp [WShape.has,WShape.arms,WShape.armsAll])
  (show (WTm.eq .res (.lit (.bool true))).value [] { args:=args,res:=some (.bool true),after:=args } = some (.bool (true == true)) from w_eq_bool (w_res rfl) w_lit) rfl
theorem attach_call {l : OpenLaw} {n : Nat} {q : Program} {loose : List Str} {XP : (Str → Option Value) → Heap → Prop} {YP : World → Heap → Prop} {d : DefRec}
 (hn : l.most = some n) (hdf : d.params.defaults = [])
 (call : ∀ (w : World) (s₀ s₁ : Shared) (mg mb : Str → Option Value) (fa : Addr) (o : Obj) (pm cd doc : Value) (a : Addr) (vs : List Value) (ns : List Int),
   Ground q loose [] XP w s₀ mg mb s₁.heap → YP w s₁.heap →
   s₁.heap.get? fa = some o → o.data = .func (docDef d.name d.params d.body d.scope pm cd doc) → s₁.heap.CodeRec cd d.name → mg d.name = some (.ref fa) →
   s₁.heap.get? a = some { cls:=.type "list",data:=.seq vs.toArray } → IntsAre vs ns → ns.length ≤ n → s₁.gens = #[] →
   codeAny (model l.prog w) callerA (.call (.ref fa) ⟨[.ref a],[]⟩) (fun r s'=>r = .ok (.ret (.bool true)) ∧ OldK s₁.heap s'.heap ∧ s'.os = s₁.os ∧ AllBare s'.gens) s₁) :
 WalkO q loose XP YP l.row.toRowW d [] (fun f vs=>PySem.call f vs):=by
 intro w s₀ s₁ mg mb G Y fa o pm cd doc dV kV ho hd hcd hD hmg hg args vals as hpre hlay hrd hwl hlo
 obtain rfl : dV = .none:=Dflts.none hD hdf
 obtain rfl : kV = .none:=Dflts.noKw hD
 obtain ⟨a,vs,ns,rfl,rfl,hobj,hints,hlen⟩:=script_of hn hpre hwl
 refine enter_call (codeAny_mono (call w s₀ s₁ mg mb fa o pm cd doc a vs ns G Y ho (fd_plain hd) hcd hmg hobj hints hlen hg) fun r s' hq=>?_)
 obtain ⟨rfl,h2,h3,h4⟩:=hq
 exact ⟨.inl ⟨.bool true,.bool true,[],rfl,fun _=>rfl,.bool true,post_true l _,fun _=>⟨List.Pairwise.nil,fun _ hm=>(nomatch hm)⟩⟩,h2,h3,h4⟩
section
variable {prog : Program} {w : World} {A : Around} {E : Value → Shared → Prop} {s : Shared} {K : Frag}
noncomputable def ledger (h : Heap) (L d : Addr) : List (Addr × Obj):=(List.range h.objs.size).filterMap fun a=>if a = L ∨ a = d then none else (h.get? a).map fun o=>(a,o)
end
end Att
namespace L2
open PySem PySem.Spec PyProof.Rows
theorem vals_ints : ∀ {vs : List Value} {ns : List Int},IntsAre vs ns → Vals (ns.map V.int) vs
 | _,_,.nil=>.nil
 | _,_,.cons n t h=>.cons ⟨t,rfl⟩ (vals_ints h)
noncomputable def Only (H : Hp) : Prop:=∀ b,H b = none ∨ ∃ o xs,H b = some (.frz o (.lst xs))
theorem law_call {P : Program} {w : World} {K : PySem.W.Frag} {mg mb : Str → Option Value} {CX : CXT} {k : Nat} {fa a : Addr} {fd : FuncData} {x : Str} {sp : Sp} {s₁ : Shared} {vs : List Value} {ns : List Int}
 (KX : K.In s₁.heap) (hns : s₁.heap.Ns mainGlobals mg) (hb : s₁.heap.Ns builtinsNs mb) (hbb : ∀ x : Str,x ≠ "__name__" → mb x = bootBuiltins x) (hlim : s₁.heap.NoLimit) (hg : s₁.gens = #[])
 (ha : s₁.heap.get? a = some { cls:=.type "list",data:=.seq vs.toArray }) (hi : IntsAre vs ns) (hl : ns.length ≤ sizeLine) (hr : Room k callerA)
 (F : ∀ base : Heap,K.In base → base.Ns mainGlobals mg → FnOk P w K mg base CX k fa fd [x] sp) (hbind : ∀ (s : Shared) (u : Value),BindsTo s fd ⟨[u],[]⟩ [(x,u)])
 (hsp : ∀ H : Hp,Only H → SqL K H a (ns.map V.int) → sp [.ref a] H (fun v _=>v = .bl true) fun _ _ _=>False)
 (hCX : ∀ H e s',CX [] H s₁ (fun _ _ _=>False) e s' → False) :
 codeAny (model P w) callerA (.call (.ref fa) ⟨[.ref a],[]⟩) (fun r s'=>r = .ok (.ret (.bool true)) ∧ OldK s₁.heap s'.heap ∧ s'.os = s₁.os ∧ AllBare s'.gens) s₁:=by
 have rv:=vals_ints hi
 have lenV:=hi.length
 have core : ∀ H : Hp,Only H → SqL K H a (ns.map V.int) → HOk P w H s₁.heap → (∀ b,H b ≠ none → b = a) → (H a ≠ none → K.lookup a = none) →
  codeAny (model P w) callerA (.call (.ref fa) ⟨[.ref a],[]⟩) (fun r s'=>r = .ok (.ret (.bool true)) ∧ OldK s₁.heap s'.heap ∧ s'.os = s₁.os ∧ AllBare s'.gens) s₁:=by
  intro H hO hS hok hA hK
  have base_of : ∀ {b : Addr} {o : Obj},s₁.heap.get? b = some o → H b = none → (hidT s₁.heap H).get? b = some o:=fun e n=>hidT_get e n
  have noA : ∀ {b : Addr} {o : Obj} {es : Array DictEntry} {ep : Nat},s₁.heap.get? b = some o → o.data = .dict es ep → H b = none:=fun {b o es ep} e d=>by
   cases q : H b with
   | none=>rfl
   | some u =>
    have e' : b = a:=hA b (by rw [q]; simp)
    subst e'
    rw [ha] at e; cases e
    have d' : Data.seq vs.toArray _ = Data.dict es ep:=d
    cases d'
  have nsK : ∀ {b : Addr} {m : Str → Option Value},s₁.heap.Ns b m → (hidT s₁.heap H).Ns b m:=fun {b m} ⟨o,es,ep,e,d,r⟩=>⟨o,es,ep,base_of e (noA e d),d,r⟩
  have hKb : K.In (hidT s₁.heap H):=fun b o e=>base_of (KX b o e) (by
   cases q : H b with
   | none=>rfl
   | some u =>
    have e' : b = a:=hA b (by rw [q]; simp)
    subst e'
    rw [hK (by rw [q]; simp)] at e; cases e)
  have hM : Mod K mg (hidT s₁.heap H):=⟨hKb,nsK hns,⟨mb,nsK hb,hbb⟩,let ⟨mc,h1,h2⟩:=hlim; ⟨mc,nsK h1,h2⟩⟩
  have e0 : Env0 P w K mg (hidT s₁.heap H) callerA [] s₁ H:=⟨rfl,hM,fun b o e=>of_hidT e,Nat.le_of_eq (hidT_size _ _),trivial,fun b hb=>absurd (show b ∈ ([] : List Addr) from hb) (by simp),hok,.of_eq hg⟩
  refine codeAny_mono ((F _ hKb (nsK hns)).run callerA [] s₁ H ⟨[.ref a],[]⟩ [.ref a] [.ref a] _ _ hr e0 (hbind s₁ (.ref a)) (.cons rfl .nil) (hsp H hO hS)) fun r s' h=>?_
  cases r with
  | error e=>exact (hCX H e s' h).elim
  | ok fl =>
   cases fl with
   | next=>exact False.elim h
   | brk=>exact False.elim h
   | cont=>exact False.elim h
   | ret u =>
    obtain ⟨v,H',os,bare,un,hok',r',q⟩:=h
    have q' : v = .bl true:=q
    subst q'
    obtain rfl : u = Value.bool true:=r'
    refine ⟨rfl,OldK.of_keep fun b o e=>?_,os,bare⟩
    cases q : H b with
    | none=>exact un.keep b o e q (by intro z; exact absurd (show b ∈ ([] : List Addr) from z) (by simp)) (by simp)
    | some u =>
     rcases hO b with z | ⟨ob,xs,z⟩
     · rw [q] at z; cases z
     · have z2:=un.frzs b ob _ z
       obtain ⟨e1,_⟩:=hok b _ z
       obtain ⟨e2,_⟩:=hok' b _ z2
       rw [e] at e1; cases e1
       exact e2
 cases hk : K.lookup a with
 | some o =>
  have e:=KX a o hk
  rw [ha] at e
  cases e
  refine core (fun _=>none) (fun _=>.inl rfl) (.inr ⟨_,vs.toArray,_,hk,rfl,rfl,rfl,by rw [List.size_toArray,lenV]; exact hl,by simpa using rv⟩) (fun b u z=>by have z' : (none : Option HO) = some u:=z; cases z') (fun b z=>absurd rfl z) fun z=>absurd rfl z
 | none =>
  refine core (fun b=>if b = a then some (.frz { cls:=.type "list",data:=.seq vs.toArray } (.lst (ns.map V.int))) else none) (fun b=>?_) (.inl (.inr ⟨{ cls:=.type "list",data:=.seq vs.toArray },if_pos rfl⟩)) (fun b u z=>?_) (fun b z=>?_) fun _=>hk
  · by_cases hb : b = a
    · exact .inr ⟨_,_,if_pos hb⟩
    · exact .inl (if_neg hb)
  · by_cases hb : b = a
    · have z':=(if_pos hb).symm.trans z
      cases z'
      subst hb
      exact ⟨ha,by rw [List.length_map]; exact hl,vs,_,rv,ha⟩
    · have z':=(if_neg hb).symm.trans z
      cases z'
  · by_cases hb : b = a
    · exact hb
    · exact absurd (if_neg hb) z
end L2
namespace L2
open PySem PySem.Spec PyProof.Rows
noncomputable abbrev KOf {K : PySem.W.Frag} {h : Heap} (_ : K.In h) : PySem.W.Frag:=K
theorem walk_of {l : PySem.W.OpenLaw} {n k : Nat} {q : Program} {loose : List Str} {XP : (Str → Option Value) → Heap → Prop} {YP : World → Heap → Prop} {d : DefRec} {K : Params → PySem.W.Frag} {CX : World → CXT} {sp : World → Sp} {x : Str}
 (hn : l.most = some n) (hn2 : n ≤ sizeLine) (hdf : d.params.defaults = []) (hr : Room k callerA)
 (hY : ∀ (w : World) (h : Heap),YP w h → (K w.params).In h)
 (F : ∀ (w : World) (mg : Str → Option Value) (fa : Addr) (h : Heap),(K w.params).In h → h.Ns mainGlobals mg → mg d.name = some (.ref fa) →
   ∃ fd : FuncData,(∀ (s : Shared) (u : Value),BindsTo s fd ⟨[u],[]⟩ [(x,u)]) ∧
    ∀ base : Heap,(K w.params).In base → base.Ns mainGlobals mg → FnOk l.prog w (K w.params) mg base (CX w) k fa fd [x] (sp w))
 (hsp : ∀ (w : World) (H : Hp) (a : Addr) (ns : List Int),ns.length ≤ n → Only H → SqL (K w.params) H a (ns.map V.int) → sp w [.ref a] H (fun v _=>v = .bl true) fun _ _ _=>False)
 (hCX : ∀ (w : World) (H : Hp) (s : Shared) (e : Value) (s' : Shared),CX w [] H s (fun _ _ _=>False) e s' → False) :
 PySem.W.WalkO q loose XP YP l.row.toRowW d [] (fun f vs=>PySem.call f vs):=by
 refine Att.attach_call hn hdf fun w s₀ s₁ mg mb fa o pm cd doc a vs ns G Y ho hd hcd hmg hobj hints hlen hg=>?_
 have KX:=hY w _ Y
 obtain ⟨fd,hb,hF⟩:=F w mg fa _ KX G.T.g hmg
 exact law_call KX G.T.g G.T.b G.T.builtins G.T.nolimit hg hobj hints (Nat.le_trans hlen hn2) hr hF hb (fun H hO hS=>hsp w H a ns hlen hO hS) fun H e s'=>hCX w H s₁ e s'
end L2
/- THE LAST THEOREM (shape; LID,My.* are yours):
 My.Adr: a structure of the addresses that your layer names (classes,functions); My.Txt K t: a structure (Prop) of the equations over K;
 My.txt_mk : {K} {implicit addresses ..} (e1 : nsIn K mainGlobals "law" = some (some (.ref f))) (e2 : K.lookup f = some ⟨oc,od,.func (fnOf "law" "law" params body scope dV kV doc pm an cdv ct),sl⟩) (e3 : codeIn K cdv "law" = true) .. : ∃ t,My.Txt K t
set_option maxRecDepth 100000 in
set_option maxHeartbeats 0 in
theorem PySem.Challenge.cw_LID_holds : PySem.Challenge.rw_LID.Holds:=by
 w_on; o_law; k_head; (case hw=>w_witness2)
 k_fill
 refine L2.walk_of (l:=PySem.Challenge.rw_LID) (n:=63) (k:=40) (x:="script") (CX:=fun w=>..) (sp:=fun _=>My.sp_law) rfl (by decide) rfl ⟨rfl,by decide,by decide⟩ (fun w h Y=>PySem.W.kIn_of Y) ?F ?S ?C
 case F =>
  intro w mg fa h KX G hmg
  have T : ∃ t,My.Txt (L2.KOf KX) t:=by
   dsimp only [L2.KOf]                          -- K must stand as «<heap const> w.params» for k_is
   refine' My.txt_mk ?e1 ?e2 ?e3 ..
   (case e1=>PySem.W.k_is)                    -- in the order: a name -> its address -> its object -> its parts
   (case e2=>PySem.W.k_is)
   ..
  obtain ⟨t,T⟩:=T
  have e0:=hmg.symm.trans (PySem.W.mg_of KX G T.law)
  cases e0                                       -- fa is the law's own address
  exact ⟨_,fun s u=>.of_eq rfl,fun base kb nb=>My.law_fn T kb nb⟩     -- if «.of_eq rfl» comes too early: refine' ⟨_,?b,fun base kb nb=>My.law_fn T kb nb⟩; exact fun s u=>.of_eq rfl
 case S=>exact fun w H a ns hl hO hS=>..
 case C=>exact ..
(the tactic k_is has no namespace: write k_is) -/
namespace L2
open PySem PySem.Spec PyProof.Rows
noncomputable def defArgs (s : Stmt) : Arguments:=match s with
 | .FunctionDef _ a _ _ _ _ _ _ _ _=>a
 | _=>{ posonlyargs:=[],args:=[],vararg:=none,kwonlyargs:=[],kw_defaults:=[],kwarg:=none,defaults:=[] }
noncomputable def defBody (s : Stmt) : List Stmt:=match s with
 | .FunctionDef _ _ b _ _ _ _ _ _ _=>b
 | _=>[]
noncomputable def defScope (s : Stmt) : Scope:=match s with
 | .FunctionDef _ _ _ _ _ _ sc _ _ _=>sc
 | _=>{ kind:=.function,names:=[],isGenerator:=false,isCoroutine:=false }
noncomputable abbrev CX0 : CXT:=fun _ _ _ _ _ _=>False
noncomputable abbrev E0 : XK:=fun _ _ _=>False
theorem pass0 {X : Cx} : Passes CX0 X E0:=fun _ _ _ _ _ _ _ h=>h.elim
structure Fun (K : PySem.W.Frag) (x qual : Str) (st : Stmt) (f : Addr) (fd : FuncData) : Prop where
 ex : ∃ (oc : Value) (od : Option Addr) (kV doc pm : Value) (an : Option Addr) (cdv ct : Value) (osl : Array (Option Value)),
  fd = PySem.W.fnOf x qual (defArgs st) (defBody st) (defScope st) .none kV doc pm an cdv ct ∧ K.lookup f = some ⟨oc,od,.func fd,osl⟩ ∧ PySem.W.codeIn K cdv qual = true
 kp : PySem.W.keepIn K (.ref f) = true
section
variable {P : Program} {w : World} {K : PySem.W.Frag} {mg : Str → Option Value} {base : Heap}
theorem Fun.ok {x qual : Str} {st : Stmt} {f : Addr} {fd : FuncData} {N ps : List Str} {k : Nat} {sp : Sp} (F : Fun K x qual st f fd) (S : FnScope N ps (defScope st)) (len : ∀ vs H Q E,sp vs H Q E → vs.length = ps.length)
 (hbody : ∀ (cdv : Value) (A : Around) (outer : List Env) (s : Shared) (H : Hp) (vs : List V) (Q : VK) (E : XK),Room k (A.deeper (envOfC qual (defScope st) s.heap.objs.size f cdv)) → sp vs H Q E →
   ∃ t,PSs (cxOf CX0 P w K mg base N qual (defScope st) f cdv A outer s H E).nox (defBody st) t ∧ t { nx:=fun _ H'=>Q .non H',rt:=Q } (start N vs) H) : FnOk P w K mg base CX0 (k + 1) f fd ps sp:=by
 obtain ⟨oc,od,kV,doc,pm,an,cdv,ct,osl,rfl,lk,hcd⟩:=F.ex
 refine fn_of lk hcd S len fun A outer s H vs Q E hr hsp=>?_
 obtain ⟨t,h,q⟩:=hbody cdv A outer s H vs Q E hr hsp
 exact ⟨t,h.nox,q⟩
theorem Fun.binds {x qual : Str} {st : Stmt} {f : Addr} {fd : FuncData} {ps : List Str} (F : Fun K x qual st f fd)
 (h : ∀ (kV doc pm : Value) (an : Option Addr) (cdv ct : Value) (us : List Value),us.length = ps.length → bindArgs (PySem.W.fnOf x qual (defArgs st) (defBody st) (defScope st) .none kV doc pm an cdv ct) ⟨us,[]⟩ = pure (ps.zip us)) : Binds K fd ps []:=by
 obtain ⟨oc,od,kV,doc,pm,an,cdv,ct,osl,rfl,lk,hcd⟩:=F.ex
 exact .all (h kV doc pm an cdv ct)
theorem fun_mk {x qual : Str} {st : Stmt} {f : Addr} {oc : Value} {od an : Option Addr} {osl : Array (Option Value)} {kV doc pm cdv ct : Value} (l : K.lookup f = some ⟨oc,od,.func (PySem.W.fnOf x qual (defArgs st) (defBody st) (defScope st) .none kV doc pm an cdv ct),osl⟩)
 (c : PySem.W.codeIn K cdv qual = true) (k : PySem.W.keepIn K (.ref f) = true) : Fun K x qual st f (PySem.W.fnOf x qual (defArgs st) (defBody st) (defScope st) .none kV doc pm an cdv ct):=⟨⟨oc,od,kV,doc,pm,an,cdv,ct,osl,rfl,l,c⟩,k⟩
end
section
variable {X : Cx}
theorem pv (i : Nat) {x : Str} {pos : Pos} (hN : X.N[i]? = some x:=by rfl) (hv : Vis X.env.scope x:=by first | exact Or.inl rfl | exact Or.inr (Or.inl rfl) | exact Or.inr (Or.inr rfl)) (hd : (x == ("__debug__" : Str)) = false:=by decide)
 (hcd : (x == ("__classdict__" : Str)) = false:=by decide) : PE X (.Name x pos) (tVar i):=pe_var hN hv hd hcd
end
theorem iteF {A B : Prop} (h : B) : if false = true then A else B:=by
 rw [if_neg Bool.false_ne_true]
 exact h
theorem iteT {A B : Prop} (h : A) : if true = true then A else B:=by
 rw [if_pos rfl]
 exact h
theorem ite2 {c A B : Prop} [Decidable c] (h1 : c → A) (h2 : ¬ c → B) : if c then A else B:=by
 by_cases h : c
 · rw [if_pos h]
   exact h1 h
 · rw [if_neg h]
   exact h2 h
noncomputable def Same (H H' : Hp) : Prop:=∀ b o,H b = some o → H' b = some o
theorem Same.refl (H : Hp) : Same H H:=fun _ _ h=>h
theorem Same.trans {H H1 H2 : Hp} (a : Same H H1) (b : Same H1 H2) : Same H H2:=fun c o h=>b c o (a c o h)
theorem Same.free {H H' : Hp} (e : Same H H') {l : Addr} (h : H' l = Option.none) : H l = Option.none:=by
 cases q : H l with
 | none=>rfl
 | some o =>
  rw [e l o q] at h
  cases h
theorem Same.seq {K : PySem.W.Frag} {H H' : Hp} {a : Addr} {xs : List V} (e : Same H H') (h : SqL K H a xs) : SqL K H' a xs:=by
 rcases h with (h | ⟨o,h⟩) | h
 · exact .inl (.inl (e _ _ h))
 · exact .inl (.inr ⟨o,e _ _ h⟩)
 · exact .inr h
section
variable {κ : Type} [DecidableEq κ]
end
end L2
namespace M
noncomputable def let26 (i : Int) : Nat:=97 + (i % 26).toNat
noncomputable def nmSize (c : Int) (many : Nat) : Nat:=1 + (c / 26 % (if 24 < many then 7 else 8)).toNat
noncomputable def nm (c : Int) (many k : Nat) : List Nat :=
 if c / 1664 % 3 = 0 ∧ many ≤ 8 then List.replicate (1 + ((c + k) % 8).toNat) (let26 c)
 else
  let b:=(List.replicate (nmSize c many) (let26 c)).set (c / 208 % nmSize c many).toNat (let26 (c + 1 + (k % 24 : Nat)))
  if 23 < k then b ++ [let26 c] else b
theorem nmSize_lo (c : Int) (many : Nat) : 1 ≤ nmSize c many:=by unfold nmSize; omega
theorem nmSize_hi (c : Int) (many : Nat) : nmSize c many ≤ 8 ∧ (24 < many → nmSize c many ≤ 7):=by
 unfold nmSize
 split <;> omega
noncomputable def good (l : List Nat) : Prop:=1 ≤ l.length ∧ l.length ≤ 8 ∧ ∀ x ∈ l,97 ≤ x ∧ x ≤ 122
theorem let26_inj {i j : Int} (h : let26 i = let26 j) : i % 26 = j % 26:=by unfold let26 at h; omega
theorem pos_lt (c : Int) (n : Nat) (h : 1 ≤ n) : (c / 208 % n).toNat < n:=by
 have h1 : 0 ≤ c / 208 % (n : Int):=Int.emod_nonneg _ (by omega)
 have h2 : c / 208 % (n : Int) < n:=Int.emod_lt_of_pos _ (by omega)
 omega
theorem nm_inj {c : Int} {many k k' : Nat} (hm : many ≤ 32) (hk : k < many) (hk' : k' < many) (h : nm c many k = nm c many k') : k = k':=by
 have s1:=nmSize_lo c many
 have hp:=pos_lt c (nmSize c many) s1
 unfold nm at h
 split at h
 · have e:=congrArg List.length h
   simp at e
   omega
 · dsimp only at h
   have get : ∀ (a : Nat) (t : List Nat),((List.replicate (nmSize c many) (let26 c)).set (c / 208 % nmSize c many).toNat a ++ t)[(c / 208 % nmSize c many).toNat]? = some a:=fun a t=>by
    rw [List.getElem?_append_left (by simpa using hp),List.getElem?_set_self (by simpa using hp)]
   have get0 : ∀ (a : Nat),((List.replicate (nmSize c many) (let26 c)).set (c / 208 % nmSize c many).toNat a)[(c / 208 % nmSize c many).toNat]? = some a:=fun a=>by
    rw [List.getElem?_set_self (by simpa using hp)]
   split at h <;> split at h
   · have e:=congrArg (fun l=>l[(c / 208 % nmSize c many).toNat]?) h
     simp only [get] at e
     have e:=let26_inj (Option.some.inj e)
     omega
   · have e:=congrArg List.length h
     simp at e
   · have e:=congrArg List.length h
     simp at e
   · have e:=congrArg (fun l=>l[(c / 208 % nmSize c many).toNat]?) h
     simp only [get0] at e
     have e:=let26_inj (Option.some.inj e)
     omega
inductive Tr (α : Type) where
 | leaf (x : α)
 | knot (f : α) (l r : Tr α)
namespace Tr
variable {α : Type}
noncomputable def lv : Tr α → List α
 | .leaf x=>[x]
 | .knot _ l r=>l.lv ++ r.lv
noncomputable def kn : Tr α → List α
 | .leaf _=>[]
 | .knot f l r=>f :: (l.kn ++ r.kn)
noncomputable def dp : Tr α → Nat
 | .leaf _=>1
 | .knot _ l r=>max l.dp r.dp + 1
noncomputable def isL : Tr α → Bool
 | .leaf _=>true
 | .knot _ _ _=>false
noncomputable def name : Tr α → α
 | .leaf x=>x
 | .knot f _ _=>f
noncomputable def pl : Tr α → List (List Nat)
 | .leaf _=>[[]]
 | .knot _ l r=>[] :: (l.pl.map (0 :: ·) ++ r.pl.map (1 :: ·))
noncomputable def sub : Tr α → List Nat → Option (Tr α)
 | t,[]=>some t
 | .leaf _,_ :: _=>none
 | .knot _ l r,i :: p=>if i = 0 then l.sub p else if i = 1 then r.sub p else none
noncomputable def wk : Tr α → List Nat → List (List Nat × Tr α)
 | .leaf x,p=>[(p,.leaf x)]
 | .knot f l r,p=>(p,.knot f l r) :: (l.wk (p ++ [0]) ++ r.wk (p ++ [1]))
theorem lv_pos (t : Tr α) : 1 ≤ t.lv.length:=by
 induction t with
 | leaf x=>simp [lv]
 | knot f l r ihl ihr=>simp [lv]; omega
theorem dp_pos (t : Tr α) : 1 ≤ t.dp:=by cases t <;> simp [dp]
theorem dp_le (t : Tr α) : t.dp ≤ t.lv.length:=by
 induction t with
 | leaf x=>simp [lv,dp]
 | knot f l r ihl ihr =>
  have:=l.lv_pos
  have:=r.lv_pos
  simp [lv,dp]; omega
theorem wk_pl (t : Tr α) : ∀ p,(t.wk p).map (·.1) = t.pl.map (p ++ ·):=by
 induction t with
 | leaf x=>intro p; simp [wk,pl]
 | knot f l r ihl ihr =>
  intro p
  simp only [wk,pl,List.map_cons,List.map_append,ihl,ihr,List.append_nil,List.map_map]
  congr 1
  congr 1
  · apply List.map_congr_left; intro a _; simp
  · apply List.map_congr_left; intro a _; simp
theorem pl_wk (t : Tr α) : t.pl = (t.wk []).map (·.1):=by rw [wk_pl]; simp
theorem wk_sub (t : Tr α) : ∀ p q s,(q,s) ∈ t.wk p → ∃ q',q = p ++ q' ∧ t.sub q' = some s:=by
 induction t with
 | leaf x =>
  intro p q s h
  simp only [wk,List.mem_singleton,Prod.mk.injEq] at h
  exact ⟨[],by simp [h.1],by simp [sub,h.2]⟩
 | knot f l r ihl ihr =>
  intro p q s h
  simp only [wk,List.mem_cons,List.mem_append,Prod.mk.injEq] at h
  rcases h with ⟨h1,h2⟩ | h | h
  · exact ⟨[],by simp [h1],by simp [sub,h2]⟩
  · obtain ⟨q',e,hs⟩:=ihl _ _ _ h
    exact ⟨0 :: q',by simp [e],by simp [sub,hs]⟩
  · obtain ⟨q',e,hs⟩:=ihr _ _ _ h
    exact ⟨1 :: q',by simp [e],by simp [sub,hs]⟩
theorem sub_mem {t s : Tr α} {q : List Nat} (h : (q,s) ∈ t.wk []) : t.sub q = some s:=by
 obtain ⟨q',e,hs⟩:=wk_sub t _ _ _ h
 simpa [e] using hs
theorem wk_lv (t : Tr α) : ∀ p,((t.wk p).filter (fun q=>q.2.isL)).map (fun q=>q.2.name) = t.lv:=by
 induction t with
 | leaf x=>intro p; simp [wk,isL,lv,name]
 | knot f l r ihl ihr =>
  intro p
  have e : (Tr.knot f l r).isL = false:=rfl
  simp only [wk,lv,List.filter_cons,e,List.filter_append,List.map_append,ihl,ihr]
  simp [ihl,ihr]
theorem wk_len (t : Tr α) : ∀ p,(t.wk p).length + 1 = 2 * t.lv.length:=by
 induction t with
 | leaf x=>intro p; simp [wk,lv]
 | knot f l r ihl ihr =>
  intro p
  have h1:=ihl (p ++ [0])
  have h2:=ihr (p ++ [1])
  simp only [wk,lv,List.length_cons,List.length_append]
  omega
theorem pl_len (t : Tr α) : t.pl.length + 1 = 2 * t.lv.length:=by
 rw [pl_wk,List.length_map]; exact t.wk_len []
theorem wk_plen (t : Tr α) : ∀ p q s,(q,s) ∈ t.wk p → q.length + s.dp ≤ p.length + t.dp:=by
 induction t with
 | leaf x =>
  intro p q s h
  simp only [wk,List.mem_singleton,Prod.mk.injEq] at h
  simp [h.1,h.2]
 | knot f l r ihl ihr =>
  intro p q s h
  simp only [wk,List.mem_cons,List.mem_append,Prod.mk.injEq] at h
  rcases h with ⟨h1,h2⟩ | h | h
  · simp [h1,h2]
  · have:=ihl _ _ _ h; simp [dp] at this ⊢; omega
  · have:=ihr _ _ _ h; simp [dp] at this ⊢; omega
end Tr
noncomputable def firstOf {α : Type} [DecidableEq α] (x : α) : List (List Nat × Tr α) → Option (List Nat)
 | []=>none
 | q :: r=>if q.2.isL ∧ q.2.name = x then some q.1 else firstOf x r
theorem firstOf_some {α : Type} [DecidableEq α] {x : α} : ∀ {l : List (List Nat × Tr α)} {q : List Nat},((l.filter (fun q=>q.2.isL)).map (fun q=>q.2.name)).Nodup → (q,Tr.leaf x) ∈ l → firstOf x l = some q
 | [],_,_,h=>nomatch h
 | e :: r,q,nd,h=>by
  unfold firstOf
  rcases List.mem_cons.mp h with h | h
  · rw [← h]; simp [Tr.isL,Tr.name]
  · by_cases hq : e.2.isL = true
    · simp only [List.filter_cons,hq,if_true,List.map_cons,List.nodup_cons] at nd
      have hm : x ∈ (r.filter (fun q=>q.2.isL)).map (fun q=>q.2.name):=List.mem_map.mpr ⟨(q,.leaf x),List.mem_filter.mpr ⟨h,rfl⟩,rfl⟩
      rw [if_neg (fun z=>nd.1 (by rw [z.2]; exact hm))]
      exact firstOf_some nd.2 h
    · simp only [List.filter_cons,hq,if_false] at nd
      rw [if_neg (fun z=>hq z.1)]
      exact firstOf_some nd h
noncomputable def dstep (j : Nat) (ds : List Nat) : List Nat :=
 ds.take (j % (ds.length - 1)) ++ [max (ds.getD (j % (ds.length - 1)) 0) (ds.getD (j % (ds.length - 1) + 1) 0) + 1] ++ ds.drop (j % (ds.length - 1) + 2)
noncomputable def dsim : Nat → List Nat → List Nat
 | 0,ds=>ds
 | j + 1,ds=>dstep j (dsim j ds)
theorem dsim_ok : ∀ m : Fin 8,((dsim (24 + m.val) (List.replicate (25 + m.val) 1)).all (· ≤ 24)) = true:=by decide +kernel
noncomputable def merge {β : Type} (p : Nat) (t : β) (ts : List β) : List β:=ts.take p ++ [t] ++ ts.drop (p + 2)
theorem split2 {β : Type} : ∀ {p : Nat} {ts : List β} {a b : β},ts[p]? = some a → ts[p + 1]? = some b → ts = ts.take p ++ [a,b] ++ ts.drop (p + 2)
 | 0,ts,a,b,h1,h2=>by
  cases ts with
  | nil=>simp at h1
  | cons x r =>
   cases r with
   | nil=>simp at h2
   | cons y r=>simp at h1 h2; simp [h1,h2]
 | p + 1,ts,a,b,h1,h2=>by
  cases ts with
  | nil=>simp at h1
  | cons x r =>
   have e:=split2 (p:=p) (ts:=r) (by simpa using h1) (by simpa using h2)
   simp only [List.take_succ_cons,List.drop_succ_cons,List.cons_append]
   rw [← e]
structure TI {α : Type} (names deeds : List α) (many j : Nat) (ts : List (Tr α)) : Prop where
 perm : (ts.flatMap Tr.lv).Perm names
 kn : ∀ t ∈ ts,∀ f ∈ t.kn,f ∈ deeds
 len : ts.length + j = many
 nl : names.length = many
 dps : 24 < many → ts.map Tr.dp = dsim j (List.replicate many 1)
theorem TI.start {α : Type} {names deeds : List α} : TI names deeds names.length 0 (names.map Tr.leaf) where
 perm:=by
  have e : (names.map Tr.leaf).flatMap Tr.lv = names:=by
   induction names with
   | nil=>rfl
   | cons a r ih=>simp [Tr.lv,ih]
  rw [e]
 kn:=fun t ht f hf=>by
  obtain ⟨x,_,rfl⟩:=List.mem_map.mp ht
  simp [Tr.kn] at hf
 len:=by simp
 nl:=rfl
 dps:=fun _=>by
  have e : ∀ l : List α,(l.map Tr.leaf).map Tr.dp = List.replicate l.length 1:=fun l=>by
   induction l with
   | nil=>rfl
   | cons a r ih=>simp only [List.map_cons,List.length_cons,List.replicate_succ,ih,Tr.dp]
  exact e names
theorem TI.step {α : Type} {names deeds : List α} {many j : Nat} {ts : List (Tr α)} (I : TI names deeds many j ts) {p : Nat} {a b x y : Tr α} {f : α} (h1 : ts[p]? = some a) (h2 : ts[p + 1]? = some b) (hp : 24 < many → p = j % (ts.length - 1)) (hf : f ∈ deeds)
 (hxy : (x = a ∧ y = b) ∨ (x = b ∧ y = a)) : TI names deeds many (j + 1) (merge p (.knot f x y) ts):=by
 have e:=split2 h1 h2
 have hlt : p + 1 < ts.length:=(List.getElem?_eq_some_iff.mp h2).1
 have hd : (Tr.knot f x y).dp = max a.dp b.dp + 1:=by
  rcases hxy with ⟨rfl,rfl⟩ | ⟨rfl,rfl⟩ <;> simp [Tr.dp,Nat.max_comm]
 refine ⟨?_,fun t ht g hg=>?_,?_,I.nl,fun hm=>?_⟩
 · have q:=I.perm
   rw [e] at q
   refine List.Perm.trans ?_ q
   unfold merge
   simp only [List.flatMap_append,List.flatMap_cons,List.flatMap_nil,List.append_nil]
   refine List.Perm.append_right _ (List.Perm.append_left _ ?_)
   simp only [Tr.lv]
   rcases hxy with ⟨rfl,rfl⟩ | ⟨rfl,rfl⟩
   · exact List.Perm.refl _
   · exact List.perm_append_comm
 · unfold merge at ht
   have ma : a ∈ ts:=List.mem_of_getElem? h1
   have mb : b ∈ ts:=List.mem_of_getElem? h2
   simp only [List.mem_append,List.mem_singleton] at ht
   rcases ht with (ht | rfl) | ht
   · exact I.kn t (List.mem_of_mem_take ht) g hg
   · simp only [Tr.kn,List.mem_cons,List.mem_append] at hg
     rcases hg with rfl | hg | hg
     · exact hf
     · rcases hxy with ⟨rfl,rfl⟩ | ⟨rfl,rfl⟩
       · exact I.kn _ ma g hg
       · exact I.kn _ mb g hg
     · rcases hxy with ⟨rfl,rfl⟩ | ⟨rfl,rfl⟩
       · exact I.kn _ mb g hg
       · exact I.kn _ ma g hg
   · exact I.kn t (List.mem_of_mem_drop ht) g hg
 · have:=I.len
   unfold merge
   simp only [List.length_append,List.length_take,List.length_drop,List.length_singleton]
   omega
 · have q:=I.dps hm
   simp only [dsim,dstep]
   rw [← q]
   have hp:=hp hm
   simp only [List.length_map]
   rw [← hp]
   unfold merge
   simp only [List.map_append,List.map_take,List.map_drop,List.map_cons,List.map_nil,hd]
   have g1 : (ts.map Tr.dp).getD p 0 = a.dp:=by simp [List.getD,h1]
   have g2 : (ts.map Tr.dp).getD (p + 1) 0 = b.dp:=by simp [List.getD,h2]
   rw [g1,g2]
theorem TI.end {α : Type} {names deeds : List α} {many j : Nat} {t : Tr α} (I : TI names deeds many j [t]) (hm : many ≤ 32) : t.lv.Perm names ∧ (∀ f ∈ t.kn,f ∈ deeds) ∧ t.dp ≤ 24:=by
 have hp : t.lv.Perm names:=by have:=I.perm; simpa using this
 refine ⟨hp,I.kn t (by simp),?_⟩
 by_cases h : 24 < many
 · have q:=I.dps h
   have hl:=I.len
   simp at hl
   have ok:=dsim_ok ⟨many - 25,by omega⟩
   have e1 : 24 + (many - 25) = j:=by omega
   have e2 : 25 + (many - 25) = many:=by omega
   simp only [e1,e2] at ok
   rw [← q] at ok
   simpa using ok
 · have h1:=t.dp_le
   have h2:=hp.length_eq
   have h3:=I.nl
   omega
end M
namespace M
noncomputable abbrev Pl:=List Nat
namespace Tr
variable {α : Type}
noncomputable def rk : Tr α → Nat
 | .leaf _=>1
 | .knot _ l r=>if l.rk = r.rk then l.rk + 1 else max l.rk r.rk
theorem rk_pos (t : Tr α) : 1 ≤ t.rk:=by
 induction t with
 | leaf x=>simp [rk]
 | knot f l r ihl ihr=>simp only [rk]; split <;> omega
theorem sub_nil (t : Tr α) : t.sub [] = some t:=by cases t <;> rfl
theorem sub_app (t : Tr α) : ∀ (p q : Pl),t.sub (p ++ q) = (t.sub p).bind (fun s=>s.sub q):=by
 induction t with
 | leaf x =>
  intro p q
  cases p with
  | nil=>simp [sub_nil]
  | cons i p=>simp [sub]
 | knot f l r ihl ihr =>
  intro p q
  cases p with
  | nil=>simp [sub_nil]
  | cons i p =>
   simp only [List.cons_append,sub]
   split
   · exact ihl p q
   · split
     · exact ihr p q
     · rfl
theorem sub_l {t l r : Tr α} {f : α} {p : Pl} (h : t.sub p = some (.knot f l r)) : t.sub (p ++ [0]) = some l:=by
 rw [sub_app,h]; simp [sub,sub_nil]
theorem sub_r {t l r : Tr α} {f : α} {p : Pl} (h : t.sub p = some (.knot f l r)) : t.sub (p ++ [1]) = some r:=by
 rw [sub_app,h]; simp [sub,sub_nil]
noncomputable def blk (h : Pl → Bool) : Tr α → Pl → Bool
 | .leaf _,p=>h p
 | .knot _ l r,p=>h p || (if l.rk = r.rk then blk h l (p ++ [0]) && blk h r (p ++ [1]) else if r.rk < l.rk then blk h l (p ++ [0]) else blk h r (p ++ [1]))
end Tr
noncomputable def cnt (p : Pl) (bx : List (Option Pl)) : Nat:=bx.countP fun o=>match o with | some q=>p.isPrefixOf q | none=>false
noncomputable def held (bx : List (Option Pl)) (p : Pl) : Bool:=bx.any fun o=>o == some p
theorem held_mem {bx : List (Option Pl)} {p : Pl} : held bx p = true ↔ some p ∈ bx:=by
 unfold held; rw [List.any_eq_true]
 constructor
 · rintro ⟨o,ho,e⟩
   have : o = some p:=by simpa using e
   rw [← this]; exact ho
 · intro h; exact ⟨_,h,by simp⟩
theorem cnt_nil (bx : List (Option Pl)) : cnt [] bx = bx.countP (·.isSome):=by
 unfold cnt
 apply List.countP_congr
 intro o _
 cases o <;> simp
theorem pl_filter {α : Type} (t : Tr α) (g : Pl → Bool) (hg : ∀ q s,(q,s) ∈ t.wk [] → g q = s.isL) : t.pl.filter g = ((t.wk []).filter (fun q=>q.2.isL)).map (·.1):=by
 rw [Tr.pl_wk,List.filter_map]
 congr 1
 apply List.filter_congr
 intro q hq
 exact hg q.1 q.2 hq
theorem firstOf_filter {α : Type} [DecidableEq α] {x : α} : ∀ (l : List (List Nat × Tr α)),firstOf x l = firstOf x (l.filter (fun q=>q.2.isL))
 | []=>rfl
 | q :: r=>by
  have ih:=firstOf_filter (x:=x) r
  by_cases hq : q.2.isL = true
  · simp only [List.filter_cons,hq,if_true]
    unfold firstOf
    rw [ih]
  · simp only [List.filter_cons,hq,if_false]
    rw [firstOf,if_neg (fun z=>hq z.1)]
    exact ih
theorem firstOf_drop {α : Type} [DecidableEq α] {x : α} : ∀ (l : List (List Nat × Tr α)) (i : Nat),(∀ q ∈ l.take i,q.2.name ≠ x) → firstOf x l = firstOf x (l.drop i)
 | [],i,_=>by simp
 | q :: r,0,_=>by simp
 | q :: r,i + 1,h=>by
  have ih:=firstOf_drop (x:=x) r i (fun q hq=>h q (by simp [hq]))
  rw [List.drop_succ_cons,← ih,firstOf,if_neg (fun z=>h q (by simp) z.2)]
theorem firstOf_hit {α : Type} [DecidableEq α] {x : α} {l : List (List Nat × Tr α)} {i : Nat} {q : List Nat × Tr α} (h : ∀ q ∈ l.take i,q.2.name ≠ x) (e : l[i]? = some q) (hl : q.2.isL = true) (hx : q.2.name = x) : firstOf x l = some q.1:=by
 rw [firstOf_drop l i h]
 have : l.drop i = q :: l.drop (i + 1):=by
  obtain ⟨hi,e'⟩:=List.getElem?_eq_some_iff.mp e
  rw [List.drop_eq_getElem_cons hi,e']
 rw [this,firstOf,if_pos ⟨hl,hx⟩]
theorem pl_sub {α : Type} {t : Tr α} {p : Pl} (h : p ∈ t.pl) : ∃ s,t.sub p = some s ∧ (p,s) ∈ t.wk []:=by
 rw [Tr.pl_wk] at h
 obtain ⟨⟨q,s⟩,hq,rfl⟩:=List.mem_map.mp h
 exact ⟨s,Tr.sub_mem hq,hq⟩
theorem pl_len_le {α : Type} (t : Tr α) : t.pl.length ≤ 2 * t.lv.length:=by have:=t.pl_len; omega
theorem pl_dp {α : Type} {t : Tr α} {p : Pl} (h : p ∈ t.pl) : p.length < t.dp:=by
 obtain ⟨s,_,hs⟩:=pl_sub h
 have:=t.wk_plen [] _ _ hs
 have:=s.dp_pos
 simp at *; omega
structure TreeOf (many : Nat) (t : Tr (List Nat)) (c c' : Int) : Prop where
 perm : t.lv.Perm ((List.range many).map (nm c many))
 kn : ∀ f ∈ t.kn,f ∈ (List.range 3).map (nm c' 3)
 dp : t.dp ≤ 24
theorem range_map_nodup {β : Type} {g : Nat → β} {n : Nat} (h : ∀ i j,i < n → j < n → g i = g j → i = j) : ((List.range n).map g).Nodup:=by
 unfold List.Nodup
 rw [List.pairwise_map]
 have : (List.range n).Pairwise (· ≠ ·):=List.nodup_range
 refine List.Pairwise.imp_of_mem ?_ this
 intro a b ha hb hab e
 exact hab (h a b (List.mem_range.mp ha) (List.mem_range.mp hb) e)
end M
set_option linter.all false
namespace M
variable {α β γ : Type}
inductive Deed (α : Type)
 | take (x : α) (i : Int)
 | join (f : α) (i j h : Int)
 | put (i s : Int)
 | fetch (s i : Int)
noncomputable def inN (k : Int) (i : Int) : Prop:=0 ≤ i ∧ i < k
noncomputable instance (k i : Int) : Decidable (inN k i):=by unfold inN; infer_instance
namespace Deed
noncomputable def bn : Deed α → List Int
 | .take _ i=>[i]
 | .join _ i j h=>[i,j,h]
 | .put i _=>[i]
 | .fetch _ i=>[i]
noncomputable def sn : Deed α → List Int
 | .put _ s=>[s]
 | .fetch s _=>[s]
 | _=>[]
noncomputable def ok (k m : Int) (d : Deed α) : Prop:=(∀ i ∈ d.bn,inN k i) ∧ ∀ s ∈ d.sn,inN m s
noncomputable instance (k m : Int) (d : Deed α) : Decidable (d.ok k m):=by unfold ok; infer_instance
noncomputable def set (d : Deed α) (v : β) (st : List β × List β) : List β × List β:=match d with
 | .take _ i=>(st.1.set i.toNat v,st.2)
 | .join _ _ _ h=>(st.1.set h.toNat v,st.2)
 | .put _ s=>(st.1,st.2.set s.toNat v)
 | .fetch _ i=>(st.1.set i.toNat v,st.2)
noncomputable def val (z : β) (tk : α → β) (jn : α → β → β → β) (d : Deed α) (st : List β × List β) : β:=match d with
 | .take x _=>tk x
 | .join f i j _=>jn f (st.1.getD i.toNat z) (st.1.getD j.toNat z)
 | .put i _=>st.1.getD i.toNat z
 | .fetch s _=>st.2.getD s.toNat z
noncomputable def go (z : β) (tk : α → β) (jn : α → β → β → β) (st : List β × List β) (d : Deed α) : List β × List β:=d.set (d.val z tk jn st) st
theorem set_len (d : Deed α) (v : β) (st : List β × List β) : (d.set v st).1.length = st.1.length ∧ (d.set v st).2.length = st.2.length:=by
 cases d <;> simp [set]
theorem go_len {z : β} {tk : α → β} {jn : α → β → β → β} (st : List β × List β) (d : Deed α) : (go z tk jn st d).1.length = st.1.length ∧ (go z tk jn st d).2.length = st.2.length:=set_len d _ st
theorem set_map (d : Deed α) (g : β → γ) (v : β) (st : List β × List β) : d.set (g v) (st.1.map g,st.2.map g) = ((d.set v st).1.map g,(d.set v st).2.map g):=by
 cases d <;> simp [set,List.map_set]
noncomputable def rows (z : β) (tk : α → β) (jn : α → β → β → β) (k m : Nat) (row : List (Deed α)) : List β × List β:=row.foldl (go z tk jn) (List.replicate k z,List.replicate m z)
theorem rows_len {z : β} {tk : α → β} {jn : α → β → β → β} (row : List (Deed α)) : ∀ st : List β × List β,(row.foldl (go z tk jn) st).1.length = st.1.length ∧ (row.foldl (go z tk jn) st).2.length = st.2.length:=by
 induction row with
 | nil=>intro st; exact ⟨rfl,rfl⟩
 | cons d r ih=>intro st; have:=ih (go z tk jn st d); have:=@go_len α β z tk jn st d; simp only [List.foldl_cons]; omega
noncomputable def All2 (C : β → Prop) (st : List β × List β) : Prop:=(∀ x ∈ st.1,C x) ∧ ∀ x ∈ st.2,C x
theorem getD_all {C : β → Prop} {z : β} (hz : C z) {l : List β} (h : ∀ x ∈ l,C x) (i : Nat) : C (l.getD i z):=by
 rw [List.getD_eq_getElem?_getD]
 cases e : l[i]? with
 | none=>exact hz
 | some x=>exact h x (List.mem_of_getElem? e)
theorem mem_set {l : List β} {i : Nat} {v x : β} (h : x ∈ l.set i v) : x = v ∨ x ∈ l:=by
 induction l generalizing i with
 | nil=>simp at h
 | cons a l ih =>
  cases i with
  | zero=>simp only [List.set_cons_zero,List.mem_cons] at h ⊢; rcases h with h | h; exact .inl h; exact .inr (.inr h)
  | succ i =>
   simp only [List.set_cons_succ,List.mem_cons] at h ⊢
   rcases h with h | h
   · exact .inr (.inl h)
   · rcases ih h with h | h
     · exact .inl h
     · exact .inr (.inr h)
theorem set_all {C : β → Prop} {d : Deed α} {v : β} {st : List β × List β} (hv : C v) (h : All2 C st) : All2 C (d.set v st):=by
 cases d <;> refine ⟨fun x hx=>?_,fun x hx=>?_⟩
 all_goals first | exact h.1 x hx | exact h.2 x hx | skip
 all_goals
  rcases mem_set hx with z | z
  · exact z ▸ hv
  · first | exact h.1 x z | exact h.2 x z
theorem go_all {C : β → Prop} {z : β} {tk : α → β} {jn : α → β → β → β} (hz : C z) (ht : ∀ x,C (tk x)) (hj : ∀ f a b,C a → C b → C (jn f a b)) {st : List β × List β} (h : All2 C st) (d : Deed α) : All2 C (go z tk jn st d):=by
 refine set_all ?_ h
 cases d with
 | take x i=>exact ht x
 | join f i j k=>exact hj _ _ _ (getD_all hz h.1 _) (getD_all hz h.1 _)
 | put i s=>exact getD_all hz h.1 _
 | fetch s i=>exact getD_all hz h.2 _
theorem all_new {C : β → Prop} {z : β} (hz : C z) (k m : Nat) : All2 C (List.replicate k z,List.replicate m z):=⟨fun x hx=>(List.eq_of_mem_replicate hx) ▸ hz,fun x hx=>(List.eq_of_mem_replicate hx) ▸ hz⟩
end Deed
noncomputable def knotAt [DecidableEq α] (t : Tr α) (f : α) (p : List Nat) : Bool:=match t.sub p with
 | some (.knot g _ _)=>decide (g = f)
 | _=>false
noncomputable def over [DecidableEq α] (t : Tr α) (f : α) : Option (List Nat) → Option (List Nat) → Option (List Nat)
 | some p,some q=>if p = p.dropLast ++ [0] ∧ q = p.dropLast ++ [1] ∧ knotAt t f p.dropLast = true then some p.dropLast else none
 | _,_=>none
noncomputable def mark [DecidableEq α] (t : Tr α) : List (Option (List Nat)) × List (Option (List Nat)) → Deed α → List (Option (List Nat)) × List (Option (List Nat)):=Deed.go none (fun x=>firstOf x (t.wk [])) (over t)
noncomputable def Vld (t : Tr α) (o : Option (List Nat)) : Prop:=∀ p,o = some p → p ∈ t.pl
theorem sub_wk (t : Tr α) : ∀ (q p : List Nat) (s : Tr α),t.sub p = some s → (q ++ p,s) ∈ t.wk q:=by
 induction t with
 | leaf x =>
  intro q p s h
  cases p with
  | nil=>simp only [Tr.sub,Option.some.injEq] at h; simp [Tr.wk,h]
  | cons i p=>simp [Tr.sub] at h
 | knot f l r ihl ihr =>
  intro q p s h
  cases p with
  | nil=>simp only [Tr.sub,Option.some.injEq] at h; simp [Tr.wk,h]
  | cons i p =>
   simp only [Tr.sub] at h
   split at h
   · rename_i e
     have:=ihl (q ++ [0]) p s h
     simp only [Tr.wk,List.mem_cons,List.mem_append]
     subst e
     exact .inr (.inl (by simpa using this))
   · split at h
     · rename_i _ e
       have:=ihr (q ++ [1]) p s h
       simp only [Tr.wk,List.mem_cons,List.mem_append]
       subst e
       exact .inr (.inr (by simpa using this))
     · cases h
theorem sub_pl {t s : Tr α} {p : List Nat} (h : t.sub p = some s) : p ∈ t.pl:=by
 have:=sub_wk t [] p s h
 rw [Tr.pl_wk]
 exact List.mem_map.mpr ⟨_,this,by simp⟩
theorem firstOf_vld [DecidableEq α] (t : Tr α) (x : α) : Vld t (firstOf x (t.wk [])):=by
 intro p hp
 have : ∀ l : List (List Nat × Tr α),firstOf x l = some p → p ∈ l.map (·.1):=by
  intro l
  induction l with
  | nil=>intro h; cases h
  | cons q r ih =>
   intro h
   simp only [firstOf] at h
   split at h
   · cases h; simp
   · exact List.mem_cons_of_mem _ (ih h)
 rw [Tr.pl_wk]
 exact this _ hp
theorem knotAt_sub [DecidableEq α] {t : Tr α} {f : α} {p : List Nat} (h : knotAt t f p = true) : ∃ l r,t.sub p = some (.knot f l r):=by
 unfold knotAt at h
 split at h
 · rename_i g l r e
   exact ⟨l,r,by rw [e,of_decide_eq_true h]⟩
 · cases h
theorem over_some [DecidableEq α] {t : Tr α} {f : α} {a b : Option (List Nat)} {p : List Nat} (h : over t f a b = some p) : a = some (p ++ [0]) ∧ b = some (p ++ [1]) ∧ knotAt t f p = true:=by
 unfold over at h
 split at h
 · split at h
   · rename_i c
     cases h
     exact ⟨by rw [← c.1],by rw [← c.2.1],c.2.2⟩
   · cases h
 · cases h
theorem over_mk [DecidableEq α] {t : Tr α} {f : α} {p : List Nat} (h : knotAt t f p = true) : over t f (some (p ++ [0])) (some (p ++ [1])) = some p:=by
 show (if p ++ [0] = (p ++ [0]).dropLast ++ [0] ∧ p ++ [1] = (p ++ [0]).dropLast ++ [1] ∧ knotAt t f (p ++ [0]).dropLast = true then some (p ++ [0]).dropLast else none) = some p
 rw [List.dropLast_concat,if_pos ⟨rfl,rfl,h⟩]
theorem over_vld [DecidableEq α] (t : Tr α) (f : α) (a b : Option (List Nat)) : Vld t (over t f a b):=by
 intro p hp
 obtain ⟨l,r,h⟩:=knotAt_sub (over_some hp).2.2
 exact sub_pl h
theorem mark_vld [DecidableEq α] {t : Tr α} {st : List (Option (List Nat)) × List (Option (List Nat))} (h : Deed.All2 (Vld t) st) (d : Deed α) : Deed.All2 (Vld t) (mark t st d) :=
 Deed.go_all (fun p hp=>nomatch hp) (fun x=>firstOf_vld t x) (fun f a b _ _=>over_vld t f a b) h d
noncomputable def lastOf [DecidableEq α] (x : α) (l : List (List Nat × Tr α)) : Option (List Nat):=l.foldl (fun acc q=>if q.2.isL = true ∧ q.2.name = x then some q.1 else acc) none
theorem lastOf_first [DecidableEq α] {t : Tr α} (nd : t.lv.Nodup) (x : α) : lastOf x (t.wk []) = firstOf x (t.wk []):=by
 have : ∀ (l : List (List Nat × Tr α)) (acc : Option (List Nat)),((l.filter fun q=>q.2.isL).map fun q=>q.2.name).Nodup →
  l.foldl (fun acc q=>if q.2.isL = true ∧ q.2.name = x then some q.1 else acc) acc = (match firstOf x l with | some p=>some p | none=>acc):=by
  intro l
  induction l with
  | nil=>intro acc _; rfl
  | cons q r ih =>
   intro acc nd
   simp only [List.foldl_cons,firstOf]
   have nd' : ((r.filter fun q=>q.2.isL).map fun q=>q.2.name).Nodup:=by
    simp only [List.filter_cons] at nd
    split at nd
    · exact (List.nodup_cons.mp nd).2
    · exact nd
   rw [ih _ nd']
   by_cases c : q.2.isL = true ∧ q.2.name = x
   · rw [if_pos c,if_pos c]
     have : firstOf x r = none:=by
      simp only [List.filter_cons,if_pos c.1,List.map_cons,List.nodup_cons] at nd
      have h:=nd.1
      rw [c.2] at h
      clear ih nd nd'
      induction r with
      | nil=>rfl
      | cons q' r ih =>
       simp only [firstOf]
       rw [if_neg]
       · refine ih fun z=>h ?_
         simp only [List.filter_cons]
         split
         · exact List.mem_cons_of_mem _ z
         · exact z
       · rintro ⟨z1,z2⟩
         apply h
         simp only [List.filter_cons,if_pos z1,List.map_cons]
         exact z2 ▸ List.mem_cons_self
     rw [this]
   · rw [if_neg c,if_neg c]
 unfold lastOf
 rw [this _ none (by rw [Tr.wk_lv]; exact nd)]
 cases firstOf x (t.wk []) <;> rfl
noncomputable def lawOver [DecidableEq α] (f : α) (a b : Option (List Nat)) (l : List (List Nat × Tr α)) : Option (List Nat):=l.foldl (fun acc q=>if q.2.isL = false ∧ q.2.name = f ∧ a = some (q.1 ++ [0]) ∧ b = some (q.1 ++ [1]) then some q.1 else acc) none
theorem lawOver_over [DecidableEq α] (t : Tr α) (f : α) (a b : Option (List Nat)) : lawOver f a b (t.wk []) = over t f a b:=by
 have gen : ∀ (l : List (List Nat × Tr α)) (acc : Option (List Nat)) (o : Option (List Nat)),
  (∀ q ∈ l,q.2.isL = false ∧ q.2.name = f ∧ a = some (q.1 ++ [0]) ∧ b = some (q.1 ++ [1]) → o = some q.1) →
  ((∃ q ∈ l,q.2.isL = false ∧ q.2.name = f ∧ a = some (q.1 ++ [0]) ∧ b = some (q.1 ++ [1])) ∨ acc = o) →
  l.foldl (fun acc q=>if q.2.isL = false ∧ q.2.name = f ∧ a = some (q.1 ++ [0]) ∧ b = some (q.1 ++ [1]) then some q.1 else acc) acc = o:=by
  intro l
  induction l with
  | nil=>intro acc o _ h; rcases h with ⟨q,hq,_⟩ | h; cases hq; exact h
  | cons q r ih =>
   intro acc o h1 h2
   simp only [List.foldl_cons]
   refine ih _ o (fun q' hq'=>h1 q' (List.mem_cons_of_mem _ hq')) ?_
   by_cases c : q.2.isL = false ∧ q.2.name = f ∧ a = some (q.1 ++ [0]) ∧ b = some (q.1 ++ [1])
   · rw [if_pos c]
     exact .inr (h1 q List.mem_cons_self c).symm
   · rw [if_neg c]
     rcases h2 with ⟨q',hq',c'⟩ | h2
     · rcases List.mem_cons.mp hq' with rfl | z
       · exact absurd c' c
       · exact .inl ⟨q',z,c'⟩
     · exact .inr h2
 refine gen _ none _ (fun q hq c=>?_) ?_
 · have hs:=Tr.sub_mem hq
   rw [c.2.2.1,c.2.2.2]
   refine over_mk ?_
   unfold knotAt
   rw [hs]
   have h1:=c.1
   have h2:=c.2.1
   generalize q.2 = s at h1 h2
   cases s with
   | leaf x=>cases h1
   | knot g l r=>exact decide_eq_true h2
 · cases e : over t f a b with
   | none=>exact .inr rfl
   | some p =>
    obtain ⟨h1,h2,h3⟩:=over_some e
    obtain ⟨l,r,hs⟩:=knotAt_sub h3
    have:=sub_wk t [] p _ hs
    exact .inl ⟨_,this,rfl,rfl,by simpa using h1,by simpa using h2⟩
end M
namespace L2
open PySem PySem.Spec PyProof.Rows
theorem forIn_of_step {α β : Type} {f : α → β → Sem (ForInStep β)} {g : β → α → β} : ∀ (l : List α) (b : β),(∀ x ∈ l,∀ b,f x b = pure (.yield (g b x))) → forIn l b f = pure (l.foldl g b)
 | [],b,_=>by rw [List.forIn_nil]; rfl
 | x :: l,b,h=>by
  rw [List.forIn_cons,h x List.mem_cons_self b,pure_bind]
  exact forIn_of_step l _ fun y hy b=>h y (List.mem_cons_of_mem _ hy) b
noncomputable def closStep (cells : List (Str × Addr)) (acc : List (Str × Addr)) (x : Str × NameKind) : List (Str × Addr) :=
 if (x.2 == NameKind.free) = true then (match cells.lookup x.1 with | some a=>(x.1,a) :: acc | none=>acc) else acc
noncomputable def closOf (cells : List (Str × Addr)) (names : List (Str × NameKind)) : List (Str × Addr):=names.foldl (closStep cells) []
theorem closureFor_of {scope : Scope} {env : Env} (h : ∀ y ∈ scope.names,y.2 = NameKind.free → ∃ a,env.cells.lookup y.1 = some a) : closureFor scope env = pure (closOf env.cells scope.names):=by
 simp only [closureFor]
 rw [forIn_of_step (g:=closStep env.cells) scope.names [] (fun x hx b=>by
  obtain ⟨n,k⟩:=x
  by_cases hk : (k == NameKind.free) = true
  · have hk' : k = .free:=by simpa using hk
    obtain ⟨a,e⟩:=h _ hx hk'
    have e' : env.cells.lookup n = some a:=e
    simp only [hk,if_true,closStep,e',cellOf,pure_bind]
    try rfl
  · simp only [hk,closStep]
    try rfl)]
 rw [pure_bind]
 rfl
theorem closStep_sound {cells acc : List (Str × Addr)} {y : Str × NameKind} {x : Str} {c : Addr} (h : (closStep cells acc y).lookup x = some c) : acc.lookup x = some c ∨ cells.lookup x = some c:=by
 unfold closStep at h
 split at h
 · split at h
   · rename_i a e
     rw [List.lookup_cons] at h
     split at h
     · rename_i hb
       have : x = y.1:=by simpa using hb
       rw [this,e]; exact .inr h
     · exact .inl h
   · exact .inl h
 · exact .inl h
theorem clos_sound {cells : List (Str × Addr)} : ∀ (names : List (Str × NameKind)) (acc : List (Str × Addr)) {x : Str} {c : Addr},(names.foldl (closStep cells) acc).lookup x = some c → acc.lookup x = some c ∨ cells.lookup x = some c
 | [],_,_,_,h=>.inl h
 | y :: r,acc,x,c,h=>by
  rcases clos_sound r _ h with h | h
  · exact closStep_sound h
  · exact .inr h
theorem closOf_sound {cells : List (Str × Addr)} {names : List (Str × NameKind)} {x : Str} {c : Addr} (h : (closOf cells names).lookup x = some c) : cells.lookup x = some c:=by
 rcases clos_sound names [] h with h | h
 · simp at h
 · exact h
theorem closStep_keeps {cells acc : List (Str × Addr)} {y : Str × NameKind} {x : Str} {c : Addr} (h : acc.lookup x = some c) : ∃ c',(closStep cells acc y).lookup x = some c':=by
 unfold closStep
 split
 · split
   · rw [List.lookup_cons]
     split
     · exact ⟨_,rfl⟩
     · exact ⟨c,h⟩
   · exact ⟨c,h⟩
 · exact ⟨c,h⟩
theorem clos_keeps {cells : List (Str × Addr)} : ∀ (names : List (Str × NameKind)) (acc : List (Str × Addr)) {x : Str} {c : Addr},acc.lookup x = some c → ∃ c',(names.foldl (closStep cells) acc).lookup x = some c'
 | [],_,_,c,h=>⟨c,h⟩
 | y :: r,acc,x,c,h=>by
  obtain ⟨c',h'⟩:=closStep_keeps (cells:=cells) (y:=y) h
  exact clos_keeps r _ h'
theorem clos_has {cells : List (Str × Addr)} : ∀ (names : List (Str × NameKind)) (acc : List (Str × Addr)) {x : Str} {a : Addr},(x,NameKind.free) ∈ names → cells.lookup x = some a → ∃ c',(names.foldl (closStep cells) acc).lookup x = some c'
 | [],_,_,_,h,_=>nomatch h
 | y :: r,acc,x,a,h,e=>by
  rcases List.mem_cons.mp h with rfl | h
  · refine clos_keeps r (closStep cells acc (x,.free)) (x:=x) (c:=a) ?_
    unfold closStep
    rw [if_pos (by rfl)]
    simp only [e]
    simp
  · exact clos_has r _ h e
theorem closOf_has {cells : List (Str × Addr)} {names : List (Str × NameKind)} {x : Str} {a : Addr} (h : (x,NameKind.free) ∈ names) (e : cells.lookup x = some a) : (closOf cells names).lookup x = some a:=by
 obtain ⟨c',h'⟩:=clos_has names [] h e
 have:=closOf_sound h'
 rw [e] at this; cases this
 exact h'
theorem lookup_mem {α : Type} : ∀ {l : List (Str × α)} {x : Str} {k : α},l.lookup x = some k → (x,k) ∈ l
 | [],_,_,h=>by simp at h
 | (n,k') :: r,x,k,h=>by
  rw [List.lookup_cons] at h
  split at h
  · rename_i hb
    cases h
    have : x = n:=by simpa using hb
    rw [this]; exact List.mem_cons_self
  · exact List.mem_cons_of_mem _ (lookup_mem h)
theorem lookup_relabel {env : Env} : ∀ {names : List (Str × NameKind)} {x : Str} {k : NameKind},
 (names.map fun (n,k)=>if (k == NameKind.free && env.scope.kind == .function && env.kindOf n == some .cell) then (n,NameKind.cell) else (n,k)).lookup x = some k →
 names.lookup x = some k ∨ (k = .cell ∧ names.lookup x = some .free)
 | [],_,_,h=>by simp at h
 | (n,k') :: r,x,k,h=>by
  have ih:=@lookup_relabel env r x k
  rw [List.map_cons] at h
  by_cases hc : (k' == NameKind.free && env.scope.kind == .function && env.kindOf n == some .cell) = true
  · have h2 : List.lookup x ((n,NameKind.cell) :: (r.map fun (n,k)=>if (k == NameKind.free && env.scope.kind == .function && env.kindOf n == some .cell) then (n,NameKind.cell) else (n,k))) = some k:=by
     simpa only [if_pos hc] using h
    rw [List.lookup_cons] at h2 ⊢
    split at h2
    · cases h2
      have : k' = .free:=by
       cases k' <;> first | rfl | simp at hc
      simp_all
    · exact ih h2
  · have h2 : List.lookup x ((n,k') :: (r.map fun (n,k)=>if (k == NameKind.free && env.scope.kind == .function && env.kindOf n == some .cell) then (n,NameKind.cell) else (n,k))) = some k:=by
     simpa only [if_neg hc] using h
    rw [List.lookup_cons] at h2 ⊢
    split at h2
    · exact .inl h2
    · exact ih h2
theorem relabel_free {env : Env} : ∀ {names : List (Str × NameKind)} {x : Str},names.lookup x = some .free →
 (names.map fun (n,k)=>if (k == NameKind.free && env.scope.kind == .function && env.kindOf n == some .cell) then (n,NameKind.cell) else (n,k)).lookup x = some .cell ∨
 (names.map fun (n,k)=>if (k == NameKind.free && env.scope.kind == .function && env.kindOf n == some .cell) then (n,NameKind.cell) else (n,k)).lookup x = some .free
 | [],_,h=>by simp at h
 | (n,k') :: r,x,h=>by
  have ih:=@relabel_free env r x
  rw [List.lookup_cons] at h
  rw [List.map_cons]
  dsimp only
  by_cases hc : (k' == NameKind.free && env.scope.kind == .function && env.kindOf n == some .cell) = true
  · rw [if_pos hc,List.lookup_cons]
    cases hb : (x == n) with
    | true=>exact .inl rfl
    | false =>
     rw [hb] at h
     exact ih h
  · rw [if_neg hc,List.lookup_cons]
    cases hb : (x == n) with
    | true =>
     rw [hb] at h
     exact .inr h
    | false =>
     rw [hb] at h
     exact ih h
noncomputable def blk (X : Cx) (N : List Str) (scope : Scope) (C : Addr) (s : Shared) (H : Hp) (ex : List Addr) : Cx :=
 { X with N:=N,s₀:=s,H₀:=H,env:=compEnvC scope (closOf X.env.cells scope.names) C X.env,outer:=X.stack,ex:=ex,fn:=fun _=>false,pn:=[],xe:=fun _ _=>False }
structure CSc (X : Cx) (scope : Scope) (x : Str) (N : List Str) (caps : List Nat) : Prop where
 kind : scope.kind = .function
 nocellB : (scope.names.all fun y=>y.2 != NameKind.cell) = true
 namesB : (scope.names.all fun y=>y.2 != NameKind.local || scope.names.lookup y.1 == some NameKind.local) = true
 lx : scope.names.lookup x = some .local
 nd : N.Nodup
 n0 : N[0]? = some x
 capN : caps.map (fun j=>X.N[j]?) = N.tail.map some
 capFB : (N.tail.all fun y=>scope.names.lookup y == some NameKind.free) = true
 freesB : (scope.names.all fun y=>y.2 != NameKind.free || X.env.scope.names.lookup y.1 == some NameKind.cell || X.env.scope.names.lookup y.1 == some NameKind.free) = true
theorem CSc.nocell {X : Cx} {scope : Scope} {x : Str} {N : List Str} {caps : List Nat} (S : CSc X scope x N caps) : ∀ y ∈ scope.names,y.2 ≠ .cell:=fun y hy=>by
 have h:=List.all_eq_true.mp S.nocellB y hy
 simpa using h
theorem CSc.names {X : Cx} {scope : Scope} {x : Str} {N : List Str} {caps : List Nat} (S : CSc X scope x N caps) : ∀ y ∈ scope.names,y.2 = .local → scope.names.lookup y.1 = some .local:=fun y hy e=>by
 have h:=List.all_eq_true.mp S.namesB y hy
 simp only [e,bne_self_eq_false,Bool.false_or] at h
 simpa using h
theorem CSc.capF {X : Cx} {scope : Scope} {x : Str} {N : List Str} {caps : List Nat} (S : CSc X scope x N caps) : ∀ y ∈ N.tail,scope.names.lookup y = some .free:=fun y hy=>by
 have h:=List.all_eq_true.mp S.capFB y hy
 simpa using h
theorem CSc.frees {X : Cx} {scope : Scope} {x : Str} {N : List Str} {caps : List Nat} (S : CSc X scope x N caps) : ∀ y ∈ scope.names,y.2 = .free → (X.env.kindOf y.1 = some .cell ∨ X.env.kindOf y.1 = some .free):=fun y hy e=>by
 have h:=List.all_eq_true.mp S.freesB y hy
 simp only [e,bne_self_eq_false,Bool.false_or,Bool.or_eq_true] at h
 rcases h with h | h
 · exact .inl (by show X.env.scope.names.lookup y.1 = _; simpa using h)
 · exact .inr (by show X.env.scope.names.lookup y.1 = _; simpa using h)
noncomputable def blkSt (caps : List Nat) (σ : St) (o : Option V) : St:=o :: caps.map fun j=>(σ[j]?).join
theorem HOk.adopt {P : Program} {w : World} {H : Hp} {h : Heap} {a : Addr} {o : HO} (x : HOk P w H h) (hn : H a = none) (new : ObjOk P w (upd H a o) h a o) : HOk P w (upd H a o) h:=fun b u e=>by
 by_cases hb : b = a
 · subst hb; rw [upd_same] at e; cases e; exact new
 · rw [upd_ne hb] at e
   exact (x b u e).stay (fun c v _ q=>q) (fun c q=>by rw [upd_ne (ne_of_none q hn)]; exact q) fun c xs q=>by rw [upd_ne (ne_of_none q hn)]; exact q
section
variable {X : Cx} {pins : List (Addr × Obj)} {σ : St} {H : Hp} {s : Shared} {scope : Scope} {x : Str} {N : List Str} {caps : List Nat} {fp : List Addr}
theorem CSc.cells (S : CSc X scope x N caps) (ok : X.Ok) : ∀ y ∈ scope.names,y.2 = NameKind.free → ∃ a,X.env.cells.lookup y.1 = some a:=fun y hy e=>ok.has _ (S.frees y hy e)
theorem CSc.len (S : CSc X scope x N caps) : N.length = caps.length + 1:=by
 have h:=congrArg List.length S.capN
 simp only [List.length_map,List.length_tail] at h
 have h2:=S.n0
 cases N with
 | nil=>simp at h2
 | cons a r=>simp at h ⊢; omega
theorem CSc.at (S : CSc X scope x N caps) {i : Nat} {y : Str} (h : N[i + 1]? = some y) : ∃ j,caps[i]? = some j ∧ X.N[j]? = some y ∧ scope.names.lookup y = some .free:=by
 have h2:=S.n0
 cases hN : N with
 | nil=>rw [hN] at h2; simp at h2
 | cons a r =>
  rw [hN] at h
  have ht : N.tail[i]? = some y:=by rw [hN]; simpa using h
  have e:=congrArg (fun l=>l[i]?) S.capN
  simp only [List.getElem?_map,ht,Option.map_some] at e
  cases hc : caps[i]? with
  | none=>rw [hc] at e; simp at e
  | some j =>
   rw [hc] at e
   refine ⟨j,rfl,?_,S.capF y ?_⟩
   · simpa using e
   · exact List.mem_of_getElem? ht
theorem blk_ok (S : CSc X scope x N caps) (I : Inv X pins σ H s) (hf : ∀ b ∈ fp,FpOk X pins H b) (hlt : ∀ b ∈ fp,b < s.heap.objs.size) :
 (blk X N scope (s.heap.objs.size + 1) s H (s.heap.objs.size :: fp)).Ok where
 mod:=I.ok.mod
 kind:=S.kind
 glob:=I.ok.glob
 blt:=I.ok.blt
 above:=Nat.le_succ _
 inj:=fun a b c e1 e2=>I.ok.inj a b c (closOf_sound e1) (closOf_sound e2)
 has:=fun y hy=>by
  have e : ∃ k,(relabel scope X.env).names.lookup y = some k ∧ (k = .cell ∨ k = .free):=by
   rcases hy with h | h
   · exact ⟨_,h,.inl rfl⟩
   · exact ⟨_,h,.inr rfl⟩
  obtain ⟨k,e,hk⟩:=e
  have hfree : scope.names.lookup y = some .free:=by
   rcases lookup_relabel (env:=X.env) e with h | ⟨_,h⟩
   · rcases hk with rfl | rfl
     · exact absurd rfl (S.nocell _ (lookup_mem h))
     · exact h
   · exact h
  obtain ⟨a,ea⟩:=S.cells I.ok _ (lookup_mem hfree) rfl
  exact ⟨a,closOf_has (lookup_mem hfree) ea⟩
 cab:=fun _ _ h=>by cases h
 hd:=I.ok.hd
 frames:=I.ok.frames
 stk:=.inl rfl
 exf:=fun b hb=>by
  rcases List.mem_cons.mp hb with rfl | hb
  · refine ⟨Nat.ne_of_lt (Nat.lt_succ_self _),fun y c e z=>?_⟩
    exact (I.fpOk (Nat.le_refl _) (I.hok.fresh (Nat.le_refl _))).2.2.2.2.1 y c (closOf_sound e) z
  · refine ⟨Nat.ne_of_lt (Nat.lt_succ_of_lt (hlt b hb)),fun y c e z=>?_⟩
    exact (hf b hb).2.2.2.2.1 y c (closOf_sound e) z
 bs:=I.bs
 bsz:=Nat.le_trans I.ok.bsz I.sz
 noex:=fun b o e hb=>by
  rcases List.mem_cons.mp hb with rfl | hb
  · exact absurd (Heap.lt_size (I.bk _ _ e)) (Nat.lt_irrefl _)
  · rcases (hf b hb).2.2.2.1 with z | z
    · exact I.ok.noex b o e z
    · exact absurd (Nat.lt_of_lt_of_le (Heap.lt_size (I.ok.bs b o e).1) z) (Nat.lt_irrefl _)
 exfs:=fun b hb hs=>by
  have hs':=I.stkSub b hs
  rcases List.mem_cons.mp hb with rfl | hb
  · rcases List.mem_cons.mp hs' with z | z
    · exact absurd I.lt (by rw [← z]; exact Nat.lt_irrefl _)
    · exact I.nofs (Nat.le_refl _) z
  · rcases List.mem_cons.mp hs' with z | z
    · exact (hf b hb).2.1 z
    · exact (hf b hb).2.2.1 z
 funs:=I.stack
 frf:=I.stkFree
theorem blk_inv (S : CSc X scope x N caps) (I : Inv X pins σ H s) (hf : ∀ b ∈ fp,FpOk X pins H b) (hlt : ∀ b ∈ fp,b < s.heap.objs.size) {h₁ : Heap} {m : Str → Option Value} {tk : Nat}
 (hns : h₁.Ns (s.heap.objs.size + 1) m) (old : ∀ b o,s.heap.get? b = some o → h₁.get? b = some o) :
 Inv (blk X N scope (s.heap.objs.size + 1) s H (s.heap.objs.size :: fp)) [] (blkSt caps σ none) H { s with heap:=h₁,toks:=tk } where
 ok:=blk_ok S I hf hlt
 os:=rfl
 bare:=I.bare
 base:=Un.kept old
 loc:=⟨m,hns,fun i y v e1 e2 _=>by
  cases i with
  | zero=>simp [blkSt] at e2
  | succ i =>
   obtain ⟨j,hj,hX,hfree⟩:=S.at e1
   have e2' : (σ[j]?).join = some v:=by
    simp only [blkSt,List.getElem?_cons_succ,List.getElem?_map,hj,Option.map_some] at e2
    exact Option.some.inj e2
   have e3 : σ[j]? = some (some v):=by
    cases hh : σ[j]? with
    | none=>rw [hh] at e2'; simp at e2'
    | some o=>rw [hh] at e2'; simp at e2'; rw [e2']
   obtain ⟨m₂,_,hl⟩:=I.loc
   have hk:=S.frees _ (lookup_mem hfree) rfl
   obtain ⟨u,r,l⟩:=hl j y v hX e3 (by
    rcases hk with k | k
    · exact .inr (.inl k)
    · exact .inr (.inr k))
   refine ⟨u,r,.inr ?_⟩
   rcases l with ⟨k,_⟩ | ⟨_,c,hc,hcell⟩
   · rcases hk with k' | k' <;> (rw [k] at k'; cases k')
   · obtain ⟨o,ho,hd⟩:=hcell
     exact ⟨relabel_free hfree,c,closOf_has (lookup_mem hfree) hc,o,old _ _ ho,hd⟩⟩
 cell:=fun y c e=>by
  obtain ⟨v,o,ho,hd⟩:=I.cell y c (closOf_sound e)
  exact ⟨v,o,old _ _ ho,hd⟩
 free:=I.hok.fresh (Nat.le_succ _)
 freeC:=fun y c e=>I.freeC y c (closOf_sound e)
 pin:=fun p hp=>by
  have : p ∈ ([] : List (Addr × Obj)):=hp
  simp at this
 hok:=I.hok.kept old
 len:=by
  show (blkSt caps σ none).length = N.length
  rw [S.len]; simp [blkSt]
end
noncomputable def PIfs (X : Cx) (ifs : List Expr) (t : TT) : Prop :=
 ∀ (pins : List (Addr × Obj)) (s : Shared) (σ : St) (H : Hp) (Q : Bool → Hp → Prop),Inv X pins σ H s → t σ H Q →
  wpAny (model X.prog X.w) X.A (forIn ifs true fun c r=>if r = true then do let ok ← isTrue c X.env (eval c X.env); pure (ForInStep.yield ok) else pure (ForInStep.yield r)) (TP X pins σ Q) X.xe s
noncomputable def tYes : TT:=fun _ H Q=>Q true H
theorem pif_nil {X : Cx} : PIfs X [] tYes:=fun pins s σ H Q I h=>wpAny_tests_nil ⟨H,I,h⟩
theorem pif_one {X : Cx} {c : Expr} {t : TT} (h : PT X c t) : PIfs X [c] t:=fun pins s σ H Q I hw=>wpAny_tests_one (h pins s σ H Q I hw)
noncomputable def wComp (J : It) (caps : List Nat) (tc : TT) (te : TE) (σ : St) (H1 : Hp) (Q : VK) : Prop :=
 ∃ W : Nat → Nat → List V → Hp → Prop,(∃ m,W 0 m [] H1) ∧ ∀ i m ys H,W i m ys H →
  (J.stop i H ∧ ∀ p,H p = none → Q (.ref p) (upd H p (.lst ys))) ∨
  (J.go i H ∧ ys.length < sizeLine ∧ ∃ N : List V → Hp → Prop,(∀ ys' H',N ys' H' → ∃ m',m' < m ∧ W (i + 1) m' ys' H') ∧ ∀ v H',J.yld i H v H' →
    tc (blkSt caps σ (some v)) H' fun b H2=>if b = true then te (blkSt caps σ (some v)) H2 fun y H3=>N (ys ++ [y]) H3 else N ys H2)
noncomputable def tComp (wi : TI) (caps : List Nat) (tc : TT) (te : TE) : TE:=fun σ H Q=>wi σ H fun J H1=>wComp J caps tc te σ H1 Q
theorem wp_pull {M : Model} {A : Around} {E : Value → Shared → Prop} {s : Shared} {m : Sem (Option Value)} {F : Value → Shared → Prop} (h : wpAny M A m (fun r s1=>∃ u,r = some u ∧ wpAny M A (pure () : Sem Unit) (fun _ s2=>F u s2) E s1) E s) :
 wpAny M A m (fun r s1=>∃ u,r = some u ∧ F u s1) E s:=fun Γ p hΓ =>
 Sem.wp_mono M Γ m (fun r p' s' h'=>by obtain ⟨u,e,h'⟩:=h'; exact ⟨u,e,h' Γ p' hΓ⟩) (fun _ _ _ h'=>h') p s (h Γ p hΓ)
section
variable {X : Cx} {pins : List (Addr × Obj)} {σ : St} {H : Hp} {s : Shared} {scope : Scope} {x : Str} {N : List Str} {caps : List Nat} {fp : List Addr}
noncomputable abbrev lobj (its : List Value) (k : Nat) : Obj:={ cls:=.type "list",data:=.seq its.toArray k }
theorem comp_block {elt iter : Expr} {px pos : Pos} {ifs : List Expr} {tc : TT} {te : TE} {J : It} {it : Addr} {tn : Nat → Heap → Prop} {Q : VK} {RR : Value → Addr → Result → Shared → Prop} {E : Value → Shared → Prop}
 (hcalm : X.calm = true) (S : CSc X scope x N caps) (hc : ∀ C s H ex,PIfs (blk X N scope C s H ex) ifs tc) (he : ∀ C s H ex,PE (blk X N scope C s H ex) elt te)
 (I : Inv X pins σ H s) (T : Turn X.prog X.w X.K (.Name x px) J fp it tn) (t0 : tn 0 s.heap) (hf : ∀ b ∈ fp,FpOk X pins H b) (wc : wComp J caps tc te σ H Q)
 (fin : ∀ D C s' m' H' ys,Inv X pins σ (upd H' D (.lst ys)) s' → Q (.ref D) (upd H' D (.lst ys)) → s'.heap.Ns C m' → FpOk X pins (upd H' D (.lst ys)) C → C ≠ X.env.locals → RR (.ref D) C (.ok .next) s') :
 wpAny (model X.prog X.w) X.A (newList []) (fun acc s₃=>wpAny (model X.prog X.w) X.A (newFunctionEnv scope X.env.globals (closOf X.env.cells scope.names) [] X.env.qual none .none (some X.env)) (fun cenv s₄ =>
  codeAny (model X.prog X.w) X.A (.compStart (.ListComp elt [⟨.Name x px,iter,ifs,0⟩] scope pos) 0 (.ref it) acc { cenv with scope:=relabel scope X.env }) (RR acc cenv.locals) s₄) E s₃) E s:=by
 refine wpAny_newObj_type (wpAny_newFunctionEnv S.nocell (by intro y hy; simp at hy) (fun h₁ hns₁ hsb₁=>?_) S.kind)
 dsimp only at hns₁ hsb₁ ⊢
 generalize hH2 : s.heap.push { cls:=.type "list",dict:=none,data:=.seq ([] : List Value).toArray } = H2 at hns₁ hsb₁ ⊢
 have hC : H2.objs.size = s.heap.objs.size + 1:=by rw [← hH2,Heap.size_push]
 have hDC : s.heap.objs.size ≠ H2.objs.size:=by rw [hC]; exact Nat.ne_of_lt (Nat.lt_succ_self _)
 have below : ∀ b,b < s.heap.objs.size → b ≠ H2.objs.size:=fun b hb=>by rw [hC]; exact Nat.ne_of_lt (Nat.lt_succ_of_lt hb)
 have old : ∀ b o,s.heap.get? b = some o → h₁.get? b = some o:=fun b o e=>hsb₁.extBut b o (below b (Heap.lt_size e)) (Heap.get?_push_of_some _ (hH2 ▸ Heap.get?_push_of_some _ e))
 have hacc : h₁.get? s.heap.objs.size = some (lobj [] 0):=hsb₁.extBut _ _ hDC (Heap.get?_push_of_some _ (hH2 ▸ Heap.get?_push_size _ rfl))
 have hlt : ∀ b ∈ fp,b < s.heap.objs.size:=fun b hb=>by
  obtain ⟨o,e,_⟩:=T.obj 0 _ t0 b hb
  exact Heap.lt_size e
 have hDfp : s.heap.objs.size ∉ fp:=fun z=>Nat.lt_irrefl _ (hlt _ z)
 have hDok : FpOk X pins H s.heap.objs.size:=I.fpOk (Nat.le_refl _) (I.hok.fresh (Nat.le_refl _))
 have hCok : FpOk X pins H H2.objs.size:=I.fpOk (by rw [hC]; exact Nat.le_succ _) (I.hok.fresh (by rw [hC]; exact Nat.le_succ _))
 rw [hC] at hns₁ hDC hCok ⊢
 clear hC
 generalize hD : s.heap.objs.size = D at hacc hDfp hDok hDC
 have IY:=blk_inv S I hf hlt (h₁:=h₁) (tk:=s.toks + ([] : List (Str × Value)).length) hns₁ old
 rw [hD] at IY hns₁ hCok
 generalize hY : blk X N scope (D + 1) s H (D :: fp) = Y at IY
 have envY : Y.env = compEnvC scope (closOf X.env.cells scope.names) (D + 1) X.env:=by rw [← hY]; rfl
 have exY : Y.ex = D :: fp:=by rw [← hY]; rfl
 have fsY : Y.fs = frs X.stack:=by rw [← hY]; rfl
 have pnY : Y.pn = []:=by rw [← hY]; rfl
 have locY : Y.env.locals = D + 1:=by rw [envY]; rfl
 have hcY : PIfs Y ifs tc:=by rw [← hY]; exact hc _ _ _ _
 have heY : PE Y elt te:=by rw [← hY]; exact he _ _ _ _
 have prY : Y.prog = X.prog ∧ Y.w = X.w ∧ Y.K = X.K ∧ Y.calm = X.calm ∧ Y.A = X.A ∧ Y.N = N ∧ Y.xe = fun _ _=>False:=by rw [← hY]; exact ⟨rfl,rfl,rfl,rfl,rfl,rfl,rfl⟩
 obtain ⟨pr1,pr2,pr3,pr4,pr5,pr6,pr7⟩:=prY
 have fpY : ∀ {H' : Hp} {pl : List (Addr × Obj)},(∀ b ∈ fp,H' b = none) → (∀ p ∈ pl,p.1 = D) → ∀ b ∈ fp,FpOk Y pl H' b:=fun {H' pl} hn hp b hb=>by
  refine ⟨hn b hb,?_,?_,.inl (by rw [exY]; exact List.mem_cons_of_mem _ hb),fun y c e=>(IY.ok.exf b (by rw [exY]; exact List.mem_cons_of_mem _ hb)).2 y c e,fun p hpp z=>?_⟩
  · exact (IY.ok.exf b (by rw [exY]; exact List.mem_cons_of_mem _ hb)).1
  · exact IY.ok.exfs b (by rw [exY]; exact List.mem_cons_of_mem _ hb)
  · rw [pnY,List.nil_append] at hpp
    exact hDfp (by rw [← hp p hpp,z]; exact hb)
 have hDY : D ∈ Y.ex:=by rw [exY]; exact List.mem_cons_self
 have pinD : ∀ {H' : Hp} {s' : Shared} {σ' : St} {its : List Value} {k : Nat},Inv Y [] σ' H' s' → H' D = none → s'.heap.get? D = some (lobj its k) → Inv Y [(D,lobj its k)] σ' H' s':=fun {H' s' σ' its k} I' hn e =>
  I'.pins_of fun p hp=>by
   have hp' : p = (D,lobj its k):=by simpa using hp
   subst hp'
   refine ⟨e,hn,(IY.ok.exf D hDY).1,IY.ok.exfs D hDY,fun v z=>?_⟩
   have z' : Data.seq its.toArray k = Data.cell v:=z
   cases z'
 obtain ⟨W,⟨m0,w0⟩,turn⟩:=wc
 have loop : ∀ s₃ : Shared,s₃ = { s with heap:=h₁,toks:=s.toks + ([] : List (Str × Value)).length } →
  codeAny (model X.prog X.w) X.A (.compLoop (.ListComp elt [⟨.Name x px,iter,ifs,0⟩] scope pos) 0 (.ref it) (.ref D) Y.env) (RR (.ref D) (D + 1)) s₃:=by
  rintro s₃ rfl
  refine codeAny_compLoop_tests
   (fun n s'=>∃ i ys its k H',Inv Y [(D,lobj its k)] (blkSt caps σ none) H' s' ∧ Vals ys its ∧ ys.length ≤ sizeLine ∧ tn i s'.heap ∧ (∀ b ∈ fp,H' b = none) ∧ W i n ys H') ?_ m0
   ⟨0,[],[],0,H,pinD IY hDok.1 hacc,.nil,Nat.zero_le _,T.keep _ _ _ t0 fun b _ o e=>old b o e,fun b hb=>(hf b hb).1,w0⟩
  rintro n s1 ⟨i,ys,its,k,H1,I1,rv,hl,st1,fr1,w1⟩
  have pin1 : ∀ p ∈ [(D,lobj its k)],p.1 = D:=fun p hp=>by
   have hp' : p = (D,lobj its k):=by simpa using hp
   rw [hp']
  rcases turn i n ys H1 w1 with ⟨stop,qn⟩ | ⟨go,hsz,Nx,hNx,step⟩
  · have z:=T.done Y pr1 pr2 pr3 (pr4.trans hcalm) i [(D,lobj its k)] s1 (blkSt caps σ none) H1 (notedBy (model X.prog X.w) X.A Y.env fun e s'=>RR (.ref D) (D + 1) (.error e) s') I1 (fpY fr1 pin1) st1 stop
    rw [pr5] at z
    refine thn z fun r s2 ⟨hr,I2⟩=>?_
    subst hr
    obtain ⟨eD,nD,_,_,_⟩:=I2.pin (D,lobj its k) (List.mem_append_right _ List.mem_cons_self)
    have hU : Un (frs X.stack) (D :: fp) H (upd H1 D (.lst ys)) s.heap s2.heap:=by
     have b:=I2.base
     rw [fsY,exY] at b
     have b' : Un (frs X.stack) (D :: fp) H H1 s.heap s2.heap:=by
      have e1 : Y.H₀ = H:=by rw [← hY]; rfl
      have e2 : Y.s₀ = s:=by rw [← hY]; rfl
      rw [e1,e2] at b; exact b
     have ne : ∀ a u,H1 a = some u → a ≠ D:=fun a u e=>ne_of_none e nD
     exact ⟨b'.keep,b'.slot,fun a o e n hx=>by rw [upd_ne (fun z=>hx (by rw [z]; exact List.mem_cons_self))]; exact b'.free a o e n hx,b'.there,
      fun a xs e=>by rw [upd_ne (ne _ _ (b'.tups a xs e))]; exact b'.tups a xs e,fun a o u e=>by rw [upd_ne (ne _ _ (b'.frzs a o u e))]; exact b'.frzs a o u e,
      fun a ps e=>by obtain ⟨mo,q⟩:=b'.tbls a ps e; exact ⟨mo,by rw [upd_ne (ne _ _ q)]; exact q⟩⟩
    have hHok : HOk X.prog X.w (upd H1 D (.lst ys)) s2.heap:=by
     have q:=I2.hok
     rw [pr1,pr2] at q
     exact q.adopt nD ⟨hl,its,k,rv,eD⟩
    have IX : Inv X pins σ (upd H1 D (.lst ys)) s2:=I.call' (by have:=I2.os; rw [show Y.s₀ = s by rw [← hY]; rfl] at this; exact this) hU hHok I2.bare (fun b hb=>by
     rcases List.mem_cons.mp hb with rfl | hb
     · exact ⟨hDok.2.2.2.1,hDok.2.1,hDok.2.2.2.2.1,hDok.2.2.2.2.2⟩
     · have q:=hf b hb
       exact ⟨q.2.2.2.1,q.2.1,q.2.2.2.2.1,q.2.2.2.2.2⟩)
    obtain ⟨mC,hnC,_⟩:=I2.loc
    rw [locY] at hnC
    have fC:=I2.free
    rw [locY] at fC
    exact fin D (D + 1) s2 mC H1 ys IX (qn D nD) hnC ⟨by rw [upd_ne (fun z=>hDC z.symm)]; exact fC,hCok.2⟩ hCok.2.1
  · have z:=wp_pull (T.item Y pr1 pr2 pr3 (pr4.trans hcalm) i [(D,lobj its k)] s1 (blkSt caps σ none) H1 (notedBy (model X.prog X.w) X.A Y.env fun e s'=>RR (.ref D) (D + 1) (.error e) s') I1 (fpY fr1 pin1) st1 go)
    rw [pr5] at z
    refine thn z fun r s2 ⟨u,hr,v,H2,I2,ru,yld,st2,fr2⟩=>?_
    subst hr
    have I2':=I2.pinned (fpY fr2 pin1) (T.obj _ _ st2)
    have lxY : Y.env.scope.names.lookup x = some .local:=by rw [envY]; exact lookup_relabel_local S.lx
    have g:=pg_name (X:=Y) (i:=0) (x:=x) (pos:=px) (by rw [pr6]; exact S.nd) (by rw [pr6]; exact S.n0) (.inl lxY) (.inr lxY)
    have a:=g _ s2 _ H2 v u (fun σ' H'=>σ' = blkSt caps σ (some v) ∧ H' = H2) I2' ru ⟨rfl,rfl⟩
    rw [pr1,pr2,pr5,pr7] at a
    refine wpAny_mono a (fun _ s3 ⟨σ3,H3,I3,e1,e2⟩=>?_) fun _ _ f=>f.elim
    subst e1 e2
    have c:=hcY _ s3 _ H3 _ I3 (step v H3 yld)
    rw [pr1,pr2,pr5,pr7] at c
    refine wpAny_mono c (fun b s4 ⟨H4,I4,q4⟩=>?_) fun _ _ f=>f.elim
    have again : ∀ {s5 : Shared} {H5 : Hp} {ys' : List V} {its' : List Value} {k' m' : Nat},Inv Y (pinsAt fp s2.heap) (blkSt caps σ (some v)) H5 s5 → H5 D = none → s5.heap.get? D = some (lobj its' k') → Vals ys' its' → ys'.length ≤ sizeLine → m' < n → W (i + 1) m' ys' H5 →
     ∃ m,m < n ∧ ∃ i ys its k H',Inv Y [(D,lobj its k)] (blkSt caps σ none) H' s5 ∧ Vals ys its ∧ ys.length ≤ sizeLine ∧ tn i s5.heap ∧ (∀ b ∈ fp,H' b = none) ∧ W i m ys H':=fun {s5 H5 ys' its' k' m'} I5 nD eD rv' hl' hm w'=>by
     refine ⟨m',hm,i + 1,ys',its',k',H5,pinD ((I5.pins_of fun p hp=>by simp at hp).weak (by simp [blkSt]) fun j w hj=>?_) nD eD,rv',hl',T.keep _ _ _ st2 fun b hb o e=>(I5.pin (b,o) (List.mem_append_right _ (mem_pinsAt hb e))).1,fun b hb=>?_,w'⟩
     · cases j with
       | zero=>simp [blkSt] at hj
       | succ j=>simpa [blkSt] using hj
     · obtain ⟨o,e,d⟩:=T.obj _ _ st2 b hb
       exact (I5.pin (b,o) (List.mem_append_right _ (mem_pinsAt hb e))).2.1
    have drop1 : ∀ {s5 : Shared} {H5 : Hp} {σ5 : St},Inv Y ([(D,lobj its k)] ++ pinsAt fp s2.heap) σ5 H5 s5 → Inv Y (pinsAt fp s2.heap) σ5 H5 s5:=fun I5=>I5.pins_of fun p hp=>I5.pin p (List.mem_append_right _ (List.mem_append_right _ hp))
    cases b with
    | false =>
     obtain ⟨m',hm,w'⟩:=hNx _ _ q4
     obtain ⟨eD,nD,_⟩:=I4.pin (D,lobj its k) (List.mem_append_right _ (List.mem_append_left _ List.mem_cons_self))
     exact again (drop1 I4) nD eD rv hl hm w'
    | true =>
     rw [if_pos rfl]
     rw [if_pos rfl] at q4
     have d:=heY _ s4 _ H4 _ I4 q4
     rw [pr1,pr2,pr5,pr7] at d
     refine wpAny_mono d (fun w s5 ⟨y,H5,I5,ry,q5⟩=>?_) fun _ _ f=>f.elim
     obtain ⟨m',hm,w'⟩:=hNx _ _ q5
     obtain ⟨eD,nD,_⟩:=I5.pin (D,lobj its k) (List.mem_append_right _ (List.mem_append_left _ List.mem_cons_self))
     refine append_at (hsz:=by rw [List.size_toArray,← rv.length]; exact hl) eD fun h6 hs6 hD6=>?_
     have I6 : Inv Y (pinsAt fp s2.heap) (blkSt caps σ (some v)) H5 { s5 with heap:=h6,toks:=s5.toks }:=(drop1 I5).turned (fun b o hb e=>(hs6.2 b hb).trans e) nD (IY.ok.exf D hDY).1 (.inl hDY) (fun y c e=>(IY.ok.exf D hDY).2 y c e) (fun p hp=>by
      rw [pnY,List.nil_append] at hp
      intro z
      exact hDfp (by rw [← z]; exact (of_pinsAt hp).1))
     refine again (ys':=ys ++ [y]) (its':=its ++ [w]) (k':=k + 1) I6 nD ?_ (rv.append (.cons ry .nil)) (by rw [List.length_append,List.length_singleton]; exact hsz) hm w'
     rw [hD6]
     show some ({ cls:=.type "list",data:=.seq (its.toArray.push w) (k + 1) } : Obj) = some { cls:=.type "list",data:=.seq (its ++ [w]).toArray (k + 1) }
     rw [List.push_toArray]
 rw [envY] at loop
 have st1 : tn 0 h₁:=T.keep _ _ _ t0 fun b _ o e=>old b o e
 exact codeAny_compStart_list (loop _ rfl) (T.self _ 0 _ _ _ st1 (loop _ rfl))
theorem pe_comp {elt iter : Expr} {px pos : Pos} {ifs : List Expr} {wi : TI} {tc : TT} {te : TE} (hcalm : X.calm = true) (S : CSc X scope x N caps) (hi : PI X (.Name x px) iter wi)
 (hc : ∀ C s H ex,PIfs (blk X N scope C s H ex) ifs tc) (he : ∀ C s H ex,PE (blk X N scope C s H ex) elt te) (hs : ∀ x,foldedSetIterable iter X.env x = pure x:=by intro _; rfl) :
 PE X (.ListComp elt [⟨.Name x px,iter,ifs,0⟩] scope pos) (tComp wi caps tc te):=by
 intro pins s σ H Q I h
 rw [eval_ListComp]
 refine wpAny_comprehension_free (use:=none) rfl hs (closureFor_of (S.cells I.ok)) S.kind S.names (thn (hi pins s σ H _ I h) fun xv s1 h1=>thn h1 fun itv s2 h2=>?_)
 obtain ⟨it,fp,tn,J,H2,e,I2,T,st2,f2,wc⟩:=h2
 subst e
 refine comp_block (RR:=fun acc C=>compPost (model X.prog X.w) X.A X.xe none (EP X pins σ Q) acc C) hcalm S hc he I2 T st2 f2 wc fun D C s' m' H' ys I' q hn fC _=>?_
 refine ⟨m',hn,fun h' hs'=>⟨.ref D,upd H' D (.lst ys),?_,rfl,q⟩⟩
 exact I'.turned (t':=s'.toks) (fun b o hb e=>(hs'.2 b hb).trans e) fC.1 fC.2.1 fC.2.2.2.1 fC.2.2.2.2.1 fC.2.2.2.2.2
theorem ps_comp {elt iter : Expr} {px py pos spos : Pos} {ifs : List Expr} {wi : TI} {tc : TT} {te : TE} {y : Str} {i : Nat} (hcalm : X.calm = true) (S : CSc X scope x N caps) (hi : PI X (.Name x px) iter wi)
 (hc : ∀ C s H ex,PIfs (blk X N scope C s H ex) ifs tc) (he : ∀ C s H ex,PE (blk X N scope C s H ex) elt te) (hN : X.N.Nodup) (hy : X.N[i]? = some y) (hx : X.env.scope.names.lookup y = some .local)
 (hsw : swapsWith (.ListComp elt [⟨.Name x px,iter,ifs,0⟩] scope pos) (some (.Name y py)) spos.line X.env = pure true) (hs : ∀ x,foldedSetIterable iter X.env x = pure x:=by intro _; rfl) :
 PS X (.Assign [.Name y py] (.ListComp elt [⟨.Name x px,iter,ifs,0⟩] scope pos) spos) (fun D σ H=>tComp wi caps tc te σ H fun v H1=>D.nx (σ.set i (some v)) H1):=by
 intro pins s σ H D I h
 rw [exec_Assign_Name_used _ _ _ _ hsw]
 refine wpAny_bind (wpAny_standAt (wpAny_bind ?_))
 show wpAny _ X.A (do let _ ← comprehension (.ListComp elt [⟨.Name x px,iter,ifs,0⟩] scope pos) scope X.env _ (newList []) false (eval iter X.env) (some (assign (.Name y py) X.env))) _ _ s
 refine wpAny_bind (wpAny_mono (wpAny_comprehension_free (use:=some (assign (.Name y py) X.env)) (Q:=fun _ s'=>SP X pins D .next s') rfl hs (closureFor_of (S.cells I.ok)) S.kind S.names
  (thn (hi pins s σ H _ I h) fun xv s1 h1=>thn h1 fun itv s2 h2=>?_)) (fun _ s' hq=>wpAny_pure (wpAny_pure hq)) fun _ _ e=>e)
 obtain ⟨it,fp,tn,J,H2,e,I2,T,st2,f2,wc⟩:=h2
 subst e
 refine comp_block (RR:=fun acc C=>compPost (model X.prog X.w) X.A X.xe (some (assign (.Name y py) X.env)) (fun _ s'=>SP X pins D .next s') acc C) hcalm S hc he I2 T st2 f2 wc fun d C s' m' H' ys I' q hn fC hCL=>?_
 show wpAny _ X.A (assign (.Name y py) X.env (.ref d)) _ _ _
 refine wpAny_assign_Name (store_ok2 I' hN hy (.inl hx) (v:=.ref d) rfl (fun s'' I'' ⟨a,hs,ha⟩=>?_) (.inr hx))
 have hne : C ≠ a:=by
  rcases ha with rfl | ha
  · exact hCL
  · exact fun z=>fC.2.2.2.2.1 _ _ ha z.symm
 refine ⟨m',hn.sameBut hs hne,fun h' hs'=>⟨_,_,I''.turned (t':=s''.toks) (fun b o hb e=>(hs'.2 b hb).trans e) fC.1 fC.2.1 fC.2.2.2.1 fC.2.2.2.2.1 fC.2.2.2.2.2,q⟩⟩
end
end L2
namespace L2
open PySem PySem.Spec PyProof.Rows
theorem comp_list {K : PySem.W.Frag} {a : Addr} {xs : List V} {caps : List Nat} {tc : TT} {te : TE} {σ : St} {H : Hp} {Q : VK} (Pv : Nat → List V → Hp → Prop) (h0 : Pv 0 [] H) (hx : xs.length < sizeLine) (hy : ∀ i ys H,Pv i ys H → ys.length ≤ i)
 (hl : ∀ i ys H,i ≤ xs.length → Pv i ys H → SqL K H a xs)
 (hs : ∀ i x ys H,xs[i]? = some x → Pv i ys H → tc (blkSt caps σ (some x)) H fun b H2=>if b = true then te (blkSt caps σ (some x)) H2 fun y H3=>Pv (i + 1) (ys ++ [y]) H3 else Pv (i + 1) ys H2)
 (hd : ∀ ys H,Pv xs.length ys H → ∀ p,H p = none → Q (.ref p) (upd H p (.lst ys))) : wComp (Itl K a) caps tc te σ H Q:=by
 refine ⟨fun i m ys H=>m = xs.length - i ∧ i ≤ xs.length ∧ Pv i ys H,⟨xs.length,by simp,Nat.zero_le _,h0⟩,?_⟩
 rintro i m ys H ⟨rfl,hi,p⟩
 have q:=hl i ys H hi p
 by_cases hlt : i < xs.length
 · refine .inr ⟨⟨xs,xs[i],q,by simp [hlt]⟩,Nat.lt_of_le_of_lt (Nat.le_trans (hy i ys H p) hi) hx,Pv (i + 1),fun ys' H' p'=>⟨xs.length - (i + 1),by omega,rfl,hlt,p'⟩,fun x H' y=>?_⟩
   obtain ⟨e,y⟩:=y
   subst e
   exact hs i x ys _ (y xs q) p
 · have e : i = xs.length:=by omega
   subst e
   exact .inl ⟨⟨xs,q,Nat.le_refl _⟩,hd ys H p⟩
theorem comp_range {lo : Int} {n : Nat} {caps : List Nat} {tc : TT} {te : TE} {σ : St} {H : Hp} {Q : VK} (Pv : Nat → List V → Hp → Prop) (h0 : Pv 0 [] H) (hx : n < sizeLine) (hy : ∀ i ys H,Pv i ys H → ys.length ≤ i)
 (hs : ∀ i ys H,i < n → Pv i ys H → tc (blkSt caps σ (some (.int (lo + i)))) H fun b H2=>if b = true then te (blkSt caps σ (some (.int (lo + i)))) H2 fun y H3=>Pv (i + 1) (ys ++ [y]) H3 else Pv (i + 1) ys H2)
 (hd : ∀ ys H,Pv n ys H → ∀ p,H p = none → Q (.ref p) (upd H p (.lst ys))) : wComp (Itr lo n) caps tc te σ H Q:=by
 refine ⟨fun i m ys H=>m = n - i ∧ i ≤ n ∧ Pv i ys H,⟨n,by simp,Nat.zero_le _,h0⟩,?_⟩
 rintro i m ys H ⟨rfl,hi,p⟩
 by_cases hlt : i < n
 · refine .inr ⟨hlt,Nat.lt_of_le_of_lt (Nat.le_trans (hy i ys H p) hi) hx,Pv (i + 1),fun ys' H' p'=>⟨n - (i + 1),by omega,rfl,hlt,p'⟩,fun x H' y=>?_⟩
   obtain ⟨e,y⟩:=y
   subst e y
   exact hs i ys _ hlt p
 · have e : i = n:=by omega
   subst e
   exact .inl ⟨Nat.le_refl _,hd ys H p⟩
section
variable {X : Cx}
theorem strsAre_of {ys : List Str} : ∀ {us : List Value},Vals (ys.map V.str) us → StrsAre us ys:=by
 induction ys with
 | nil=>intro us r; cases r; exact .nil
 | cons y ys ih =>
  intro us r
  cases r with
  | cons r t =>
   obtain ⟨k,rfl⟩:=r
   exact .cons y k (ih t)
noncomputable def rJoin (K : PySem.W.Frag) : V → List V → Hp → VK → Prop:=fun x xs H Q=>∃ sep a ys,x = .str sep ∧ xs = [.ref a] ∧ (SqL K H a (ys.map V.str) ∨ SqT K H a (ys.map V.str)) ∧ (ys.map (·.length)).sum + ys.length * sep.length ≤ 16777216 ∧ Q (.str (Txt.join sep ys)) H
theorem mt_join : MtR X "str.join" (rJoin X.K):=by
 intro pins s σ H x xs v us Q I rx rs h
 obtain ⟨sep,a,ys,rfl,rfl,hq,hok,q⟩:=h
 obtain ⟨t,rfl⟩:=rx
 obtain ⟨u,rfl,ru⟩:=vals1 rs
 cases ru
 rcases hq with hq | hq
 · obtain ⟨its,rv,p,hz⟩:=I.list hq
   exact join_list p.isList (strsAre_of rv) hok fun t' k=>⟨.str _,H,I.tok _,⟨_,rfl⟩,q⟩
 · obtain ⟨its,rv,p,hz⟩:=I.tuple hq
   exact join_tuple p (strsAre_of rv) hok fun t' k=>⟨.str _,H,I.tok _,⟨_,rfl⟩,q⟩
noncomputable def tJs : List TE → Str → TE
 | [],acc=>fun _ H Q=>acc.length ≤ sizeLine ∧ Q (.str acc) H
 | t :: r,acc=>fun σ H Q=>t σ H fun v H1=>∃ y,v = .str y ∧ (acc ++ y).length ≤ sizeLine ∧ tJs r (acc ++ y) σ H1 Q
inductive PEs (X : Cx) : List Expr → List TE → Prop
 | nil : PEs X [] []
 | cons {e : Expr} {t : TE} {es : List Expr} {ts : List TE} : PE X e t → PEs X es ts → PEs X (e :: es) (t :: ts)
theorem pe_parts {pins : List (Addr × Obj)} {σ : St} {Q : VK} {es : List Expr} {ts : List TE} (h : PEs X es ts) : ∀ (acc : Str) (H : Hp) (s : Shared),Inv X pins σ H s → tJs ts acc σ H Q →
 Joins (model X.prog X.w) X.A X.xe (evalEach es X.env) acc (fun out s₁=>out.length ≤ sizeLine ∧ EP X pins σ Q (.str out s₁.toks) { s₁ with toks:=s₁.toks + 1 }) s:=by
 induction h with
 | nil=>intro acc H s I h; exact ⟨h.1,.str acc,H,I.tok _,⟨_,rfl⟩,h.2⟩
 | @cons e t es ts he _ ih =>
  intro acc H s I h
  refine thn (he pins s σ H _ I h) fun v s1 ⟨x,H1,I1,r1,y,ey,hz,q⟩=>?_
  subst ey
  obtain ⟨t,rfl⟩:=r1
  exact ⟨y,t,rfl,hz,ih _ H1 s1 I1 q⟩
theorem pe_js {e1 e2 : Expr} {es : List Expr} {ts : List TE} {pos : Pos} (h : PEs X (e1 :: e2 :: es) ts) : PE X (.JoinedStr (e1 :: e2 :: es) pos) (tJs ts Str.empty):=by
 intro pins s σ H Q I hw
 exact JoinedStr_many (wpAny_joinPartsRec _ _ _ _ (pe_parts h _ H s I hw))
end
end L2
namespace L2
open PySem PySem.Spec PyProof.Rows
inductive D where
 | non | bl (b : Bool) | int (i : Int) | str (x : Str) | tup (ds : List D) | lst (ds : List D)
mutual
noncomputable def D.eq : D → D → Bool
 | .non,e=>match e with | .non=>true | _=>false
 | .bl a,e=>match e with | .bl b=>a == b | .int j=>(if a then (1 : Int) else 0) == j | _=>false
 | .int i,e=>match e with | .int j=>i == j | .bl b=>i == (if b then (1 : Int) else 0) | _=>false
 | .str x,e=>match e with | .str y=>x == y | _=>false
 | .tup ds,e=>match e with | .tup es=>D.eqs ds es | _=>false
 | .lst ds,e=>match e with | .lst es=>D.eqs ds es | _=>false
noncomputable def D.eqs : List D → List D → Bool
 | [],es=>es.isEmpty
 | d :: ds,es=>match es with | []=>false | e :: r=>D.eq d e && D.eqs ds r
end
mutual
noncomputable def D.dp : D → Nat
 | .tup ds=>D.dps ds + 1
 | .lst ds=>D.dps ds + 1
 | _=>0
noncomputable def D.dps : List D → Nat
 | []=>0
 | d :: ds=>max (D.dp d) (D.dps ds)
end
mutual
noncomputable def D.cl : D → Bool
 | .bl _=>false
 | .tup ds=>D.cls ds
 | .lst ds=>D.cls ds
 | _=>true
noncomputable def D.cls : List D → Bool
 | []=>true
 | d :: ds=>D.cl d && D.cls ds
end
mutual
theorem D.eq_refl : ∀ d : D,D.eq d d = true
 | .non=>rfl
 | .bl b=>by simp [D.eq]
 | .int i=>by simp [D.eq]
 | .str x=>by simp [D.eq]
 | .tup ds=>by simp only [D.eq]; exact D.eqs_refl ds
 | .lst ds=>by simp only [D.eq]; exact D.eqs_refl ds
theorem D.eqs_refl : ∀ ds : List D,D.eqs ds ds = true
 | []=>rfl
 | d :: ds=>by simp only [D.eqs,D.eq_refl d,D.eqs_refl ds,Bool.and_self]
end
mutual
theorem D.eq_of : ∀ (d e : D),d.cl = true → e.cl = true → D.eq d e = true → d = e
 | .non,e,_,_,h=>by cases e <;> first | rfl | (simp [D.eq] at h)
 | .bl b,e,c,_,_=>by simp [D.cl] at c
 | .int i,e,_,c,h=>by cases e <;> first | (exfalso; simp [D.cl] at c; done) | (simp [D.eq] at h; rw [h]; done) | (simp [D.eq] at h)
 | .str x,e,_,_,h=>by cases e <;> first | (simp [D.eq] at h; rw [h]) | (simp [D.eq] at h)
 | .tup ds,e,c,c',h=>by
  cases e <;> first
   | (rename_i es
      simp only [D.eq] at h
      simp only [D.cl] at c c'
      rw [D.eqs_of ds es c c' h])
   | (simp [D.eq] at h)
 | .lst ds,e,c,c',h=>by
  cases e <;> first
   | (rename_i es
      simp only [D.eq] at h
      simp only [D.cl] at c c'
      rw [D.eqs_of ds es c c' h])
   | (simp [D.eq] at h)
theorem D.eqs_of : ∀ (ds es : List D),D.cls ds = true → D.cls es = true → D.eqs ds es = true → ds = es
 | [],es,_,_,h=>by cases es <;> first | rfl | (simp [D.eqs] at h)
 | d :: ds,es,c,c',h=>by
  cases es with
  | nil=>simp [D.eqs] at h
  | cons e r =>
   simp only [D.eqs,Bool.and_eq_true] at h
   simp only [D.cls,Bool.and_eq_true] at c c'
   rw [D.eq_of d e c.1 c'.1 h.1,D.eqs_of ds r c.2 c'.2 h.2]
end
theorem D.eq_iff {d e : D} (c : d.cl = true) (c' : e.cl = true) : D.eq d e = true ↔ d = e:=⟨D.eq_of d e c c',fun h=>by rw [h]; exact D.eq_refl e⟩
theorem D.eq_dec {d e : D} {p : Prop} [Decidable p] (c : d.cl = true) (c' : e.cl = true) (h : d = e ↔ p) : D.eq d e = decide p:=by
 rw [Bool.eq_iff_iff,D.eq_iff c c',h,decide_eq_true_iff]
theorem D.eqs_length : ∀ {ds es : List D},D.eqs ds es = true → ds.length = es.length
 | [],es,h=>by cases es <;> simp_all [D.eqs]
 | d :: ds,es,h=>by
  cases es with
  | nil=>simp [D.eqs] at h
  | cons e r =>
   simp only [D.eqs,Bool.and_eq_true] at h
   simp [D.eqs_length h.2]
theorem D.eqs_all : ∀ (ds es : List D),(((List.range (min ds.length es.length)).all fun j=>D.eq (ds.getD j .non) (es.getD j .non)) && ds.length == es.length) = D.eqs ds es
 | [],es=>by cases es <;> simp [D.eqs]
 | d :: ds,es=>by
  cases es with
  | nil=>simp [D.eqs]
  | cons e r =>
   have ih:=D.eqs_all ds r
   have e1 : min (d :: ds).length (e :: r).length = min ds.length r.length + 1:=by simp only [List.length_cons]; omega
   have e2 : ((d :: ds).length == (e :: r).length) = (ds.length == r.length):=by simp
   have e3 : ((List.range (min ds.length r.length + 1)).all fun j=>D.eq ((d :: ds).getD j .non) ((e :: r).getD j .non)) = (D.eq d e && (List.range (min ds.length r.length)).all fun j=>D.eq (ds.getD j .non) (r.getD j .non)):=by
    rw [List.range_succ_eq_map,List.all_cons,List.all_map]
    rfl
   rw [e1,e2,e3]
   simp only [D.eqs]
   rw [← ih,Bool.and_assoc]
mutual
noncomputable def Dt (H : Hp) : D → V → Prop
 | .non,v=>v = .non
 | .bl b,v=>v = .bl b
 | .int i,v=>v = .int i
 | .str x,v=>v = .str x
 | .tup ds,v=>∃ a vs,v = .ref a ∧ H a = some (.tup vs) ∧ Dts H ds vs
 | .lst ds,v=>∃ a vs,v = .ref a ∧ H a = some (.lst vs) ∧ Dts H ds vs
noncomputable def Dts (H : Hp) : List D → List V → Prop
 | [],vs=>vs = []
 | d :: ds,vs=>∃ v r,vs = v :: r ∧ Dt H d v ∧ Dts H ds r
end
theorem Dts.length {H : Hp} : ∀ {ds : List D} {vs : List V},Dts H ds vs → vs.length = ds.length
 | [],vs,h=>by simp only [Dts] at h; simp [h]
 | d :: ds,vs,h=>by
  simp only [Dts] at h
  obtain ⟨v,r,rfl,_,h⟩:=h
  simp [Dts.length h]
theorem Dts.get {H : Hp} : ∀ {ds : List D} {vs : List V} {i : Nat} {d : D},Dts H ds vs → ds[i]? = some d → ∃ v,vs[i]? = some v ∧ Dt H d v
 | [],vs,i,d,_,e=>by simp at e
 | d' :: ds,vs,i,d,h,e=>by
  simp only [Dts] at h
  obtain ⟨v,r,rfl,h1,h2⟩:=h
  cases i with
  | zero=>simp at e; subst e; exact ⟨v,rfl,h1⟩
  | succ i=>simpa using Dts.get (i:=i) h2 (by simpa using e)
theorem Dts.append {H : Hp} : ∀ {ds es : List D} {vs us : List V},Dts H ds vs → Dts H es us → Dts H (ds ++ es) (vs ++ us)
 | [],es,vs,us,h,h'=>by simp only [Dts] at h; subst h; simpa using h'
 | d :: ds,es,vs,us,h,h'=>by
  simp only [Dts] at h
  obtain ⟨v,r,rfl,h1,h2⟩:=h
  show Dts H (d :: (ds ++ es)) (v :: (r ++ us))
  simp only [Dts]
  exact ⟨v,r ++ us,rfl,h1,Dts.append h2 h'⟩
theorem Dts.one {H : Hp} {d : D} {v : V} (h : Dt H d v) : Dts H [d] [v]:=by
 simp only [Dts]
 exact ⟨v,[],rfl,h,rfl⟩
theorem Dts.nil {H : Hp} : Dts H [] []:=by simp only [Dts]
theorem Dts.cons {H : Hp} {d : D} {v : V} {ds : List D} {vs : List V} (h : Dt H d v) (t : Dts H ds vs) : Dts H (d :: ds) (v :: vs):=by
 simp only [Dts]
 exact ⟨v,vs,rfl,h,t⟩
theorem Dts.take {H : Hp} : ∀ {ds : List D} {vs : List V} (n : Nat),Dts H ds vs → Dts H (ds.take n) (vs.take n)
 | _,_,0,_=>by simp [Dts]
 | [],vs,n + 1,h=>by simp only [Dts] at h; subst h; simp [Dts]
 | d :: ds,vs,n + 1,h=>by
  simp only [Dts] at h
  obtain ⟨v,r,rfl,h1,h2⟩:=h
  exact Dts.cons h1 (Dts.take n h2)
theorem Dts.drop {H : Hp} : ∀ {ds : List D} {vs : List V} (n : Nat),Dts H ds vs → Dts H (ds.drop n) (vs.drop n)
 | _,_,0,h=>h
 | [],vs,n + 1,h=>by simp only [Dts] at h; subst h; simp [Dts]
 | d :: ds,vs,n + 1,h=>by
  simp only [Dts] at h
  obtain ⟨v,r,rfl,h1,h2⟩:=h
  exact Dts.drop n h2
theorem Dts.set {H : Hp} {d : D} {v : V} (h : Dt H d v) : ∀ {ds : List D} {vs : List V} (n : Nat),Dts H ds vs → Dts H (ds.set n d) (vs.set n v)
 | [],vs,n,h'=>by simp only [Dts] at h'; subst h'; simp [Dts]
 | e :: ds,vs,0,h'=>by
  simp only [Dts] at h'
  obtain ⟨u,r,rfl,h1,h2⟩:=h'
  exact Dts.cons h h2
 | e :: ds,vs,n + 1,h'=>by
  simp only [Dts] at h'
  obtain ⟨u,r,rfl,h1,h2⟩:=h'
  exact Dts.cons h1 (Dts.set h n h2)
mutual
theorem Dt.inj {H : Hp} : ∀ {d e : D} {v : V},Dt H d v → Dt H e v → d = e
 | .non,e,v,h,h'=>by simp only [Dt] at h; subst h; cases e <;> simp_all [Dt]
 | .bl b,e,v,h,h'=>by simp only [Dt] at h; subst h; cases e <;> simp_all [Dt]
 | .int i,e,v,h,h'=>by simp only [Dt] at h; subst h; cases e <;> simp_all [Dt]
 | .str x,e,v,h,h'=>by simp only [Dt] at h; subst h; cases e <;> simp_all [Dt]
 | .tup ds,e,v,h,h'=>by
  simp only [Dt] at h
  obtain ⟨a,vs,rfl,ea,hs⟩:=h
  cases e with
  | tup es =>
   simp only [Dt] at h'
   obtain ⟨a',vs',q,ea',hs'⟩:=h'
   cases q
   rw [ea] at ea'; cases ea'
   rw [Dts.inj hs hs']
  | lst es =>
   simp only [Dt] at h'
   obtain ⟨a',vs',q,ea',hs'⟩:=h'
   cases q
   rw [ea] at ea'; cases ea'
  | _=>simp [Dt] at h'
 | .lst ds,e,v,h,h'=>by
  simp only [Dt] at h
  obtain ⟨a,vs,rfl,ea,hs⟩:=h
  cases e with
  | lst es =>
   simp only [Dt] at h'
   obtain ⟨a',vs',q,ea',hs'⟩:=h'
   cases q
   rw [ea] at ea'; cases ea'
   rw [Dts.inj hs hs']
  | tup es =>
   simp only [Dt] at h'
   obtain ⟨a',vs',q,ea',hs'⟩:=h'
   cases q
   rw [ea] at ea'; cases ea'
  | _=>simp [Dt] at h'
theorem Dts.inj {H : Hp} : ∀ {ds es : List D} {vs : List V},Dts H ds vs → Dts H es vs → ds = es
 | [],es,vs,h,h'=>by
  simp only [Dts] at h; subst h
  cases es <;> simp_all [Dts]
 | d :: ds,es,vs,h,h'=>by
  simp only [Dts] at h
  obtain ⟨v,r,rfl,h1,h2⟩:=h
  cases es with
  | nil=>simp [Dts] at h'
  | cons e es =>
   simp only [Dts] at h'
   obtain ⟨v',r',q,h1',h2'⟩:=h'
   cases q
   rw [Dt.inj h1 h1',Dts.inj h2 h2']
end
mutual
theorem Dt.same {H H' : Hp} (S : Same H H') : ∀ {d : D} {v : V},Dt H d v → Dt H' d v
 | .non,v,h=>h
 | .bl b,v,h=>h
 | .int i,v,h=>h
 | .str x,v,h=>h
 | .tup ds,v,h=>by
  simp only [Dt] at h ⊢
  obtain ⟨a,vs,rfl,ea,hs⟩:=h
  exact ⟨a,vs,rfl,S _ _ ea,Dts.same S hs⟩
 | .lst ds,v,h=>by
  simp only [Dt] at h ⊢
  obtain ⟨a,vs,rfl,ea,hs⟩:=h
  exact ⟨a,vs,rfl,S _ _ ea,Dts.same S hs⟩
theorem Dts.same {H H' : Hp} (S : Same H H') : ∀ {ds : List D} {vs : List V},Dts H ds vs → Dts H' ds vs
 | [],vs,h=>h
 | d :: ds,vs,h=>by
  simp only [Dts] at h ⊢
  obtain ⟨v,r,rfl,h1,h2⟩:=h
  exact ⟨v,r,rfl,Dt.same S h1,Dts.same S h2⟩
end
mutual
noncomputable def D.nl : D → Bool
 | .lst _=>false
 | .tup ds=>D.nls ds
 | _=>true
noncomputable def D.nls : List D → Bool
 | []=>true
 | d :: ds=>D.nl d && D.nls ds
end
noncomputable def Tups (H H' : Hp) : Prop:=∀ b xs,H b = some (.tup xs) → H' b = some (.tup xs)
theorem Same.tups {H H' : Hp} (S : Same H H') : Tups H H':=fun b xs h=>S b _ h
theorem Tups.trans {H H1 H2 : Hp} (a : Tups H H1) (b : Tups H1 H2) : Tups H H2:=fun c o h=>b c o (a c o h)
theorem Tups.refl (H : Hp) : Tups H H:=fun _ _ h=>h
theorem Tups.lst {H : Hp} {p : Addr} {xs ys : List V} (h : H p = some (.lst xs)) : Tups H (upd H p (.lst ys)):=fun b zs e=>by
 rw [upd_ne (ne_of e h (by intro z; cases z))]; exact e
mutual
theorem Dt.tups {H H' : Hp} (S : Tups H H') : ∀ {d : D} {v : V},d.nl = true → Dt H d v → Dt H' d v
 | .non,v,_,h=>h
 | .bl b,v,_,h=>h
 | .int i,v,_,h=>h
 | .str x,v,_,h=>h
 | .tup ds,v,n,h=>by
  simp only [Dt] at h ⊢
  obtain ⟨a,vs,rfl,ea,hs⟩:=h
  simp only [D.nl] at n
  exact ⟨a,vs,rfl,S _ _ ea,Dts.tups S n hs⟩
 | .lst ds,v,n,h=>by simp [D.nl] at n
theorem Dts.tups {H H' : Hp} (S : Tups H H') : ∀ {ds : List D} {vs : List V},D.nls ds = true → Dts H ds vs → Dts H' ds vs
 | [],vs,_,h=>h
 | d :: ds,vs,n,h=>by
  simp only [Dts] at h ⊢
  obtain ⟨v,r,rfl,h1,h2⟩:=h
  simp only [D.nls,Bool.and_eq_true] at n
  exact ⟨v,r,rfl,Dt.tups S n.1 h1,Dts.tups S n.2 h2⟩
end
section
variable {P : Program} {w : World} {H : Hp} {s : Shared}
open PySem.SeqAt
theorem isD_obj (hok : HOk P w H s.heap) {d : D} {v : V} {u : Value} (h : Dt H d v) (r : RelV v u) :
 (∃ ds a vs its,d = .tup ds ∧ v = .ref a ∧ u = .ref a ∧ Dts H ds vs ∧ Vals vs its ∧ s.heap.IsTuple a its.toArray) ∨ (∃ ds a vs its,d = .lst ds ∧ v = .ref a ∧ u = .ref a ∧ Dts H ds vs ∧ Vals vs its ∧ s.heap.IsList a its.toArray) ∨
 (d = .non ∧ u = .none) ∨ (∃ b,d = .bl b ∧ u = .bool b) ∨ (∃ i t,d = .int i ∧ u = .int i t) ∨ ∃ x t,d = .str x ∧ u = .str x t:=by
 cases d with
 | non=>simp only [Dt] at h; subst h; cases r; exact .inr (.inr (.inl ⟨rfl,rfl⟩))
 | bl b=>simp only [Dt] at h; subst h; cases r; exact .inr (.inr (.inr (.inl ⟨b,rfl,rfl⟩)))
 | int i=>simp only [Dt] at h; subst h; obtain ⟨t,rfl⟩:=r; exact .inr (.inr (.inr (.inr (.inl ⟨i,t,rfl,rfl⟩))))
 | str x=>simp only [Dt] at h; subst h; obtain ⟨t,rfl⟩:=r; exact .inr (.inr (.inr (.inr (.inr ⟨x,t,rfl,rfl⟩))))
 | tup ds =>
  simp only [Dt] at h
  obtain ⟨a,vs,rfl,ea,hs⟩:=h
  cases r
  obtain ⟨_,its,rv,p⟩:=hok a _ ea
  exact .inl ⟨ds,a,vs,its,rfl,rfl,rfl,hs,rv,p⟩
 | lst ds =>
  simp only [Dt] at h
  obtain ⟨a,vs,rfl,ea,hs⟩:=h
  cases r
  obtain ⟨_,its,n,rv,p⟩:=hok a _ ea
  exact .inr (.inl ⟨ds,a,vs,its,rfl,rfl,rfl,hs,rv,⟨_,p,rfl,n,rfl⟩⟩)
theorem in1_units (A : Around) : A.in1.units = A.units + 1:=rfl
mutual
theorem eqAt_D (hok : HOk P w H s.heap) : ∀ (d e : D) {A : Around} {x y : V} {u v : Value},Dt H d x → Dt H e y → RelV x u → RelV y v → A.units + d.dp + 1 < cLine → EqAt A s u v (D.eq d e)
 | .tup ds,e,A,x,y,u,v,hd,he,rx,ry,hu=>by
  have hu0 : A.units < cLine:=by omega
  rcases isD_obj hok hd rx with ⟨ds',a,vs,its,ed,ex,eu,hs,rv,p⟩ | ⟨_,_,_,_,z,_⟩ | ⟨z,_⟩ | ⟨_,z,_⟩ | ⟨_,_,z,_⟩ | ⟨_,_,z,_⟩ <;> try cases z
  cases ed; subst ex eu
  rcases isD_obj hok he ry with ⟨es,b,us,jts,ee,ey,ev,hs',rv',p'⟩ | ⟨es,b,us,jts,ee,ey,ev,hs',rv',p'⟩ | ⟨ee,ev⟩ | ⟨b,ee,ev⟩ | ⟨i,t,ee,ev⟩ | ⟨z,t,ee,ev⟩ <;> subst ee ev
  · subst ey
    by_cases hab : a = b
    · subst hab
      rw [Dt.inj hd he,D.eq_refl]
      exact EqAt.same _
    · refine EqAt.of_refs hab ?_
      have n1 : its.toArray.size = ds.length:=by have:=rv.length; have:=hs.length; simp; omega
      have n2 : jts.toArray.size = es.length:=by have:=rv'.length; have:=hs'.length; simp; omega
      simp only [D.eq]
      rw [← D.eqs_all,← n1,← n2]
      refine RcAt.tuples p p' hu0 fun j j1 j2=>?_
      simp only [D.dp] at hu
      have:=eqAt_Ds hok ds es (A:=A.in1) hs hs' rv rv' (by rw [in1_units]; omega) j (by simpa using j1) (by simpa using j2)
      simpa using this
  · subst ey; exact EqAt.tuple_list p p' hu0
  · exact EqAt.tuple_none p hu0
  · exact EqAt.tuple_bool b p hu0
  · exact EqAt.tuple_int i t p hu0
  · exact EqAt.tuple_str z t p hu0
 | .lst ds,e,A,x,y,u,v,hd,he,rx,ry,hu=>by
  have hu0 : A.units < cLine:=by omega
  rcases isD_obj hok hd rx with ⟨_,_,_,_,z,_⟩ | ⟨ds',a,vs,its,ed,ex,eu,hs,rv,p⟩ | ⟨z,_⟩ | ⟨_,z,_⟩ | ⟨_,_,z,_⟩ | ⟨_,_,z,_⟩ <;> try cases z
  cases ed; subst ex eu
  rcases isD_obj hok he ry with ⟨es,b,us,jts,ee,ey,ev,hs',rv',p'⟩ | ⟨es,b,us,jts,ee,ey,ev,hs',rv',p'⟩ | ⟨ee,ev⟩ | ⟨b,ee,ev⟩ | ⟨i,t,ee,ev⟩ | ⟨z,t,ee,ev⟩ <;> subst ee ev
  · subst ey; exact EqAt.list_tuple p p' hu0
  · subst ey
    by_cases hab : a = b
    · subst hab
      rw [Dt.inj hd he,D.eq_refl]
      exact EqAt.same _
    · refine EqAt.of_refs hab ?_
      have n1 : its.toArray.size = ds.length:=by have:=rv.length; have:=hs.length; simp; omega
      have n2 : jts.toArray.size = es.length:=by have:=rv'.length; have:=hs'.length; simp; omega
      simp only [D.eq]
      by_cases hsz : its.toArray.size = jts.toArray.size
      · have e:=D.eqs_all ds es
        rw [← n1,← n2,← hsz,Nat.min_self,beq_self_eq_true,Bool.and_true] at e
        rw [← e]
        refine RcAt.lists p p' hsz hu0 fun j j1 j2=>?_
        simp only [D.dp] at hu
        have:=eqAt_Ds hok ds es (A:=A.in1) hs hs' rv rv' (by rw [in1_units]; omega) j (by simpa using j1) (by simpa using j2)
        simpa using this
      · have e : D.eqs ds es = false:=by
         cases h : D.eqs ds es with
         | false=>rfl
         | true=>exact absurd (D.eqs_length h) (by omega)
        rw [e]
        exact RcAt.lists_lengths p p' (by simpa using hsz) hu0
  · exact EqAt.list_none p hu0
  · exact EqAt.list_bool b p hu0
  · exact EqAt.list_int i t p hu0
  · exact EqAt.list_str z t p hu0
 | .non,e,A,x,y,u,v,hd,he,rx,ry,hu=>by
  have hu0 : A.units < cLine:=by omega
  simp only [Dt] at hd; subst hd; cases rx
  rcases isD_obj hok he ry with ⟨es,b,us,jts,ee,ey,ev,hs',rv',p'⟩ | ⟨es,b,us,jts,ee,ey,ev,hs',rv',p'⟩ | ⟨ee,ev⟩ | ⟨b,ee,ev⟩ | ⟨i,t,ee,ev⟩ | ⟨z,t,ee,ev⟩ <;> subst ee ev
  · exact EqAt.none_tuple p' hu0
  · exact EqAt.none_list p' hu0
  · exact EqAt.same _
  · exact EqAt.none_bool b
  · exact EqAt.none_int i t
  · exact EqAt.none_str z t
 | .bl c,e,A,x,y,u,v,hd,he,rx,ry,hu=>by
  have hu0 : A.units < cLine:=by omega
  simp only [Dt] at hd; subst hd; cases rx
  rcases isD_obj hok he ry with ⟨es,b,us,jts,ee,ey,ev,hs',rv',p'⟩ | ⟨es,b,us,jts,ee,ey,ev,hs',rv',p'⟩ | ⟨ee,ev⟩ | ⟨b,ee,ev⟩ | ⟨i,t,ee,ev⟩ | ⟨z,t,ee,ev⟩ <;> subst ee ev
  · exact EqAt.bool_tuple c p' hu0
  · exact EqAt.bool_list c p' hu0
  · exact EqAt.bool_none c
  · exact EqAt.bool_bool c b
  · exact EqAt.bool_int c i t
  · exact EqAt.bool_str c z t
 | .int c,e,A,x,y,u,v,hd,he,rx,ry,hu=>by
  have hu0 : A.units < cLine:=by omega
  simp only [Dt] at hd; subst hd; obtain ⟨tt,rfl⟩:=rx
  rcases isD_obj hok he ry with ⟨es,b,us,jts,ee,ey,ev,hs',rv',p'⟩ | ⟨es,b,us,jts,ee,ey,ev,hs',rv',p'⟩ | ⟨ee,ev⟩ | ⟨b,ee,ev⟩ | ⟨i,t,ee,ev⟩ | ⟨z,t,ee,ev⟩ <;> subst ee ev
  · exact EqAt.int_tuple c tt p' hu0
  · exact EqAt.int_list c tt p' hu0
  · exact EqAt.int_none c tt
  · exact EqAt.int_bool c tt b
  · exact EqAt.int_int c tt i t
  · exact EqAt.int_str c tt z t
 | .str c,e,A,x,y,u,v,hd,he,rx,ry,hu=>by
  have hu0 : A.units < cLine:=by omega
  simp only [Dt] at hd; subst hd; obtain ⟨tt,rfl⟩:=rx
  rcases isD_obj hok he ry with ⟨es,b,us,jts,ee,ey,ev,hs',rv',p'⟩ | ⟨es,b,us,jts,ee,ey,ev,hs',rv',p'⟩ | ⟨ee,ev⟩ | ⟨b,ee,ev⟩ | ⟨i,t,ee,ev⟩ | ⟨z,t,ee,ev⟩ <;> subst ee ev
  · exact EqAt.str_tuple c tt p' hu0
  · exact EqAt.str_list c tt p' hu0
  · exact EqAt.str_none c tt
  · exact EqAt.str_bool c tt b
  · exact EqAt.str_int c tt i t
  · exact EqAt.str_str c tt z t
theorem eqAt_Ds (hok : HOk P w H s.heap) : ∀ (ds es : List D) {A : Around} {xs ys : List V} {us vs : List Value},Dts H ds xs → Dts H es ys → Vals xs us → Vals ys vs → A.units + D.dps ds + 1 < cLine →
 ∀ j (h1 : j < us.length) (h2 : j < vs.length),EqAt A s us[j] vs[j] (D.eq (ds.getD j .non) (es.getD j .non))
 | [],es,A,xs,ys,us,vs,hd,he,rx,ry,hu,j,h1,h2=>by
  simp only [Dts] at hd; subst hd; cases rx; simp at h1
 | d :: ds,es,A,xs,ys,us,vs,hd,he,rx,ry,hu,j,h1,h2=>by
  simp only [Dts] at hd
  obtain ⟨x,xr,rfl,hx,hxr⟩:=hd
  cases rx with
  | cons r rt =>
   cases es with
   | nil=>simp only [Dts] at he; subst he; cases ry; simp at h2
   | cons e er =>
    simp only [Dts] at he
    obtain ⟨y,yr,rfl,hy,hyr⟩:=he
    cases ry with
    | cons q qt =>
     simp only [D.dps] at hu
     cases j with
     | zero=>exact eqAt_D hok d e hx hy r q (by omega)
     | succ j=>exact eqAt_Ds hok ds er hxr hyr rt qt (by omega) j (by simpa using h1) (by simpa using h2)
end
end
end L2
namespace L2
open PySem PySem.Spec PyProof.Rows
section
variable {P : Program} {w : World} {H : Hp} {s : Shared}
open PySem.SeqAt
theorem D.eqs_ne {ds es : List D} (h : ds.length ≠ es.length) : D.eqs ds es = false:=by
 cases q : D.eqs ds es with
 | false=>rfl
 | true=>exact absurd (D.eqs_length q) h
theorem rcAt_D (hok : HOk P w H s.heap) {d e : D} {A : Around} {x y : V} {u v : Value} (hd : Dt H d x) (he : Dt H e y) (rx : RelV x u) (ry : RelV y v) (hu : A.units + d.dp + 1 < cLine) : RcAt A s u v (D.eq d e):=by
 have hu0 : A.units < cLine:=by omega
 rcases isD_obj hok hd rx with ⟨ds,a,vs,its,ed,ex,eu,hs,rv,p⟩ | ⟨ds,a,vs,its,ed,ex,eu,hs,rv,p⟩ | ⟨ed,eu⟩ | ⟨c,ed,eu⟩ | ⟨c,tt,ed,eu⟩ | ⟨c,tt,ed,eu⟩
 · subst ed eu
   rcases isD_obj hok he ry with ⟨es,b,us,jts,ee,ey,ev,hs',rv',p'⟩ | ⟨es,b,us,jts,ee,ey,ev,hs',rv',p'⟩ | ⟨ee,ev⟩ | ⟨b,ee,ev⟩ | ⟨i,t,ee,ev⟩ | ⟨z,t,ee,ev⟩
   · subst ee ev
     have n1 : its.toArray.size = ds.length:=by have:=rv.length; have:=hs.length; simp; omega
     have n2 : jts.toArray.size = es.length:=by have:=rv'.length; have:=hs'.length; simp; omega
     simp only [D.eq]
     simp only [D.dp] at hu
     have all : ∀ j (j1 : j < its.toArray.size) (j2 : j < jts.toArray.size),EqAt A.in1 s its.toArray[j] jts.toArray[j] (D.eq (ds.getD j .non) (es.getD j .non)):=fun j j1 j2=>by
      have:=eqAt_Ds hok ds es (A:=A.in1) hs hs' rv rv' (by rw [in1_units]; omega) j (by simpa using j1) (by simpa using j2)
      simpa using this
     rw [← D.eqs_all,← n1,← n2]
     exact RcAt.tuples p p' hu0 all
   · subst ee ev
     exact RcAt.tuple_list p p' hu0
   · subst ee ev
     exact RcAt.tuple_none p hu0
   · subst ee ev
     exact RcAt.tuple_bool b p hu0
   · subst ee ev
     exact RcAt.tuple_int i t p hu0
   · subst ee ev
     exact RcAt.tuple_str z t p hu0
 · subst ed eu
   rcases isD_obj hok he ry with ⟨es,b,us,jts,ee,ey,ev,hs',rv',p'⟩ | ⟨es,b,us,jts,ee,ey,ev,hs',rv',p'⟩ | ⟨ee,ev⟩ | ⟨b,ee,ev⟩ | ⟨i,t,ee,ev⟩ | ⟨z,t,ee,ev⟩
   · subst ee ev
     exact RcAt.list_tuple p p' hu0
   · subst ee ev
     have n1 : its.toArray.size = ds.length:=by have:=rv.length; have:=hs.length; simp; omega
     have n2 : jts.toArray.size = es.length:=by have:=rv'.length; have:=hs'.length; simp; omega
     simp only [D.eq]
     simp only [D.dp] at hu
     have all : ∀ j (j1 : j < its.toArray.size) (j2 : j < jts.toArray.size),EqAt A.in1 s its.toArray[j] jts.toArray[j] (D.eq (ds.getD j .non) (es.getD j .non)):=fun j j1 j2=>by
      have:=eqAt_Ds hok ds es (A:=A.in1) hs hs' rv rv' (by rw [in1_units]; omega) j (by simpa using j1) (by simpa using j2)
      simpa using this
     by_cases hsz : its.toArray.size = jts.toArray.size
     · have e:=D.eqs_all ds es
       rw [← n1,← n2,← hsz,Nat.min_self,beq_self_eq_true,Bool.and_true] at e
       rw [← e]
       exact RcAt.lists p p' hsz hu0 all
     · rw [D.eqs_ne (by omega)]
       exact RcAt.lists_lengths p p' (by simpa using hsz) hu0
   · subst ee ev
     exact RcAt.list_none p hu0
   · subst ee ev
     exact RcAt.list_bool b p hu0
   · subst ee ev
     exact RcAt.list_int i t p hu0
   · subst ee ev
     exact RcAt.list_str z t p hu0
 · subst ed eu
   rcases isD_obj hok he ry with ⟨es,b,us,jts,ee,ey,ev,hs',rv',p'⟩ | ⟨es,b,us,jts,ee,ey,ev,hs',rv',p'⟩ | ⟨ee,ev⟩ | ⟨b,ee,ev⟩ | ⟨i,t,ee,ev⟩ | ⟨z,t,ee,ev⟩
   · subst ee ev
     exact RcAt.none_tuple p' hu0
   · subst ee ev
     exact RcAt.none_list p' hu0
   · subst ee ev
     exact RcAt.none_none 
   · subst ee ev
     exact RcAt.none_bool b
   · subst ee ev
     exact RcAt.none_int i t
   · subst ee ev
     exact RcAt.none_str z t
 · subst ed eu
   rcases isD_obj hok he ry with ⟨es,b,us,jts,ee,ey,ev,hs',rv',p'⟩ | ⟨es,b,us,jts,ee,ey,ev,hs',rv',p'⟩ | ⟨ee,ev⟩ | ⟨b,ee,ev⟩ | ⟨i,t,ee,ev⟩ | ⟨z,t,ee,ev⟩
   · subst ee ev
     exact RcAt.bool_tuple c p' hu0
   · subst ee ev
     exact RcAt.bool_list c p' hu0
   · subst ee ev
     exact RcAt.bool_none c
   · subst ee ev
     exact RcAt.bool_bool c b
   · subst ee ev
     exact RcAt.bool_int c i t
   · subst ee ev
     exact RcAt.bool_str c z t
 · subst ed eu
   rcases isD_obj hok he ry with ⟨es,b,us,jts,ee,ey,ev,hs',rv',p'⟩ | ⟨es,b,us,jts,ee,ey,ev,hs',rv',p'⟩ | ⟨ee,ev⟩ | ⟨b,ee,ev⟩ | ⟨i,t,ee,ev⟩ | ⟨z,t,ee,ev⟩
   · subst ee ev
     exact RcAt.int_tuple c tt p' hu0
   · subst ee ev
     exact RcAt.int_list c tt p' hu0
   · subst ee ev
     exact RcAt.int_none c tt
   · subst ee ev
     exact RcAt.int_bool c tt b
   · subst ee ev
     exact RcAt.int_int c tt i t
   · subst ee ev
     exact RcAt.int_str c tt z t
 · subst ed eu
   rcases isD_obj hok he ry with ⟨es,b,us,jts,ee,ey,ev,hs',rv',p'⟩ | ⟨es,b,us,jts,ee,ey,ev,hs',rv',p'⟩ | ⟨ee,ev⟩ | ⟨b,ee,ev⟩ | ⟨i,t,ee,ev⟩ | ⟨z,t,ee,ev⟩
   · subst ee ev
     exact RcAt.str_tuple c tt p' hu0
   · subst ee ev
     exact RcAt.str_list c tt p' hu0
   · subst ee ev
     exact RcAt.str_none c tt
   · subst ee ev
     exact RcAt.str_bool c tt b
   · subst ee ev
     exact RcAt.str_int c tt i t
   · subst ee ev
     exact RcAt.str_str c tt z t
theorem rcNe_D (hok : HOk P w H s.heap) {d e : D} {A : Around} {x y : V} {u v : Value} (hd : Dt H d x) (he : Dt H e y) (rx : RelV x u) (ry : RelV y v) (hu : A.units + d.dp + 1 < cLine) : RcNeAt A s u v (!D.eq d e):=by
 have hu0 : A.units < cLine:=by omega
 rcases isD_obj hok hd rx with ⟨ds,a,vs,its,ed,ex,eu,hs,rv,p⟩ | ⟨ds,a,vs,its,ed,ex,eu,hs,rv,p⟩ | ⟨ed,eu⟩ | ⟨c,ed,eu⟩ | ⟨c,tt,ed,eu⟩ | ⟨c,tt,ed,eu⟩
 · subst ed eu
   rcases isD_obj hok he ry with ⟨es,b,us,jts,ee,ey,ev,hs',rv',p'⟩ | ⟨es,b,us,jts,ee,ey,ev,hs',rv',p'⟩ | ⟨ee,ev⟩ | ⟨b,ee,ev⟩ | ⟨i,t,ee,ev⟩ | ⟨z,t,ee,ev⟩
   · subst ee ev
     have n1 : its.toArray.size = ds.length:=by have:=rv.length; have:=hs.length; simp; omega
     have n2 : jts.toArray.size = es.length:=by have:=rv'.length; have:=hs'.length; simp; omega
     simp only [D.eq]
     simp only [D.dp] at hu
     have all : ∀ j (j1 : j < its.toArray.size) (j2 : j < jts.toArray.size),EqAt A.in1 s its.toArray[j] jts.toArray[j] (D.eq (ds.getD j .non) (es.getD j .non)):=fun j j1 j2=>by
      have:=eqAt_Ds hok ds es (A:=A.in1) hs hs' rv rv' (by rw [in1_units]; omega) j (by simpa using j1) (by simpa using j2)
      simpa using this
     rw [← D.eqs_all,← n1,← n2]
     exact RcNeAt.tuples p p' hu0 all
   · subst ee ev
     exact RcNeAt.tuple_list p p' hu0
   · subst ee ev
     exact RcNeAt.tuple_none p hu0
   · subst ee ev
     exact RcNeAt.tuple_bool b p hu0
   · subst ee ev
     exact RcNeAt.tuple_int i t p hu0
   · subst ee ev
     exact RcNeAt.tuple_str z t p hu0
 · subst ed eu
   rcases isD_obj hok he ry with ⟨es,b,us,jts,ee,ey,ev,hs',rv',p'⟩ | ⟨es,b,us,jts,ee,ey,ev,hs',rv',p'⟩ | ⟨ee,ev⟩ | ⟨b,ee,ev⟩ | ⟨i,t,ee,ev⟩ | ⟨z,t,ee,ev⟩
   · subst ee ev
     exact RcNeAt.list_tuple p p' hu0
   · subst ee ev
     have n1 : its.toArray.size = ds.length:=by have:=rv.length; have:=hs.length; simp; omega
     have n2 : jts.toArray.size = es.length:=by have:=rv'.length; have:=hs'.length; simp; omega
     simp only [D.eq]
     simp only [D.dp] at hu
     have all : ∀ j (j1 : j < its.toArray.size) (j2 : j < jts.toArray.size),EqAt A.in1 s its.toArray[j] jts.toArray[j] (D.eq (ds.getD j .non) (es.getD j .non)):=fun j j1 j2=>by
      have:=eqAt_Ds hok ds es (A:=A.in1) hs hs' rv rv' (by rw [in1_units]; omega) j (by simpa using j1) (by simpa using j2)
      simpa using this
     by_cases hsz : its.toArray.size = jts.toArray.size
     · have e:=D.eqs_all ds es
       rw [← n1,← n2,← hsz,Nat.min_self,beq_self_eq_true,Bool.and_true] at e
       rw [← e]
       exact RcNeAt.lists p p' hsz hu0 all
     · rw [D.eqs_ne (by omega)]
       exact RcNeAt.lists_lengths p p' (by simpa using hsz) hu0
   · subst ee ev
     exact RcNeAt.list_none p hu0
   · subst ee ev
     exact RcNeAt.list_bool b p hu0
   · subst ee ev
     exact RcNeAt.list_int i t p hu0
   · subst ee ev
     exact RcNeAt.list_str z t p hu0
 · subst ed eu
   rcases isD_obj hok he ry with ⟨es,b,us,jts,ee,ey,ev,hs',rv',p'⟩ | ⟨es,b,us,jts,ee,ey,ev,hs',rv',p'⟩ | ⟨ee,ev⟩ | ⟨b,ee,ev⟩ | ⟨i,t,ee,ev⟩ | ⟨z,t,ee,ev⟩
   · subst ee ev
     exact RcNeAt.none_tuple p' hu0
   · subst ee ev
     exact RcNeAt.none_list p' hu0
   · subst ee ev
     exact RcNeAt.none_none 
   · subst ee ev
     exact RcNeAt.none_bool b
   · subst ee ev
     exact RcNeAt.none_int i t
   · subst ee ev
     exact RcNeAt.none_str z t
 · subst ed eu
   rcases isD_obj hok he ry with ⟨es,b,us,jts,ee,ey,ev,hs',rv',p'⟩ | ⟨es,b,us,jts,ee,ey,ev,hs',rv',p'⟩ | ⟨ee,ev⟩ | ⟨b,ee,ev⟩ | ⟨i,t,ee,ev⟩ | ⟨z,t,ee,ev⟩
   · subst ee ev
     exact RcNeAt.bool_tuple c p' hu0
   · subst ee ev
     exact RcNeAt.bool_list c p' hu0
   · subst ee ev
     exact RcNeAt.bool_none c
   · subst ee ev
     exact RcNeAt.bool_bool c b
   · subst ee ev
     exact RcNeAt.bool_int c i t
   · subst ee ev
     exact RcNeAt.bool_str c z t
 · subst ed eu
   rcases isD_obj hok he ry with ⟨es,b,us,jts,ee,ey,ev,hs',rv',p'⟩ | ⟨es,b,us,jts,ee,ey,ev,hs',rv',p'⟩ | ⟨ee,ev⟩ | ⟨b,ee,ev⟩ | ⟨i,t,ee,ev⟩ | ⟨z,t,ee,ev⟩
   · subst ee ev
     exact RcNeAt.int_tuple c tt p' hu0
   · subst ee ev
     exact RcNeAt.int_list c tt p' hu0
   · subst ee ev
     exact RcNeAt.int_none c tt
   · subst ee ev
     exact RcNeAt.int_bool c tt b
   · subst ee ev
     exact RcNeAt.int_int c tt i t
   · subst ee ev
     exact RcNeAt.int_str c tt z t
 · subst ed eu
   rcases isD_obj hok he ry with ⟨es,b,us,jts,ee,ey,ev,hs',rv',p'⟩ | ⟨es,b,us,jts,ee,ey,ev,hs',rv',p'⟩ | ⟨ee,ev⟩ | ⟨b,ee,ev⟩ | ⟨i,t,ee,ev⟩ | ⟨z,t,ee,ev⟩
   · subst ee ev
     exact RcNeAt.str_tuple c tt p' hu0
   · subst ee ev
     exact RcNeAt.str_list c tt p' hu0
   · subst ee ev
     exact RcNeAt.str_none c tt
   · subst ee ev
     exact RcNeAt.str_bool c tt b
   · subst ee ev
     exact RcNeAt.str_int c tt i t
   · subst ee ev
     exact RcNeAt.str_str c tt z t
end
section
variable {X : Cx} {k : Nat}
noncomputable def rEqD : R2:=fun x y H Q=>∃ d e,Dt H d x ∧ Dt H e y ∧ d.dp ≤ 150 ∧ Q (.bl (D.eq d e)) H
noncomputable def rNeD : R2:=fun x y H Q=>∃ d e,Dt H d x ∧ Dt H e y ∧ d.dp ≤ 150 ∧ Q (.bl (!D.eq d e)) H
theorem op_eqD (hr : Room k X.A) : OpR X (compareOp .Eq) rEqD:=by
 intro pins s σ H x y v u Q I rx ry h
 obtain ⟨d,e,hd,he,hp,q⟩:=h
 exact rcAt_D I.hok hd he rx ry (by have:=hr.un; omega) _ _ _ _ ⟨.bl _,H,I,rfl,q⟩
theorem op_neD (hr : Room k X.A) : OpR X (compareOp .NotEq) rNeD:=by
 intro pins s σ H x y v u Q I rx ry h
 obtain ⟨d,e,hd,he,hp,q⟩:=h
 exact rcNe_D I.hok hd he rx ry (by have:=hr.un; omega) _ _ _ _ ⟨.bl _,H,I,rfl,q⟩
noncomputable def rInD (neg : Bool) : R2:=fun x y H Q=>∃ a vs ds e,y = .ref a ∧ (H a = some (.lst vs) ∨ H a = some (.tup vs)) ∧ Dts H ds vs ∧ Dt H e x ∧ D.dps ds ≤ 150 ∧ Q (.bl (if neg then !ds.any (fun d=>D.eq d e) else ds.any (fun d=>D.eq d e))) H
noncomputable def eU (H : Hp) (e : D) (u : Value) : Bool:=@decide (∃ d z,Dt H d z ∧ RelV z u ∧ D.eq d e = true) (Classical.propDecidable _)
theorem eU_of {H : Hp} {d e : D} {z : V} {u : Value} (h : Dt H d z) (r : RelV z u) : eU H e u = D.eq d e:=by
 unfold eU
 cases q : D.eq d e with
 | true=>exact @decide_eq_true _ (Classical.propDecidable _) ⟨d,z,h,r,q⟩
 | false =>
  refine @decide_eq_false _ (Classical.propDecidable _) ?_
  rintro ⟨d',z',h',r',q'⟩
  have ez:=RelV.inj r r'
  subst ez
  rw [← Dt.inj h h',q] at q'
  cases q'
theorem any_eU {H : Hp} {e : D} : ∀ {ds : List D} {vs : List V} {us : List Value},Dts H ds vs → Vals vs us → us.any (eU H e) = ds.any (fun d=>D.eq d e)
 | [],vs,us,h,r=>by simp only [Dts] at h; subst h; cases r; rfl
 | d :: ds,vs,us,h,r=>by
  simp only [Dts] at h
  obtain ⟨v,vr,rfl,h1,h2⟩:=h
  cases r with
  | cons r rt=>rw [List.any_cons,List.any_cons,eU_of h1 r,any_eU h2 rt]
theorem all_eU {P : Program} {w : World} {H : Hp} {s : Shared} {A : Around} (hok : HOk P w H s.heap) {e : D} {x : V} {v : Value} (he : Dt H e x) (rx : RelV x v) : ∀ {ds : List D} {vs : List V} {us : List Value},Dts H ds vs → Vals vs us → A.units + D.dps ds + 1 < cLine →
 ∀ u ∈ us,SeqAt.EqAt A s u v (eU H e u)
 | [],vs,us,h,r,_=>by simp only [Dts] at h; subst h; cases r; intro u z; cases z
 | d :: ds,vs,us,h,r,hu=>by
  simp only [Dts] at h
  obtain ⟨v',vr,rfl,h1,h2⟩:=h
  simp only [D.dps] at hu
  cases r with
  | cons r rt =>
   intro u z
   rcases List.mem_cons.mp z with rfl | z
   · rw [eU_of h1 r]; exact eqAt_D hok d e h1 he r rx (by omega)
   · exact all_eU hok he rx h2 rt (by omega) u z
theorem op_inD (hr : Room k X.A) : OpR X (compareOp .In) (rInD false):=by
 intro pins s σ H x y v u Q I rx ry h
 obtain ⟨a,vs,ds,e,rfl,ha,hs,he,hp,q⟩:=h
 cases ry
 have hu : X.A.in1.units + D.dps ds + 1 < cLine:=by rw [in1_units]; have:=hr.un; omega
 rcases ha with ha | ha
 · obtain ⟨_,its,n,rv,p⟩:=I.hok a _ ha
   refine SeqAt.in_listAt (eU H e) (show s.heap.IsList a its.toArray from ⟨_,p,rfl,n,rfl⟩) (fun y hy=>all_eU I.hok he rx hs rv hu y (by simpa using hy)) ?_
   refine ⟨.bl _,H,I,?_,q⟩
   rw [List.any_toArray,any_eU hs rv]; rfl
 · obtain ⟨_,its,rv,p⟩:=I.hok a _ ha
   refine SeqAt.in_tupleAt (eU H e) (show s.heap.IsTuple a its.toArray from p) (fun y hy=>all_eU I.hok he rx hs rv hu y (by simpa using hy)) ?_
   refine ⟨.bl _,H,I,?_,q⟩
   rw [List.any_toArray,any_eU hs rv]; rfl
theorem op_notinD (hr : Room k X.A) : OpR X (compareOp .NotIn) (rInD true):=by
 intro pins s σ H x y v u Q I rx ry h
 obtain ⟨a,vs,ds,e,rfl,ha,hs,he,hp,q⟩:=h
 cases ry
 have hu : X.A.in1.units + D.dps ds + 1 < cLine:=by rw [in1_units]; have:=hr.un; omega
 rcases ha with ha | ha
 · obtain ⟨_,its,n,rv,p⟩:=I.hok a _ ha
   refine SeqAt.notIn_listAt (eU H e) (show s.heap.IsList a its.toArray from ⟨_,p,rfl,n,rfl⟩) (fun y hy=>all_eU I.hok he rx hs rv hu y (by simpa using hy)) ?_
   refine ⟨.bl _,H,I,?_,q⟩
   rw [List.any_toArray,any_eU hs rv]; rfl
 · obtain ⟨_,its,rv,p⟩:=I.hok a _ ha
   refine SeqAt.notIn_tupleAt (eU H e) (show s.heap.IsTuple a its.toArray from p) (fun y hy=>all_eU I.hok he rx hs rv hu y (by simpa using hy)) ?_
   refine ⟨.bl _,H,I,?_,q⟩
   rw [List.any_toArray,any_eU hs rv]; rfl
noncomputable def isiB (t n : String) : Bool:=t == n || (t == "bool" && n == "int")
inductive TyN (H : Hp) : V → String → Prop where
 | non : TyN H .non "NoneType"
 | bl (b : Bool) : TyN H (.bl b) "bool"
 | int (i : Int) : TyN H (.int i) "int"
 | str (x : Str) : TyN H (.str x) "str"
 | lst {a : Addr} {xs : List V} (e : H a = some (.lst xs)) : TyN H (.ref a) "list"
 | tup {a : Addr} {xs : List V} (e : H a = some (.tup xs)) : TyN H (.ref a) "tuple"
theorem kit_b {K : PySem.W.Frag} {t n : String} (ht : t ∈ ["NoneType","bool","int","str","list","tuple","dict"]) (hn : n ∈ ["bool","int","str","list","tuple","dict"]) : PySem.W.kitOne K (.type t) (.type n) = some (isiB t n):=by
 simp only [List.mem_cons,List.not_mem_nil,or_false] at ht hn
 rcases ht with rfl | rfl | rfl | rfl | rfl | rfl | rfl <;> rcases hn with rfl | rfl | rfl | rfl | rfl | rfl <;> first | rfl | decide +kernel
noncomputable def rIsi : List V → Hp → VK → Prop:=fun xs H Q=>∃ x n t,xs = [x,.ty n] ∧ TyN H x t ∧ n ∈ ["bool","int","str","list","tuple","dict"] ∧ Q (.bl (isiB t n)) H
theorem call_isi : CallR X (.builtin "isinstance") rIsi:=by
 intro pins s σ H xs us Q I r h
 obtain ⟨x,n,t,rfl,ty,hn,q⟩:=h
 obtain ⟨u,c,rfl,ru,rc⟩:=vals2 r
 cases (show c = Value.type n from rc)
 have fin : ∀ tk,EP X pins σ Q (.bool (isiB t n)) { s with toks:=tk }:=fun tk=>⟨.bl _,H,I.tok _,rfl,q⟩
 cases ty with
 | non=>exact isinst_ok I ru .non (kit_b (by simp) hn) fin
 | bl b=>exact isinst_ok I ru (.bl b) (kit_b (by simp) hn) fin
 | int i=>exact isinst_ok I ru (.int i) (kit_b (by simp) hn) fin
 | str z=>exact isinst_ok I ru (.str z) (kit_b (by simp) hn) fin
 | lst e=>exact isinst_ok I ru (.lst e) (kit_b (by simp) hn) fin
 | tup e=>exact isinst_ok I ru (.tup e) (kit_b (by simp) hn) fin
noncomputable def tChain3 (r1 r2 r3 : R2) (ta tb tc td : TE) : TE:=fun σ H Q=>ta σ H fun x H1=>tb σ H1 fun y H2=>r1 x y H2 fun z H3=>∃ b,z = .bl b ∧
 if b = true then tc σ H3 fun y2 H4=>r2 y y2 H4 fun z2 H5=>∃ b2,z2 = .bl b2 ∧ (if b2 = true then td σ H5 fun y3 H6=>r3 y2 y3 H6 Q else Q (.bl false) H5) else Q (.bl false) H3
end
end L2
namespace L2
open PySem PySem.Spec PyProof.Rows
theorem bt_len : bootBuiltins "len" = some (.builtin "len"):=by decide +kernel
theorem bt_max : bootBuiltins "max" = some (.builtin "max"):=by decide +kernel
theorem bt_min : bootBuiltins "min" = some (.builtin "min"):=by decide +kernel
theorem bt_isinstance : bootBuiltins "isinstance" = some (.builtin "isinstance"):=by decide +kernel
theorem bt_int : bootBuiltins "int" = some (.type "int"):=by decide +kernel
theorem bt_bool : bootBuiltins "bool" = some (.type "bool"):=by decide +kernel
theorem bt_list : bootBuiltins "list" = some (.type "list"):=by decide +kernel
theorem bt_tuple : bootBuiltins "tuple" = some (.type "tuple"):=by decide +kernel
theorem same_new {H : Hp} {p : Addr} (h : H p = none) (o : HO) : Same H (upd H p o):=fun b u q=>by rw [upd_ne (ne_of_none q h)]; exact q
section
variable {X : Cx}
noncomputable def rCatD : R2:=fun x y H Q=>∃ a b xs ys,x = .ref a ∧ y = .ref b ∧ H a = some (.tup xs) ∧ H b = some (.tup ys) ∧ xs.length + ys.length ≤ sizeLine ∧
 ∀ p H',Same H H' → H' p = some (.tup (xs ++ ys)) → Q (.ref p) H'
theorem cat_tup0 {prog : Program} {w : World} {A : Around} {E : Value → Shared → Prop} {s : Shared} {t b : Addr} {ws : List Value} {Q : Value → Shared → Prop} (ht : IsTup s.heap t ([] : List Value).toArray) (hb : IsTup s.heap b ws.toArray) (h : Q (.ref b) s) :
 wpAny (model prog w) A (binaryOp .Add (.ref t) (.ref b)) Q E s:=by
 obtain ⟨⟨cls,dd,data,sl⟩,ho,hc,n,hd⟩:=id ht
 obtain ⟨⟨cls2,dd2,data2,sl2⟩,ho2,hc2,n2,hd2⟩:=id hb
 simp only at hc hd hc2 hd2
 subst hc hd hc2 hd2
 exact concat_meets ⟨_,ho,rfl⟩ ⟨_,ho2,rfl⟩ noFill_tuple_add seq_tuple_add PySem.F.slot_tuple_add PySem.F.entry_tuple_add (PySem.F.args_tuple_add_2 _ _)
  (tuple_addW0 t b _ ws.toArray n n2 dd dd2 sl sl2 (by rfl)) ⟨ho,ho2,h⟩
theorem op_catD : OpR X (binaryOp .Add) rCatD:=by
 intro pins s σ H x y v u Q I rx ry h
 obtain ⟨a,b,xs,ys,rfl,rfl,ha,hb,hz,q⟩:=h
 by_cases hx : xs = []
 · subst hx
   cases rx
   cases ry
   obtain ⟨_,its,r1,p1⟩:=I.hok a _ ha
   obtain ⟨_,its2,r2,p2⟩:=I.hok b _ hb
   cases r1
   exact cat_tup0 p1 p2 ⟨.ref b,H,I,rfl,q b H (Same.refl H) hb⟩
 · refine op_catT pins s σ H _ _ v u Q I rx ry ⟨a,b,xs,ys,rfl,rfl,SqT.of ha,SqT.of hb,hx,hz,fun e=>?_,fun _ p hp=>q p _ (same_new hp _) upd_same⟩
   subst e
   exact q a H (Same.refl H) (by rw [List.append_nil]; exact ha)
end
noncomputable def RetL (H : Hp) (ds : List D) (Q : VK) : Prop:=∀ p vs H',Same H H' → H p = none → H' p = some (.lst vs) → Dts H' ds vs → Q (.ref p) H'
noncomputable def RetD (H : Hp) (d : D) (Q : VK) : Prop:=∀ v H',Same H H' → Dt H' d v → Q v H'
theorem RetL.d {H : Hp} {ds : List D} {Q : VK} (h : RetD H (.lst ds) Q) : RetL H ds Q:=fun p vs H' S _ e d=>h _ H' S (by simp only [Dt]; exact ⟨p,vs,rfl,e,d⟩)
end L2
namespace L2
open PySem PySem.Spec PyProof.Rows
noncomputable def itemsOf : Option HO → Option (List V)
 | some (.lst xs)=>some xs
 | some (.tup xs)=>some xs
 | _=>none
theorem itemsOf_sq {K : PySem.W.Frag} {H : Hp} {a : Addr} {xs : List V} (h : itemsOf (H a) = some xs) : SqL K H a xs ∨ SqT K H a xs:=by
 cases e : H a with
 | none=>rw [e] at h; cases h
 | some o =>
  rw [e] at h
  cases o with
  | lst ys=>cases h; exact .inl (SqL.of e)
  | tup ys=>cases h; exact .inr (SqT.of e)
  | _=>cases h
theorem atI_0 {α : Type} {a : α} {r : List α} : atI (a :: r) 0 = some a:=atI_nat (j:=0) rfl
theorem atI_1 {α : Type} {a b : α} {r : List α} : atI (a :: b :: r) 1 = some b:=atI_nat (j:=1) rfl
theorem atI_2 {α : Type} {a b c : α} {r : List α} : atI (a :: b :: c :: r) 2 = some c:=atI_nat (j:=2) rfl
theorem atI_3 {α : Type} {a b c d : α} {r : List α} : atI (a :: b :: c :: d :: r) 3 = some d:=atI_nat (j:=3) rfl
theorem atI_4 {α : Type} {a b c d e : α} {r : List α} : atI (a :: b :: c :: d :: e :: r) 4 = some e:=atI_nat (j:=4) rfl
section
variable {X : Cx}
noncomputable def rIxF : R2:=fun x y H Q=>∃ p xs i v,x = .ref p ∧ y = .int i ∧ itemsOf (H p) = some xs ∧ atI xs i = some v ∧ Q v H
theorem ixF : IxR X rIxF:=by
 intro value slice pins s σ H x y v u Q I rx ry h hs
 obtain ⟨p,xs,i,z,rfl,rfl,e,hz,q⟩:=h
 rcases itemsOf_sq (K:=X.K) e with hq | hq
 · exact ix_list value slice pins s σ H _ _ v u Q I rx ry ⟨p,xs,i,z,rfl,rfl,hq,hz,q⟩ hs
 · exact ix_tup value slice pins s σ H _ _ v u Q I rx ry ⟨p,xs,i,z,rfl,rfl,hq,hz,q⟩ hs
theorem lenF : CallR X (.builtin "len") (fun xs H Q=>∃ p ys,xs = [.ref p] ∧ itemsOf (H p) = some ys ∧ Q (.int ys.length) H):=by
 intro pins s σ H xs us Q I r h
 obtain ⟨p,ys,rfl,e,q⟩:=h
 exact call_len_seq pins s σ H _ us Q I r ⟨p,ys,rfl,itemsOf_sq e,q⟩
theorem slLF : SlR X (fun x lo hi H Q=>∃ a xs,x = .ref a ∧ H a = some (.lst xs) ∧ ∀ p,H p = none → Q (.ref p) (upd H p (.lst (cutV xs lo hi)))):=by
 intro pins s σ H x v vl vu lo hi sl Q I rx hs pl pu h
 obtain ⟨a,xs,rfl,e,q⟩:=h
 exact sl_list pins s σ H _ v vl vu lo hi sl Q I rx hs pl pu ⟨a,xs,rfl,SqL.of e,q⟩
end
noncomputable def ForW (J : It) (g : TG) (tb : TS) (D : Ends) (σ : St) (H : Hp) : Prop :=
 ∃ W : Nat → Nat → St → Hp → Prop,(∃ m,W 0 m σ H) ∧ ∀ i m σ H,W i m σ H →
  (J.stop i H ∧ D.nx σ H) ∨ (J.go i H ∧ ∃ N : St → Hp → Prop,(∀ σ' H',N σ' H' → ∃ m',m' < m ∧ W (i + 1) m' σ' H') ∧ ∀ x H',J.yld i H x H' → g x σ H' fun σ2 H2=>tb { D with nx:=N,ct:=N,bk:=D.nx } σ2 H2)
theorem forR {lo : Int} {n : Nat} {g : TG} {tb : TS} {D : Ends} {σ : St} {H : Hp} (Pv : Nat → St → Hp → Prop) (h0 : Pv 0 σ H)
 (hs : ∀ i σ H,i < n → Pv i σ H → g (.int (lo + i)) σ H fun σ2 H2=>tb { D with nx:=Pv (i + 1),ct:=Pv (i + 1),bk:=D.nx } σ2 H2) (hd : ∀ σ H,Pv n σ H → D.nx σ H) : ForW (Itr lo n) g tb D σ H:=for_range Pv h0 hs hd
theorem a_tFor {wi : TI} {g : TG} {tb : TS} {D : Ends} {σ : St} {H : Hp} : tFor wi g tb D σ H = wi σ H fun J H1=>ForW J g tb D σ H1:=rfl
theorem Same.new {H0 H : Hp} (S : Same H0 H) {p : Addr} (n : H p = none) (o : HO) : Same H0 (upd H p o):=S.trans (same_new n o)
theorem Same.put {H0 H : Hp} (S : Same H0 H) {p : Addr} (n : H0 p = none) (o : HO) : Same H0 (upd H p o):=fun b u h=>by
 rw [upd_ne (ne_of_none h n)]; exact S b u h
theorem Same.old {H0 H : Hp} (S : Same H0 H) {p : Addr} (n : H p = none) : H0 p = none:=by
 cases e : H0 p with
 | none=>rfl
 | some o=>rw [S p o e] at n; cases n
theorem Dt.new {H : Hp} {d : D} {v : V} (h : Dt H d v) {p : Addr} (n : H p = none) (o : HO) : Dt (upd H p o) d v:=h.same (same_new n o)
theorem Dt.tup {H : Hp} {ds : List D} {vs : List V} {a : Addr} (e : H a = some (.tup vs)) (h : Dts H ds vs) : Dt H (.tup ds) (.ref a):=by
 simp only [Dt]; exact ⟨a,vs,rfl,e,h⟩
theorem Dt.lst {H : Hp} {ds : List D} {vs : List V} {a : Addr} (e : H a = some (.lst vs)) (h : Dts H ds vs) : Dt H (.lst ds) (.ref a):=by
 simp only [Dt]; exact ⟨a,vs,rfl,e,h⟩
theorem isD_tup {H : Hp} {ds : List D} {v : V} : Dt H (.tup ds) v ↔ ∃ a vs,v = .ref a ∧ H a = some (.tup vs) ∧ Dts H ds vs:=by simp only [Dt]
theorem isD_lst {H : Hp} {ds : List D} {v : V} : Dt H (.lst ds) v ↔ ∃ a vs,v = .ref a ∧ H a = some (.lst vs) ∧ Dts H ds vs:=by simp only [Dt]
theorem isDs_nil {H : Hp} {vs : List V} : Dts H [] vs ↔ vs = []:=by simp only [Dts]
theorem isDs_cons {H : Hp} {d : D} {ds : List D} {vs : List V} : Dts H (d :: ds) vs ↔ ∃ v r,vs = v :: r ∧ Dt H d v ∧ Dts H ds r:=by simp only [Dts]
theorem isD_int {H : Hp} {i : Int} {v : V} : Dt H (.int i) v ↔ v = .int i:=by simp only [Dt]
theorem isD_str {H : Hp} {x : Str} {v : V} : Dt H (.str x) v ↔ v = .str x:=by simp only [Dt]
theorem isD_bl {H : Hp} {b : Bool} {v : V} : Dt H (.bl b) v ↔ v = .bl b:=by simp only [Dt]
theorem isD_non {H : Hp} {v : V} : Dt H .non v ↔ v = .non:=by simp only [Dt]
theorem Dts.of_str {H : Hp} : ∀ {ns : List Str} {vs : List V},Dts H (ns.map D.str) vs → vs = ns.map V.str
 | [],vs,h=>by simpa only [List.map_nil,Dts] using h
 | n :: r,vs,h=>by
  simp only [List.map_cons,Dts] at h
  obtain ⟨v,t,rfl,h1,h2⟩:=h
  rw [isD_str.mp h1,Dts.of_str h2]; rfl
theorem cxOf_K {CX : CXT} {P : Program} {w : World} {K : PySem.W.Frag} {mg : Str → Option Value} {base : Heap} {N : List Str} {qual : Str} {scope : Scope} {f : Addr} {cd : Value} {A : Around} {outer : List Env} {s : Shared} {H : Hp} {E : XK} :
 (cxOf CX P w K mg base N qual scope f cd A outer s H E).K = K:=rfl
theorem blk_K {X : Cx} {N : List Str} {scope : Scope} {C : Addr} {s : Shared} {H : Hp} {ex : List Addr} : (blk X N scope C s H ex).K = X.K:=rfl
theorem cm_l {i j : Int} (h1 : -18446744073709551616 < i) (h2 : i < 18446744073709551616) : CMul i j:=.inl ⟨h1,h2⟩
theorem cm_r {i j : Int} (h1 : -18446744073709551616 < j) (h2 : j < 18446744073709551616) : CMul i j:=.inr ⟨h1,h2⟩
theorem ex_len {K : PySem.W.Frag} {H : Hp} {a : Addr} {xs : List V} {R : List V → Prop} (h : SqL K H a xs) (q : R xs) : ∃ x,(SqL K H a x ∨ SqT K H a x) ∧ R x:=⟨xs,.inl h,q⟩
theorem ex_at {K : PySem.W.Frag} {H : Hp} {a : Addr} {xs : List V} {i : Int} {v : V} {R : V → Prop} (h : SqL K H a xs) (e : atI xs i = some v) (q : R v) : ∃ x,SqL K H a x ∧ ∃ y,atI x i = some y ∧ R y:=⟨xs,h,v,e,q⟩
end L2
namespace L2
open PySem PySem.Spec PyProof.Rows
noncomputable def tSet (i : Nat) (te : TE) : TS:=fun D σ H=>te σ H fun x H1=>D.nx (σ.set i (some x)) H1
theorem ps_let {X : Cx} {i : Nat} {x : Str} {e : Expr} {te : TE} {pos pos' : Pos} (hN : X.N.Nodup) (hi : X.N[i]? = some x) (hx : Loc X.env.scope x) (he : PE X e te) (hs : swapsWith e (some (.Name x pos')) pos.line X.env = pure false:=by rfl) (hf : X.fn x = true ∨ X.env.scope.names.lookup x = some .local:=by first | exact .inl rfl | exact .inr rfl | assumption) : PS X (.Assign [.Name x pos'] e pos) (tSet i te):=ps_set hN hi hx he hs hf
noncomputable def tSetC (i : Nat) (wi : TI) (caps : List Nat) (tc : TT) (te : TE) : TS:=fun D σ H=>tComp wi caps tc te σ H fun v H1=>D.nx (σ.set i (some v)) H1
theorem ps_letC {X : Cx} {scope : Scope} {x : Str} {N : List Str} {caps : List Nat} {elt iter : Expr} {px py pos spos : Pos} {ifs : List Expr} {wi : TI} {tc : TT} {te : TE} {y : Str} {i : Nat} (hcalm : X.calm = true) (S : CSc X scope x N caps) (hi : PI X (.Name x px) iter wi)
 (hc : ∀ C s H ex,PIfs (blk X N scope C s H ex) ifs tc) (he : ∀ C s H ex,PE (blk X N scope C s H ex) elt te) (hN : X.N.Nodup) (hy : X.N[i]? = some y) (hx : X.env.scope.names.lookup y = some .local)
 (hsw : swapsWith (.ListComp elt [⟨.Name x px,iter,ifs,0⟩] scope pos) (some (.Name y py)) spos.line X.env = pure true) (hs : ∀ x,foldedSetIterable iter X.env x = pure x:=by intro _; rfl) :
 PS X (.Assign [.Name y py] (.ListComp elt [⟨.Name x px,iter,ifs,0⟩] scope pos) spos) (tSetC i wi caps tc te):=ps_comp hcalm S hi hc he hN hy hx hsw hs
theorem a_tSet {i : Nat} {te : TE} {D : Ends} {σ : St} {H : Hp} : tSet i te D σ H = te σ H fun x H1=>D.nx (σ.set i (some x)) H1:=rfl
theorem a_tSetC {i : Nat} {wi : TI} {caps : List Nat} {tc : TT} {te : TE} {D : Ends} {σ : St} {H : Hp} : tSetC i wi caps tc te D σ H = tComp wi caps tc te σ H fun v H1=>D.nx (σ.set i (some v)) H1:=rfl
theorem a_tVar {i : Nat} {σ : St} {H : Hp} {Q : VK} : tVar i σ H Q = (∃ v,σ[i]? = some (some v) ∧ Q v H):=rfl
theorem a_tC {v : V} {σ : St} {H : Hp} {Q : VK} : tC v σ H Q = (Q v H):=rfl
theorem a_tIsN {ta : TE} {σ : St} {H : Hp} {Q : VK} : tIsN ta σ H Q = (ta σ H fun x H1=>Q (.bl (decide (x = .non))) H1):=rfl
theorem a_tNotN {ta : TE} {σ : St} {H : Hp} {Q : VK} : tNotN ta σ H Q = (ta σ H fun x H1=>Q (.bl (!decide (x = .non))) H1):=rfl
theorem a_tB {t : TE} {σ : St} {H : Hp} {Q : Bool → Hp → Prop} : tB t σ H Q = (t σ H fun x H1=>∃ c,x = .bl c ∧ Q c H1):=rfl
theorem a_tAnd {t u : TT} {σ : St} {H : Hp} {Q : Bool → Hp → Prop} : tAnd t u σ H Q = (t σ H fun c H1=>if c = true then u σ H1 Q else Q false H1):=rfl
theorem a_tOr {t u : TT} {σ : St} {H : Hp} {Q : Bool → Hp → Prop} : tOr t u σ H Q = (t σ H fun c H1=>if c = true then Q true H1 else u σ H1 Q):=rfl
theorem a_tNot {t : TT} {σ : St} {H : Hp} {Q : Bool → Hp → Prop} : tNot t σ H Q = (t σ H fun c H1=>Q (!c) H1):=rfl
theorem a_tAndV {ta tb : TE} {σ : St} {H : Hp} {Q : VK} : tAndV ta tb σ H Q = (ta σ H fun x H1=>∃ c,x = .bl c ∧ if c = true then tb σ H1 Q else Q (.bl false) H1):=rfl
theorem a_tOrV {ta tb : TE} {σ : St} {H : Hp} {Q : VK} : tOrV ta tb σ H Q = (ta σ H fun x H1=>∃ c,x = .bl c ∧ if c = true then Q (.bl true) H1 else tb σ H1 Q):=rfl
theorem a_tNotV {ta : TE} {σ : St} {H : Hp} {Q : VK} : tNotV ta σ H Q = (ta σ H fun x H1=>∃ c,x = .bl c ∧ Q (.bl (!c)) H1):=rfl
theorem a_tIf {t : TT} {ta tb : TE} {σ : St} {H : Hp} {Q : VK} : tIf t ta tb σ H Q = (t σ H fun c H1=>if c = true then ta σ H1 Q else tb σ H1 Q):=rfl
theorem a_tNext {D : Ends} {σ : St} {H : Hp} : tNext  D σ H = (D.nx σ H):=rfl
theorem a_tSeq {t u : TS} {D : Ends} {σ : St} {H : Hp} : tSeq t u D σ H = (t { D with nx:=u D } σ H):=rfl
theorem a_tDrop {te : TE} {D : Ends} {σ : St} {H : Hp} : tDrop te D σ H = (te σ H fun _ H1=>D.nx σ H1):=rfl
theorem a_tRet {te : TE} {D : Ends} {σ : St} {H : Hp} : tRet te D σ H = (te σ H D.rt):=rfl
theorem a_tIfS {c : TT} {t u : TS} {D : Ends} {σ : St} {H : Hp} : tIfS c t u D σ H = (c σ H fun b H1=>if b = true then t D σ H1 else u D σ H1):=rfl
theorem a_tNever {D : Ends} {σ : St} {H : Hp} : tNever  D σ H = (False):=rfl
theorem a_gName {i : Nat} {v : V} {σ : St} {H : Hp} {Q : St → Hp → Prop} : gName i v σ H Q = (Q (σ.set i (some v)) H):=rfl
theorem a_gNil {vs : List V} {σ : St} {H : Hp} {Q : St → Hp → Prop} : gNil  vs σ H Q = (vs = [] ∧ Q σ H):=rfl
theorem a_gCons {t : TG} {u : TGs} {vs : List V} {σ : St} {H : Hp} {Q : St → Hp → Prop} : gCons t u vs σ H Q = (∃ v r,vs = v :: r ∧ t v σ H fun σ' H'=>u r σ' H' Q):=rfl
theorem a_gTup {K : PySem.W.Frag} {n : Nat} {t : TGs} {v : V} {σ : St} {H : Hp} {Q : St → Hp → Prop} : gTup K n t v σ H Q = (∃ a xs,v = .ref a ∧ SqT K H a xs ∧ xs.length = n ∧ t xs σ H Q):=rfl
theorem a_gSub {to ti : TE} {t : TSet} {v : V} {σ : St} {H : Hp} {Q : St → Hp → Prop} : gSub to ti t v σ H Q = (to σ H fun o H1=>ti σ H1 fun i H2=>t o i v H2 fun H3=>Q σ H3):=rfl
theorem a_tAsg {te : TE} {g : TG} {D : Ends} {σ : St} {H : Hp} : tAsg te g D σ H = (te σ H fun x H1=>g x σ H1 D.nx):=rfl
theorem a_tPar {i j : Nat} {ta : TA} {D : Ends} {σ : St} {H : Hp} : tPar i j ta D σ H = (ta σ H fun vs H1=>∃ v w,vs = [v,w] ∧ D.nx ((σ.set i (some v)).set j (some w)) H1):=rfl
theorem a_iRng1 {ta : TA} {σ : St} {H : Hp} {R : It → Hp → Prop} : iRng1 ta σ H R = (ta σ H fun vs H1=>∃ j : Int,vs = [.int j] ∧ -(2 ^ 62) ≤ j ∧ j < 2 ^ 62 ∧ R (Itr 0 j.toNat) H1):=rfl
theorem a_iRng2 {ta : TA} {σ : St} {H : Hp} {R : It → Hp → Prop} : iRng2 ta σ H R = (ta σ H fun vs H1=>∃ i j : Int,vs = [.int i,.int j] ∧ (-(2 ^ 62) ≤ i ∧ i < 2 ^ 62 ∧ -(2 ^ 62) ≤ j ∧ j < 2 ^ 62) ∧ R (Itr i (j - i).toNat) H1):=rfl
theorem a_tOp {r : R2} {ta tb : TE} {σ : St} {H : Hp} {Q : VK} : tOp r ta tb σ H Q = (ta σ H fun x H1=>tb σ H1 fun y H2=>r x y H2 Q):=rfl
theorem a_tUn {r : V → Hp → VK → Prop} {ta : TE} {σ : St} {H : Hp} {Q : VK} : tUn r ta σ H Q = (ta σ H fun x H1=>r x H1 Q):=rfl
theorem a_rI {C : Int → Int → Prop} {g : Int → Int → V} {x y : V} {H : Hp} {Q : VK} : rI C g x y H Q = (∃ i j,x = .int i ∧ y = .int j ∧ C i j ∧ Q (g i j) H):=rfl
theorem a_rI0 {g : Int → Int → V} {x y : V} {H : Hp} {Q : VK} : rI0 g x y H Q = (∃ i j,x = .int i ∧ y = .int j ∧ Q (g i j) H):=rfl
theorem a_rU {g : Int → V} {x : V} {H : Hp} {Q : VK} : rU g x H Q = (∃ i,x = .int i ∧ Q (g i) H):=rfl
theorem a_rEq {x y : V} {H : Hp} {Q : VK} : rEq  x y H Q = (scal x y = true ∧ Q (.bl (decide (x = y))) H):=rfl
theorem a_rNe {x y : V} {H : Hp} {Q : VK} : rNe  x y H Q = (scal x y = true ∧ Q (.bl (!decide (x = y))) H):=rfl
theorem a_tTest {t : TE} {σ : St} {H : Hp} {Q : Bool → Hp → Prop} : tTest t σ H Q = (t σ H fun x H'=>∃ k,x = .bl k ∧ Q k H'):=rfl
theorem a_tChain {r r' : R2} {ta tb tc : TE} {σ : St} {H : Hp} {Q : VK} : tChain r r' ta tb tc σ H Q = (ta σ H fun x H1=>tb σ H1 fun y H2=>r x y H2 fun z H3=>∃ k,z = .bl k ∧   (if k = true then tc σ H3 fun w' H4=>r' y w' H4 Q else Q (.bl false) H3)):=rfl
theorem a_tNil {σ : St} {H : Hp} {Q : List V → Hp → Prop} : tNil  σ H Q = (Q [] H):=rfl
theorem a_tCons {ta : TE} {tr : TA} {σ : St} {H : Hp} {Q : List V → Hp → Prop} : tCons ta tr σ H Q = (ta σ H fun x H1=>tr σ H1 fun xs H2=>Q (x :: xs) H2):=rfl
theorem a_tCall {sp : Sp} {dvs : List V} {E : XK} {t : TA} {σ : St} {H : Hp} {Q : VK} : tCall sp dvs E t σ H Q = (t σ H fun vs H1=>sp (vs ++ dvs) H1 Q E):=rfl
theorem a_tCB {r : List V → Hp → VK → Prop} {t : TA} {σ : St} {H : Hp} {Q : VK} : tCB r t σ H Q = (t σ H fun vs H1=>r vs H1 Q):=rfl
theorem a_tNoPart {σ : St} {H : Hp} {Q : Option Int → Hp → Prop} : tNoPart  σ H Q = (Q none H):=rfl
theorem a_tPart {t : TE} {σ : St} {H : Hp} {Q : Option Int → Hp → Prop} : tPart t σ H Q = (t σ H fun x H1=>∃ i,x = .int i ∧ Q (some i) H1):=rfl
theorem a_tSl {r : V → Option Int → Option Int → Hp → VK → Prop} {te : TE} {tl th : TO} {σ : St} {H : Hp} {Q : VK} : tSl r te tl th σ H Q = (te σ H fun x H1=>tl σ H1 fun l H2=>th σ H2 fun u H3=>r x l u H3 Q):=rfl
theorem a_rIxL {K : PySem.W.Frag} {x y : V} {H : Hp} {Q : VK} : rIxL K x y H Q = (∃ p xs i v,x = .ref p ∧ y = .int i ∧ SqL K H p xs ∧ atI xs i = some v ∧ Q v H):=rfl
theorem a_rIxS {x y : V} {H : Hp} {Q : VK} : rIxS  x y H Q = (∃ z i c,x = .str z ∧ y = .int i ∧ z.length ≤ sizeLine ∧ atI z.cps.toList i = some c ∧ Q (.str ⟨#[c]⟩) H):=rfl
theorem a_tBM {K : PySem.W.Frag} {T : String} {r : V → List V → Hp → VK → Prop} {to : TE} {t : TA} {σ : St} {H : Hp} {Q : VK} : tBM K T r to t σ H Q = (to σ H fun x H1=>tyV K T x H1 ∧ t σ H1 fun xs H2=>r x xs H2 Q):=rfl
theorem a_tYes {σ : St} {H : Hp} {Q : Bool → Hp → Prop} : tYes  σ H Q = (Q true H):=rfl
theorem a_tComp {wi : TI} {caps : List Nat} {tc : TT} {te : TE} {σ : St} {H : Hp} {Q : VK} : tComp wi caps tc te σ H Q = (wi σ H fun J H1=>wComp J caps tc te σ H1 Q):=rfl
theorem a_rJoin {K : PySem.W.Frag} {x : V} {xs : List V} {H : Hp} {Q : VK} : rJoin K x xs H Q = (∃ sep a ys,x = .str sep ∧ xs = [.ref a] ∧ (SqL K H a (ys.map V.str) ∨ SqT K H a (ys.map V.str)) ∧ (ys.map (·.length)).sum + ys.length * sep.length ≤ 16777216 ∧ Q (.str (Txt.join sep ys)) H):=rfl
theorem a_rEqD {x y : V} {H : Hp} {Q : VK} : rEqD  x y H Q = (∃ d e,Dt H d x ∧ Dt H e y ∧ d.dp ≤ 150 ∧ Q (.bl (D.eq d e)) H):=rfl
theorem a_rNeD {x y : V} {H : Hp} {Q : VK} : rNeD  x y H Q = (∃ d e,Dt H d x ∧ Dt H e y ∧ d.dp ≤ 150 ∧ Q (.bl (!D.eq d e)) H):=rfl
theorem a_rInD {neg : Bool} {x y : V} {H : Hp} {Q : VK} : rInD neg x y H Q = (∃ a vs ds e,y = .ref a ∧ (H a = some (.lst vs) ∨ H a = some (.tup vs)) ∧ Dts H ds vs ∧ Dt H e x ∧ D.dps ds ≤ 150 ∧ Q (.bl (if neg then !ds.any (fun d=>D.eq d e) else ds.any (fun d=>D.eq d e))) H):=rfl
theorem a_rIsi {xs : List V} {H : Hp} {Q : VK} : rIsi  xs H Q = (∃ x n t,xs = [x,.ty n] ∧ TyN H x t ∧ n ∈ ["bool","int","str","list","tuple","dict"] ∧ Q (.bl (isiB t n)) H):=rfl
theorem a_tChain3 {r1 r2 r3 : R2} {ta tb tc td : TE} {σ : St} {H : Hp} {Q : VK} : tChain3 r1 r2 r3 ta tb tc td σ H Q = (ta σ H fun x H1=>tb σ H1 fun y H2=>r1 x y H2 fun z H3=>∃ b,z = .bl b ∧   if b = true then tc σ H3 fun y2 H4=>r2 y y2 H4 fun z2 H5=>∃ b2,z2 = .bl b2 ∧ (if b2 = true then td σ H5 fun y3 H6=>r3 y2 y3 H6 Q else Q (.bl false) H5) else Q (.bl false) H3):=rfl
theorem a_rCatD {x y : V} {H : Hp} {Q : VK} : rCatD  x y H Q = (∃ a b xs ys,x = .ref a ∧ y = .ref b ∧ H a = some (.tup xs) ∧ H b = some (.tup ys) ∧ xs.length + ys.length ≤ sizeLine ∧   ∀ p H',Same H H' → H' p = some (.tup (xs ++ ys)) → Q (.ref p) H'):=rfl
theorem a_rIxF {x y : V} {H : Hp} {Q : VK} : rIxF  x y H Q = (∃ p xs i v,x = .ref p ∧ y = .int i ∧ itemsOf (H p) = some xs ∧ atI xs i = some v ∧ Q v H):=rfl
theorem scal_ii {i j : Int} : (scal (.int i) (.int j) = true) = True:=eq_true rfl
theorem scal_ss {i j : Str} : (scal (.str i) (.str j) = true) = True:=eq_true rfl
theorem scal_bb {i j : Bool} : (scal (.bl i) (.bl j) = true) = True:=eq_true rfl
end L2
namespace L2
open PySem PySem.Spec PyProof.Rows
noncomputable def NewO (H : Hp) (o : HO) (Q : VK) : Prop:=∀ p,H p = none → Q (.ref p) (upd H p o)
theorem NewO.mk {H : Hp} {o : HO} {Q : VK} (h : ∀ p H',Same H H' → H p = none → H' p = some o → Q (.ref p) H') : NewO H o Q:=fun p hp=>h p _ (same_new hp o) hp upd_same
noncomputable def PutO (H : Hp) (l : Addr) (o : HO) (R : Hp → Prop) : Prop:=R (upd H l o)
theorem PutO.mk {H : Hp} {l : Addr} {o : HO} {R : Hp → Prop} (h : ∀ H',(∀ b,b ≠ l → H' b = H b) → H' l = some o → R H') : PutO H l o R:=h _ (fun b hb=>upd_ne hb) upd_same
theorem b_tTup {t : TA} {σ : St} {H : Hp} {Q : VK} : tTup t σ H Q = (t σ H fun xs H1=>xs.length ≤ sizeLine ∧ NewO H1 (.tup xs) Q):=rfl
theorem b_tLst {t : TA} {σ : St} {H : Hp} {Q : VK} : tLst t σ H Q = (t σ H fun xs H1=>xs.length ≤ sizeLine ∧ NewO H1 (.lst xs) Q):=rfl
theorem b_rAppend {x : V} {vs : List V} {H : Hp} {Q : VK} : rAppend x vs H Q = (∃ l xs y,x = .ref l ∧ vs = [y] ∧ H l = some (.lst xs) ∧ xs.length < sizeLine ∧ PutO H l (.lst (xs ++ [y])) (Q .non)):=rfl
theorem b_rExtend {x : V} {vs : List V} {H : Hp} {Q : VK} : rExtend x vs H Q = (∃ l b xs zs,x = .ref l ∧ vs = [.ref b] ∧ H l = some (.lst xs) ∧ H b = some (.lst zs) ∧ xs.length + zs.length ≤ sizeLine ∧ PutO H l (.lst (xs ++ zs)) (Q .non)):=rfl
theorem b_rCat {x y : V} {H : Hp} {Q : VK} : rCat x y H Q = (∃ l b xs zs,x = .ref l ∧ y = .ref b ∧ H l = some (.lst xs) ∧ H b = some (.lst zs) ∧ xs.length + zs.length ≤ sizeLine ∧ NewO H (.lst (xs ++ zs)) Q):=rfl
theorem b_rRep {x y : V} {H : Hp} {Q : VK} : rRep x y H Q = (∃ l k xs,x = .ref l ∧ y = .int k ∧ H l = some (.lst xs) ∧ -(2 ^ 63) ≤ k ∧ k < 2 ^ 63 ∧ xs.length * k.toNat ≤ sizeLine ∧ NewO H (.lst (List.replicate k.toNat xs).flatten) Q):=rfl
theorem b_rSetL {o i v : V} {H : Hp} {Q : Hp → Prop} : rSetL o i v H Q = (∃ p xs k j,o = .ref p ∧ i = .int k ∧ H p = some (.lst xs) ∧ ixN xs.length k = some j ∧ PutO H p (.lst (xs.set j v)) Q):=rfl
noncomputable def rSlLF : V → Option Int → Option Int → Hp → VK → Prop:=fun x lo hi H Q=>∃ a xs,x = .ref a ∧ H a = some (.lst xs) ∧ NewO H (.lst (cutV xs lo hi)) Q
theorem slLG {X : Cx} : SlR X rSlLF:=slLF
theorem a_rSlLF {x : V} {lo hi : Option Int} {H : Hp} {Q : VK} : rSlLF x lo hi H Q = (∃ a xs,x = .ref a ∧ H a = some (.lst xs) ∧ NewO H (.lst (cutV xs lo hi)) Q):=rfl
noncomputable def rLenF : List V → Hp → VK → Prop:=fun xs H Q=>∃ p ys,xs = [.ref p] ∧ itemsOf (H p) = some ys ∧ Q (.int ys.length) H
theorem lenG {X : Cx} : CallR X (.builtin "len") rLenF:=lenF
theorem a_rLenF {xs : List V} {H : Hp} {Q : VK} : rLenF xs H Q = (∃ p ys,xs = [.ref p] ∧ itemsOf (H p) = some ys ∧ Q (.int ys.length) H):=rfl
theorem items_l {H : Hp} {a : Addr} {xs : List V} (h : H a = some (.lst xs)) : itemsOf (H a) = some xs:=by rw [h]; rfl
theorem items_t {H : Hp} {a : Addr} {xs : List V} (h : H a = some (.tup xs)) : itemsOf (H a) = some xs:=by rw [h]; rfl
theorem Same.put_new {H0 H H' : Hp} {l : Addr} (S : Same H0 H) (n : H0 l = none) (k : ∀ b,b ≠ l → H' b = H b) : Same H0 H':=fun b o e=>by
 rw [k b (ne_of_none e n)]; exact S b o e
theorem Dt.of_put {H H' : Hp} {l : Addr} {xs : List V} {d : D} {v : V} (hl : H l = some (.lst xs)) (k : ∀ b,b ≠ l → H' b = H b) (n : d.nl = true) (h : Dt H d v) : Dt H' d v :=
 h.tups (fun b ys e=>by rw [k b (ne_of e hl (by intro z; cases z))]; exact e) n
theorem Dts.of_put {H H' : Hp} {l : Addr} {xs : List V} {d : List D} {v : List V} (hl : H l = some (.lst xs)) (k : ∀ b,b ≠ l → H' b = H b) (n : D.nls d = true) (h : Dts H d v) : Dts H' d v :=
 h.tups (fun b ys e=>by rw [k b (ne_of e hl (by intro z; cases z))]; exact e) n
noncomputable abbrev Tree:=M.Tr Str
noncomputable def dT : Tree → D
 | .leaf x=>.tup [.str "leaf",.str x]
 | .knot f l r=>.tup [.str "knot",.str f,dT l,dT r]
noncomputable def vP (p : List Nat) : List V:=p.map fun (i : Nat)=>.int (i : Int)
noncomputable def dP (p : List Nat) : D:=.tup (p.map fun (i : Nat)=>.int (i : Int))
noncomputable def dO : Option (List Nat) → D
 | none=>.non
 | some p=>dP p
theorem dT_nl (t : Tree) : (dT t).nl = true:=by
 induction t with
 | leaf x=>simp [dT,D.nl,D.nls]
 | knot f l r ihl ihr=>simp [dT,D.nl,D.nls,ihl,ihr]
theorem ints_nls (p : List Nat) : D.nls (p.map fun (i : Nat)=>D.int (i : Int)) = true:=by
 induction p with
 | nil=>rfl
 | cons i p ih=>simp [D.nls,D.nl,ih]
theorem ints_cls (p : List Nat) : D.cls (p.map fun (i : Nat)=>D.int (i : Int)) = true:=by
 induction p with
 | nil=>rfl
 | cons i p ih=>simp [D.cls,D.cl,ih]
theorem ints_dps (p : List Nat) : D.dps (p.map fun (i : Nat)=>D.int (i : Int)) = 0:=by
 induction p with
 | nil=>rfl
 | cons i p ih=>simp [D.dps,D.dp,ih]
theorem dP_nl (p : List Nat) : (dP p).nl = true:=by simp only [dP,D.nl]; exact ints_nls p
theorem dP_cl (p : List Nat) : (dP p).cl = true:=by simp only [dP,D.cl]; exact ints_cls p
theorem dP_dp (p : List Nat) : (dP p).dp = 1:=by simp only [dP,D.dp,ints_dps]
theorem dO_cl (o : Option (List Nat)) : (dO o).cl = true:=by cases o <;> simp [dO,dP_cl,D.cl]
theorem dO_nl (o : Option (List Nat)) : (dO o).nl = true:=by cases o <;> simp [dO,dP_nl,D.nl]
theorem dO_dp (o : Option (List Nat)) : (dO o).dp ≤ 1:=by cases o <;> simp [dO,dP_dp,D.dp]
theorem ints_inj : ∀ {p q : List Nat},(p.map fun (i : Nat)=>D.int (i : Int)) = (q.map fun (i : Nat)=>D.int (i : Int)) → p = q
 | [],[],_=>rfl
 | [],_ :: _,h=>by simp at h
 | _ :: _,[],h=>by simp at h
 | i :: p,j :: q,h=>by
  simp only [List.map_cons,List.cons.injEq,D.int.injEq] at h
  rw [ints_inj h.2]
  have : i = j:=by omega
  rw [this]
theorem dP_inj {p q : List Nat} (h : dP p = dP q) : p = q:=by
 simp only [dP,D.tup.injEq] at h
 exact ints_inj h
theorem dO_inj {p q : Option (List Nat)} (h : dO p = dO q) : p = q:=by
 cases p <;> cases q <;> simp only [dO] at h
 · rfl
 · simp [dP] at h
 · simp [dP] at h
 · rw [dP_inj h]
theorem Dts.ints {H : Hp} : ∀ {p : List Nat} {vs : List V},Dts H (p.map fun (i : Nat)=>D.int (i : Int)) vs → vs = vP p
 | [],vs,h=>by
  simp only [List.map_nil,Dts] at h
  exact h
 | i :: p,vs,h=>by
  simp only [List.map_cons,Dts] at h
  obtain ⟨v,r,rfl,h1,h2⟩:=h
  rw [isD_int.mp h1,Dts.ints h2]; rfl
theorem Dts.ofInts {H : Hp} : ∀ {p : List Nat},Dts H (p.map fun (i : Nat)=>D.int (i : Int)) (vP p)
 | []=>by simp only [List.map_nil,Dts,vP]
 | i :: p=>Dts.cons (isD_int.mpr rfl) Dts.ofInts
theorem dP_of {H : Hp} {p : List Nat} {v : V} (h : Dt H (dP p) v) : ∃ a,v = .ref a ∧ H a = some (.tup (vP p)):=by
 obtain ⟨a,vs,rfl,e,h⟩:=isD_tup.mp h
 rw [Dts.ints h] at e
 exact ⟨a,rfl,e⟩
theorem dP_mk {H : Hp} {p : List Nat} {a : Addr} (e : H a = some (.tup (vP p))) : Dt H (dP p) (.ref a):=Dt.tup e Dts.ofInts
theorem dT_leaf {H : Hp} {x : Str} {v : V} (h : Dt H (dT (.leaf x)) v) : ∃ a,v = .ref a ∧ H a = some (.tup [.str "leaf",.str x]):=by
 simp only [dT] at h
 obtain ⟨a,vs,rfl,e,h⟩:=isD_tup.mp h
 obtain ⟨v1,r,rfl,h1,h⟩:=isDs_cons.mp h
 obtain ⟨v2,r,rfl,h2,h⟩:=isDs_cons.mp h
 rw [isDs_nil.mp h,isD_str.mp h1,isD_str.mp h2] at e
 exact ⟨a,rfl,e⟩
theorem dT_knot {H : Hp} {f : Str} {l r : Tree} {v : V} (h : Dt H (dT (.knot f l r)) v) : ∃ a vl vr,v = .ref a ∧ H a = some (.tup [.str "knot",.str f,vl,vr]) ∧ Dt H (dT l) vl ∧ Dt H (dT r) vr:=by
 simp only [dT] at h
 obtain ⟨a,vs,rfl,e,h⟩:=isD_tup.mp h
 obtain ⟨v1,r1,rfl,h1,h⟩:=isDs_cons.mp h
 obtain ⟨v2,r2,rfl,h2,h⟩:=isDs_cons.mp h
 obtain ⟨v3,r3,rfl,h3,h⟩:=isDs_cons.mp h
 obtain ⟨v4,r4,rfl,h4,h⟩:=isDs_cons.mp h
 rw [isDs_nil.mp h,isD_str.mp h1,isD_str.mp h2] at e
 exact ⟨a,v3,v4,rfl,e,h3,h4⟩
theorem leaf_mk {H : Hp} {x : Str} {a : Addr} (e : H a = some (.tup [.str "leaf",.str x])) : Dt H (dT (.leaf x)) (.ref a):=Dt.tup e (.cons (isD_str.mpr rfl) (.cons (isD_str.mpr rfl) .nil))
theorem knot_mk {H : Hp} {f : Str} {l r : Tree} {a : Addr} {vl vr : V} (e : H a = some (.tup [.str "knot",.str f,vl,vr])) (hl : Dt H (dT l) vl) (hr : Dt H (dT r) vr) : Dt H (dT (.knot f l r)) (.ref a) :=
 Dt.tup e (.cons (isD_str.mpr rfl) (.cons (isD_str.mpr rfl) (.cons hl (.cons hr .nil))))
theorem dT_any {H : Hp} {t : Tree} {v : V} (h : Dt H (dT t) v) : ∃ a r,v = .ref a ∧ H a = some (.tup (.str (if t.isL then "leaf" else "knot") :: .str t.name :: r)):=by
 cases t with
 | leaf x=>obtain ⟨a,rfl,e⟩:=dT_leaf h; exact ⟨a,_,rfl,e⟩
 | knot f l r=>obtain ⟨a,vl,vr,rfl,e,_⟩:=dT_knot h; exact ⟨a,_,rfl,e⟩
theorem Dts.map_of {α : Type} {H : Hp} {f : α → D} : ∀ {l : List α} {vs : List V} {i : Nat} {x : α},Dts H (l.map f) vs → l[i]? = some x → ∃ v,vs[i]? = some v ∧ Dt H (f x) v:=fun h e=>h.get (by rw [List.getElem?_map,e]; rfl)
noncomputable def nmS (c : Int) (many k : Nat) : Str:=⟨(M.nm c many k).toArray⟩
theorem sign_cat (a : List Nat) (b : List Nat) : (Str.mk a.toArray) ++ (Str.mk b.toArray) = Str.mk (a ++ b).toArray:=by
 show Str.append _ _ = _
 simp [Str.append]
theorem join_signs : ∀ l : List Nat,Str.join (⟨#[]⟩ : Str) (l.map fun c=>(⟨#[c]⟩ : Str)) = ⟨l.toArray⟩
 | []=>rfl
 | [c]=>rfl
 | c :: d :: l=>by
  have ih:=join_signs (d :: l)
  show (⟨#[c]⟩ : Str) ++ (⟨#[]⟩ : Str) ++ Str.join ⟨#[]⟩ ((d :: l).map fun c=>(⟨#[c]⟩ : Str)) = _
  rw [ih]
  have e : (⟨#[c]⟩ : Str) ++ (⟨#[]⟩ : Str) = Str.mk [c].toArray:=by show Str.append _ _ = _; simp [Str.append]
  rw [e,sign_cat]; rfl
theorem join_signs' (l : List Nat) : Txt.join (Str.ofString "") (l.map fun c=>(⟨#[c]⟩ : Str)) = ⟨l.toArray⟩:=by
 show Builtin.Str.glued _ _ = _
 rw [StrLaws.glued_eq_join]
 have : Str.ofString "" = (⟨#[]⟩ : Str):=by decide +kernel
 rw [this]; exact join_signs l
structure TreeOf (many : Nat) (t : Tree) (c c' : Int) : Prop where
 perm : t.lv.Perm ((List.range many).map (nmS c many))
 kn : ∀ f ∈ t.kn,f ∈ (List.range 3).map (nmS c' 3)
 dp : t.dp ≤ 24
theorem nmS_inj {c : Int} {many i j : Nat} (hm : many ≤ 32) (hi : i < many) (hj : j < many) (h : nmS c many i = nmS c many j) : i = j:=by
 unfold nmS at h
 simp only [Str.mk.injEq,Array.mk.injEq] at h
 exact M.nm_inj hm hi hj (by simpa using h)
namespace TreeOf
variable {many : Nat} {t : Tree} {c c' : Int}
theorem len (h : TreeOf many t c c') : t.lv.length = many:=by rw [h.perm.length_eq]; simp
theorem nodup (h : TreeOf many t c c') (hm : many ≤ 32) : t.lv.Nodup:=h.perm.nodup_iff.mpr (M.range_map_nodup fun _ _ hi hj e=>nmS_inj hm hi hj e)
end TreeOf
theorem atI_int {α : Type} {xs : List α} {i : Int} {v : α} (h0 : 0 ≤ i) (h : xs[i.toNat]? = some v) : atI xs i = some v:=by
 have e : i = ((i.toNat : Nat) : Int):=by omega
 rw [e]; exact atI_nat h
theorem ixN_int {n : Nat} {i : Int} (h0 : 0 ≤ i) (h : i < n) : ixN n i = some i.toNat:=by unfold ixN; rw [if_pos h0,if_pos h]
theorem cutV_to {xs : List V} {p : Nat} (h : p ≤ xs.length) : cutV xs none (some (p : Int)) = xs.take p:=by
 have e1 : HT.sIx xs.length 0 none = 0:=rfl
 have e2 : HT.sIx xs.length xs.length (some (p : Int)) = p:=by rw [HT.sIx_nat]; omega
 unfold cutV
 rw [e1,e2]; simp
theorem cutV_from {xs : List V} {p : Nat} (h : p ≤ xs.length) : cutV xs (some (p : Int)) none = xs.drop p:=by
 have e1 : HT.sIx xs.length xs.length none = xs.length:=rfl
 have e2 : HT.sIx xs.length 0 (some (p : Int)) = p:=by rw [HT.sIx_nat]; omega
 unfold cutV
 rw [e1,e2,List.take_of_length_le (by simp)]
noncomputable def rIntB : List V → Hp → VK → Prop:=fun xs H Q=>∃ k,xs = [.bl k] ∧ Q (.int (if k then 1 else 0)) H
theorem call_intB {X : Cx} : CallR X (.type "int") rIntB:=fun pins s σ H xs us Q I r h=>call_int1 pins s σ H xs us Q I r (.inr h)
theorem a_rIntB {xs : List V} {H : Hp} {Q : VK} : rIntB xs H Q = (∃ k,xs = [.bl k] ∧ Q (.int (if k then 1 else 0)) H):=rfl
noncomputable abbrev LETT : Str:=Str.ofString "abcdefghijklmnopqrstuvwxyz"
theorem lett_list : LETT.cps.toList = (List.range 26).map (97 + ·):=by decide +kernel
theorem lett_at {i : Int} (h0 : 0 ≤ i) (h : i < 26) : atI LETT.cps.toList i = some (97 + i.toNat):=by
 refine atI_int h0 ?_
 rw [lett_list,List.getElem?_map,List.getElem?_range (by omega)]; rfl
theorem lett_big : LETT.length ≤ sizeLine:=by
 have : LETT.length = 26:=by
  have e:=congrArg List.length lett_list
  simpa [Str.length] using e
 rw [this]; decide
theorem lett_c (c : Int) : atI LETT.cps.toList (c % 26) = some (M.let26 c):=lett_at (by omega) (by omega)
theorem rep_one {α : Type} (n : Nat) (x : α) : (List.replicate n [x]).flatten = List.replicate n x:=by
 induction n with
 | zero=>rfl
 | succ n ih=>simp [List.replicate_succ,ih]
theorem ty_str {K : PySem.W.Frag} {z : Str} {H : Hp} : (tyV K "str" (.str z) H) = True:=eq_true rfl
theorem ty_lst {K : PySem.W.Frag} {H : Hp} {p : Addr} {xs : List V} (e : H p = some (.lst xs)) : tyV K "list" (.ref p) H:=.inl ⟨rfl,_,SqL.of e⟩
theorem small_size {n : Nat} (h : n ≤ 100000) : n < sizeLine:=Nat.lt_of_le_of_lt h (by decide)
theorem small_le {n : Nat} (h : n ≤ 100000) : n ≤ sizeLine:=Nat.le_of_lt (small_size h)
theorem sum_ones : ∀ l : List Nat,((l.map fun c=>(⟨#[c]⟩ : Str)).map (fun x=>x.length)).sum = l.length
 | []=>rfl
 | c :: l=>by simp only [List.map_cons,List.sum_cons,sum_ones l,List.length_cons]; show 1 + l.length = _; omega
theorem app_join {K : PySem.W.Frag} {H : Hp} {p2 p5 : Addr} {xs : List V} {l : List Nat} {R : Hp → Prop} (e2 : H p2 = some (.lst xs)) (e5 : H p5 = some (.lst (l.map fun x=>V.str ⟨#[x]⟩))) (hx : xs.length ≤ 1000) (hl : l.length ≤ 1000)
 (q : ∀ H',(∀ b,b ≠ p2 → H' b = H b) → H' p2 = some (.lst (xs ++ [.str ⟨l.toArray⟩])) → R H') :
 tyV K "list" (.ref p2) H ∧ ∃ x,(SqL K H p5 (x.map V.str) ∨ SqT K H p5 (x.map V.str)) ∧ (x.map (fun x=>x.length)).sum + x.length * (Str.ofString "").length ≤ 16777216 ∧
  ∃ x_1,H p2 = some (.lst x_1) ∧ x_1.length < sizeLine ∧ PutO H p2 (.lst (x_1 ++ [.str (Txt.join (Str.ofString "") x)])) R:=by
 refine ⟨ty_lst e2,l.map fun c=>(⟨#[c]⟩ : Str),.inl (SqL.of (by rw [e5,List.map_map]; rfl)),?_,xs,e2,small_size (by omega),PutO.mk fun H' k e=>q H' k ?_⟩
 · rw [sum_ones,List.length_map]
   have : (Str.ofString "").length = 0:=by decide +kernel
   rw [this]; omega
 · rw [e,join_signs']
noncomputable def WalkL (K : PySem.W.Frag) (x : V) (H : Hp) (R : It → Hp → Prop) : Prop:=∃ a,x = .ref a ∧ (∃ xs,H a = some (.lst xs)) ∧ R (Itl K a) H
noncomputable def WalkT (K : PySem.W.Frag) (x : V) (H : Hp) (R : It → Hp → Prop) : Prop:=∃ a,x = .ref a ∧ (∃ xs,H a = some (.tup xs)) ∧ R (Itt K a) H
noncomputable def iL (K : PySem.W.Frag) (tl : TE) : TI:=fun σ H R=>tl σ H fun x H1=>WalkL K x H1 R
noncomputable def iT (K : PySem.W.Frag) (tl : TE) : TI:=fun σ H R=>tl σ H fun x H1=>WalkT K x H1 R
theorem a_iL {K : PySem.W.Frag} {tl : TE} {σ : St} {H : Hp} {R : It → Hp → Prop} : iL K tl σ H R = tl σ H fun x H1=>WalkL K x H1 R:=rfl
theorem a_iT {K : PySem.W.Frag} {tl : TE} {σ : St} {H : Hp} {R : It → Hp → Prop} : iT K tl σ H R = tl σ H fun x H1=>WalkT K x H1 R:=rfl
theorem piL {X : Cx} {tg l : Expr} {tl : TE} (hl : PE X l tl) : PI X tg l (iL X.K tl):=by
 intro pins s σ H R I h
 refine thn (hl pins s σ H _ I h) fun v s1 ⟨x,H1,I1,r1,q1⟩=>?_
 obtain ⟨a,rfl,⟨xs,ha⟩,q⟩:=q1
 cases r1
 have fp : ∀ b ∈ [s1.heap.objs.size],FpOk X pins H1 b:=fun b hb=>by
  have e : b = s1.heap.objs.size:=by simpa using hb
  rw [e]
  exact I1.fpOk (Nat.le_refl _) (I1.hok.fresh (Nat.le_refl _))
 obtain ⟨its,rv,p,hz⟩:=I1.list (SqL.of ha)
 exact wpAny_pyIter_list p.isList ⟨_,_,_,_,H1,rfl,I1.kept (t':=s1.toks) fun b o e=>Heap.get?_push_of_some _ e,turn_list a _,⟨_,Heap.get?_push_size _ rfl,rfl,rfl⟩,fp,q⟩
theorem piT {X : Cx} {tg l : Expr} {tl : TE} (hl : PE X l tl) : PI X tg l (iT X.K tl):=by
 intro pins s σ H R I h
 refine thn (hl pins s σ H _ I h) fun v s1 ⟨x,H1,I1,r1,q1⟩=>?_
 obtain ⟨a,rfl,⟨xs,ha⟩,q⟩:=q1
 cases r1
 have fp : ∀ b ∈ [s1.heap.objs.size],FpOk X pins H1 b:=fun b hb=>by
  have e : b = s1.heap.objs.size:=by simpa using hb
  rw [e]
  exact I1.fpOk (Nat.le_refl _) (I1.hok.fresh (Nat.le_refl _))
 obtain ⟨its,rv,p,hz⟩:=I1.tuple (SqT.of ha)
 exact wpAny_pyIter_tuple (show s1.heap.IsTuple a its.toArray from p) ⟨_,_,_,_,H1,rfl,I1.kept (t':=s1.toks) fun b o e=>Heap.get?_push_of_some _ e,turn_tuple a _,⟨_,Heap.get?_push_size _ rfl,rfl,rfl⟩,fp,q⟩
theorem WalkL.for {K : PySem.W.Frag} {a : Addr} {xs : List V} {g : TG} {tb : TS} {D : Ends} {σ : St} {H : Hp} (e : H a = some (.lst xs)) (Pv : Nat → St → Hp → Prop) (h0 : Pv 0 σ H) (hl : ∀ i σ H,i ≤ xs.length → Pv i σ H → H a = some (.lst xs))
 (hs : ∀ i x σ H,xs[i]? = some x → Pv i σ H → g x σ H fun σ2 H2=>tb { D with nx:=Pv (i + 1),ct:=Pv (i + 1),bk:=D.nx } σ2 H2) (hd : ∀ σ H,Pv xs.length σ H → D.nx σ H) : WalkL K (.ref a) H fun J H1=>ForW J g tb D σ H1 :=
 ⟨a,rfl,⟨xs,e⟩,for_list Pv h0 (fun i σ H h p=>SqL.of (hl i σ H h p)) hs hd⟩
theorem WalkT.for {K : PySem.W.Frag} {a : Addr} {xs : List V} {g : TG} {tb : TS} {D : Ends} {σ : St} {H : Hp} (e : H a = some (.tup xs)) (Pv : Nat → St → Hp → Prop) (h0 : Pv 0 σ H) (hl : ∀ i σ H,i ≤ xs.length → Pv i σ H → H a = some (.tup xs))
 (hs : ∀ i x σ H,xs[i]? = some x → Pv i σ H → g x σ H fun σ2 H2=>tb { D with nx:=Pv (i + 1),ct:=Pv (i + 1),bk:=D.nx } σ2 H2) (hd : ∀ σ H,Pv xs.length σ H → D.nx σ H) : WalkT K (.ref a) H fun J H1=>ForW J g tb D σ H1 :=
 ⟨a,rfl,⟨xs,e⟩,for_tup Pv h0 (fun i σ H h p=>SqT.of (hl i σ H h p)) hs hd⟩
theorem WalkL.comp {K : PySem.W.Frag} {a : Addr} {xs : List V} {caps : List Nat} {tc : TT} {te : TE} {σ : St} {H : Hp} {Q : VK} (e : H a = some (.lst xs)) (Pv : Nat → List V → Hp → Prop) (h0 : Pv 0 [] H) (hx : xs.length ≤ 100000)
 (hy : ∀ i ys H',Pv i ys H' → ys.length ≤ i)
 (hs : ∀ i x ys H',xs[i]? = some x → Same H H' → Pv i ys H' → tc (blkSt caps σ (some x)) H' fun b H2=>if b = true then te (blkSt caps σ (some x)) H2 fun y H3=>Same H H3 ∧ Pv (i + 1) (ys ++ [y]) H3 else Same H H2 ∧ Pv (i + 1) ys H2)
 (hd : ∀ p ys H1 H2,Same H H1 → Same H1 H2 → Pv xs.length ys H1 → H1 p = none → H2 p = some (.lst ys) → Q (.ref p) H2) : WalkL K (.ref a) H fun J H1=>wComp J caps tc te σ H1 Q :=
 ⟨a,rfl,⟨xs,e⟩,comp_list (fun i ys H'=>Same H H' ∧ Pv i ys H') ⟨Same.refl H,h0⟩ (small_size hx) (fun i ys H' p=>hy i ys H' p.2) (fun i ys H' _ p=>SqL.of (p.1 _ _ e)) (fun i x ys H' ex p=>hs i x ys H' ex p.1 p.2) fun ys H' p q n=>hd q ys H' _ p.1 (same_new n _) p.2 n upd_same⟩
theorem dps_le {k : Nat} : ∀ {ds : List D},(∀ d ∈ ds,d.dp ≤ k) → D.dps ds ≤ k
 | [],_=>by simp [D.dps]
 | d :: ds,h=>by
  simp only [D.dps]
  have h1:=h d (by simp)
  have h2:=dps_le (ds:=ds) fun x hx=>h x (by simp [hx])
  omega
theorem dps_map {α : Type} {k : Nat} {f : α → D} {l : List α} (h : ∀ a ∈ l,(f a).dp ≤ k) : D.dps (l.map f) ≤ k:=dps_le fun d hd=>by
 obtain ⟨a,ha,rfl⟩:=List.mem_map.mp hd
 exact h a ha
theorem nls_map {α : Type} {f : α → D} (h : ∀ a,(f a).nl = true) : ∀ l : List α,D.nls (l.map f) = true
 | []=>rfl
 | a :: l=>by simp only [List.map_cons,D.nls,h a,nls_map h l,Bool.and_self]
theorem places_dp (l : List (List Nat)) : (D.lst (l.map dP)).dp ≤ 150:=by
 have:=dps_map (k:=1) (f:=dP) (l:=l) fun a _=>by rw [dP_dp]; omega
 simp only [D.dp]; omega
end L2
namespace L2
open PySem PySem.Spec PyProof.Rows
theorem cps_append (x y : Str) : (x ++ y).cps.toList = x.cps.toList ++ y.cps.toList:=by
 show (Str.append x y).cps.toList = _
 simp [Str.append]
theorem len_cps (x : Str) : x.length = x.cps.toList.length:=by simp [Str.length]
section
variable {X : Cx}
end
end L2
namespace L2
open PySem PySem.Spec PyProof.Rows
open PySem.W (hideAll hideAll_get hideAll_none of_hideAll funFrames_hide fresh_of_stays)
theorem objOk_get {P : Program} {w : World} {H : Hp} {h : Heap} {a : Addr} : ∀ {o : HO},ObjOk P w H h a o → ∃ ob,h.get? a = some ob
 | .lst _,x=>by obtain ⟨_,_,_,_,e⟩:=x; exact ⟨_,e⟩
 | .tup _,x=>by obtain ⟨_,_,_,o,e,_⟩:=x; exact ⟨_,e⟩
 | .dK _,x=>by obtain ⟨_,_,_,_,o,_,_,e,_⟩:=x; exact ⟨_,e⟩
 | .dT _,x=>by obtain ⟨_,_,_,_,o,_,_,e,_⟩:=x; exact ⟨_,e⟩
 | .set _ _,x=>by obtain ⟨o,_,_,_,e,_⟩:=x; exact ⟨_,e⟩
 | .ins _ _ _,x=>by obtain ⟨_,_,_,e,_⟩:=x; exact ⟨_,e⟩
 | .own _,x=>x
 | .xd _,x=>by obtain ⟨_,⟨o,_,_,e,_⟩,_⟩:=x; exact ⟨_,e⟩
 | .met _ _,x=>⟨_,x⟩
 | .rng _ _,x=>by obtain ⟨_,_,_,e⟩:=x; exact ⟨_,e⟩
 | .frz _ _,x=>⟨_,x.1⟩
 | .tbl _,x=>⟨_,x⟩
 | .ext _,x=>x.2.1
noncomputable def Flies (l : List Env) (e C T : Addr) (h : Heap) : Prop:=∃ a0,Heap.FlyingW (hideAll h (e :: T :: frs l)) l e (.ref C) a0 h
noncomputable def CXE (P : Program) (w : World) : CXT:=fun outer H s E x s'=>∃ (e C T : Addr) (H' : Hp),x = .ref e ∧ Flies outer e C T s'.heap ∧ (H' e = none ∧ H' T = none ∧ s.heap.get? e = none ∧ s.heap.get? T = none) ∧
 s'.os = s.os ∧ AllBare s'.gens ∧ Un (frs outer) [] H H' s.heap s'.heap ∧ HOk P w H' s'.heap ∧ E (.ref C) none H'
theorem mem_frs {l : List Env} {env : Env} {a : Addr} (h : env ∈ l) (e : env.frame = some a) : a ∈ frs l:=List.mem_filterMap.mpr ⟨env,h,e⟩
theorem Flies.mk {B h : Heap} {l : List Env} {e C : Addr} {a0 : Value} (f : Heap.FlyingW B l e (.ref C) a0 h) : ∃ T,B.get? T = none ∧ Flies l e C T h ∧ ∃ oT ts,h.get? T = some oT ∧ oT.data = .fields ts:=by
 obtain ⟨f1,f2,f3,oe,vs,T,oT,ts,a1,a2,a3,a4,a5,a6,a7,a8,a9⟩:=f
 exact ⟨T,a5,⟨a0,fun b o q=>of_hideAll _ q,hideAll_none _ (by simp),funFrames_hide f3 (fun env he a ha=>by simp [mem_frs he ha]),oe,vs,T,oT,ts,a1,a2,a3,a4,hideAll_none _ (by simp),a6,a7,a8,a9⟩,oT,ts,a7,a8⟩
structure Left (l : List Env) (hid : List Addr) (h h' : Heap) : Prop where
 keep : ∀ b o,h.get? b = some o → b ∉ hid → b ∉ frs l → h'.get? b = some o
 slot : ∀ b o,h.get? b = some o → b ∈ frs l → ∃ sl,h'.get? b = some { o with slots:=sl }
section
variable {X : Cx} {pins : List (Addr × Obj)} {σ : St} {H : Hp} {s : Shared}
theorem Inv.fr_there (I : Inv X pins σ H s) {b : Addr} (hb : b ∈ frs X.stack) : ∃ o,s.heap.get? b = some o ∧ ∀ vs,o.data ≠ .fields vs:=by
 obtain ⟨_,o,ho,hn⟩:=I.stack.mem hb
 exact ⟨o,ho,hn⟩
structure Lv (X : Cx) (E : XK) : Prop where
 stk : X.stack = X.env :: X.outer
 fr : X.env.frame = some X.env.locals
 ex : X.ex = []
 xe : ∀ x s',wpAny (model X.prog X.w) X.A (leaving X.env x) (fun _ s''=>CXE X.prog X.w X.outer X.H₀ X.s₀ E x s'') (fun _ _=>False) s' → X.xe x s'
theorem left_ok (L : Lv X E) {H' : Hp} {h1 h' : Heap} {s1 : Shared} {e C T0 : Addr} {a0 : Value} (I : Inv X pins σ H s) (un : Un (frs X.stack) [] H H' s.heap h1) (hok : HOk X.prog X.w H' h1)
 (ne : H' e = none) (nT : H' T0 = none) (ge : s.heap.get? e = none) (gT : s.heap.get? T0 = none) (fl : Heap.FlyingW (hideAll h1 (e :: T0 :: frs X.stack)) X.outer e (.ref C) a0 h')
 (sm : h1.UpToSlots h') (os : s1.os = s.os) (bare : AllBare s1.gens) (q : E (.ref C) none H') : CXE X.prog X.w X.outer X.H₀ X.s₀ E (.ref e) { s1 with heap:=h' }:=by
 have ex:=L.ex
 have hstk:=L.stk
 have fs : frs X.stack = X.env.locals :: X.fs:=by rw [hstk]; show List.filterMap _ _ = _; rw [List.filterMap_cons_some L.fr]; rfl
 have stay : ∀ b o,h1.get? b = some o → b ≠ e → b ≠ T0 → b ∉ frs X.stack → h'.get? b = some o:=fun b o q n1 n2 n3=>fl.1 b o (hideAll_get _ q (by simp [n1,n2,n3]))
 have frd : ∀ b ∈ frs X.stack,∃ o,h1.get? b = some o ∧ ∀ vs,o.data ≠ .fields vs:=fun b hb=>by
  obtain ⟨o,ho,hn⟩:=I.fr_there hb
  obtain ⟨sl,e1⟩:=un.any ho (I.stkFree b hb) (by simp)
  exact ⟨_,e1,hn⟩
 have frn : ∀ b ∈ frs X.stack,H' b = none:=fun b hb=>by
  obtain ⟨o,ho,hn⟩:=I.fr_there hb
  exact un.free b o ho (I.stkFree b hb) (by simp)
 obtain ⟨T,hB,F,oT,ts,hT,dT⟩:=Flies.mk fl
 have old : ∀ b o,X.s₀.heap.get? b = some o → ∃ o',s.heap.get? b = some o':=fun b o q=>I.base.there b o q (by rw [ex]; simp)
 have T_hid : ∀ o,h1.get? T = some o → T = e ∨ T = T0 ∨ T ∈ frs X.stack:=fun o ho=>by
  by_cases h1e : T = e
  · exact .inl h1e
  by_cases h2e : T = T0
  · exact .inr (.inl h2e)
  by_cases h3e : T ∈ frs X.stack
  · exact .inr (.inr h3e)
  · rw [hideAll_get _ ho (by simp [h1e,h2e,h3e])] at hB; cases hB
 have T_fr : ¬ T ∈ frs X.stack:=fun hb=>by
  obtain ⟨o,ho,hn⟩:=frd T hb
  obtain ⟨sl,e1⟩:=sm T o ho hn
  rw [hT] at e1
  cases e1
  exact hn _ dT
 refine ⟨e,C,T,H',rfl,F,⟨ne,?_,?_,?_⟩,?_,bare,?_,?_,q⟩
 · cases hh : H' T with
   | none=>rfl
   | some o =>
    obtain ⟨ob,hob⟩:=objOk_get (hok T o hh)
    rcases T_hid ob hob with z | z | z
    · rw [z,ne] at hh; cases hh
    · rw [z,nT] at hh; cases hh
    · exact absurd z T_fr
 · cases hh : X.s₀.heap.get? e with
   | none=>rfl
   | some o=>obtain ⟨o',h2⟩:=old e o hh; rw [ge] at h2; cases h2
 · cases hh : X.s₀.heap.get? T with
   | none=>rfl
   | some o =>
    obtain ⟨o',h2⟩:=old T o hh
    obtain ⟨o2,h3⟩:=un.there T o' h2 (by simp)
    rcases T_hid o2 h3 with z | z | z
    · rw [z,ge] at h2; cases h2
    · rw [z,gT] at h2; cases h2
    · exact absurd z T_fr
 · exact os.trans I.os
 · have nl : ∀ b o,X.s₀.heap.get? b = some o → b ≠ X.env.locals:=fun b o q z=>by
    have h1:=Heap.lt_size q
    have h2:=I.ok.above
    exact absurd (Nat.lt_of_lt_of_le h1 h2) (by rw [z]; exact Nat.lt_irrefl _)
   refine ⟨fun b o q n hb _=>?_,fun b o q n hb _=>?_,fun b o q n _=>?_,fun b o q _=>?_,fun b xs q=>un.tups b xs (I.base.tups b xs q),fun b o u q=>un.frzs b o u (I.base.frzs b o u q),fun b ps q=>?_⟩
   · have k1:=I.base.keep b o q n hb (by rw [ex]; simp)
     have n1:=I.base.free b o q n (by rw [ex]; simp)
     have hb' : b ∉ frs X.stack:=by rw [fs]; simp [nl b o q]; exact hb
     have k2:=un.keep b o k1 n1 hb' (by simp)
     exact stay b o k2 (fun z=>by rw [z,ge] at k1; cases k1) (fun z=>by rw [z,gT] at k1; cases k1) hb'
   · obtain ⟨sl,k1⟩:=I.base.slot b o q n hb (by rw [ex]; simp)
     have n1:=I.base.free b o q n (by rw [ex]; simp)
     have hb' : b ∈ frs X.stack:=by rw [fs]; exact List.mem_cons_of_mem _ hb
     obtain ⟨sl2,k2⟩:=un.slot b _ k1 n1 hb' (by simp)
     obtain ⟨o',ho',hn'⟩:=frd b hb'
     rw [k2] at ho'
     cases ho'
     obtain ⟨sl3,k3⟩:=sm b _ k2 hn'
     exact ⟨sl3,k3⟩
   · obtain ⟨o',h2⟩:=old b o q
     exact un.free b o' h2 (I.base.free b o q n (by rw [ex]; simp)) (by simp)
   · obtain ⟨o',h2⟩:=old b o q
     obtain ⟨o2,h3⟩:=un.there b o' h2 (by simp)
     by_cases hb : b ∈ frs X.stack
     · obtain ⟨o3,ho3,hn3⟩:=frd b hb
       obtain ⟨sl,k⟩:=sm b o3 ho3 hn3
       exact ⟨_,k⟩
     · exact ⟨o2,stay b o2 h3 (fun z=>by rw [z,ge] at h2; cases h2) (fun z=>by rw [z,gT] at h2; cases h2) hb⟩
   · obtain ⟨m1,e1⟩:=I.base.tbls b ps q
     obtain ⟨m2,e2⟩:=un.tbls b _ e1
     exact ⟨m1 ++ m2,by rw [e2,Array.append_assoc]⟩
 · intro a o ho
   refine (hok a o ho).stay (fun b u hb q=>?_) (fun _ z=>z) fun _ _ z=>z
   have hb' : H' b ≠ none:=by
    rcases hb with z | z
    · rw [z,ho]; simp
    · rw [z]; simp
   exact stay b u q (fun z=>hb' (by rw [z]; exact ne)) (fun z=>hb' (by rw [z]; exact nT)) fun z=>hb' (frn b z)
theorem passE (L : Lv X E) : Passes (CXE X.prog X.w) X E:=by
 intro pins σ H s x s' I h
 obtain ⟨e,C,T,H',rfl,⟨a0,fl⟩,⟨n1,n2,g1,g2⟩,os,bare,un,hok,q⟩:=h
 refine L.xe _ _ ?_
 have fl':=fl
 rw [L.stk] at fl'
 refine wpAny_leaves_onW (by rw [I.ok.frames,L.stk]) L.fr fl' fun h' fl2 sm=>?_
 rw [← L.stk] at fl2
 exact left_ok L I un hok n1 n2 g1 g2 fl2 sm os bare q
end
end L2
namespace L2
open PySem PySem.Spec PyProof.Rows
open PySem.W (hideAll hideAll_get hideAll_none of_hideAll funFrames_hide fresh_of_stays flyingW_base)
abbrev bmV : List Value:=[.type "ValueError",.type "Exception",.type "BaseException",.type "object"]
noncomputable def ErrAt (K : PySem.W.Frag) (C : Addr) : Prop:=PySem.W.excIn K C bmV "ValueError.__new__" = true
noncomputable def subOf (K : PySem.W.Frag) (C F : Addr) : Bool:=match K.lookup C with
 | some ⟨_,_,.cls cd,_⟩=>cd.mro.contains (.ref F)
 | _=>false
theorem ErrAt.obj {K : PySem.W.Frag} {h : Heap} {C : Addr} (q : ErrAt K C) (X : K.In h) : ∃ bm N nm q bs hdct sn sub ab col dd k0 k1 k2 k3 k5 mN,h.get? C = some (excClassObj nm q C N bs bm hdct sn sub ab col dd k0 k1 k2 k3 k5 "ValueError.__new__") ∧ h.Ns N mN ∧ mN "__init__" = none ∧ OwnTail h bmV bm ∧
 ∀ F,subOf K C F = (Value.ref C :: bm).contains (.ref F):=by
 have q : PySem.W.excIn K C bmV "ValueError.__new__" = true:=q
 unfold PySem.W.excIn at q
 split at q
 · rename_i dd cd sl lk
   split at q
   · rename_i C' bm k0 k1 k2 k3 nid k5 em es
     simp only [beq_iff_eq,Bool.and_eq_true,Bool.not_eq_true'] at q
     obtain ⟨⟨⟨⟨⟨q1,q2⟩,q3⟩,q4⟩,q5⟩,q6⟩:=q
     cases q1
     cases q2
     cases cd with
     | mk nm bs mro ns qn hd sn sub ab col del =>
      simp only at em q3 q5 q6
      cases em
      cases q3
      have hs : sl = #[k0,k1,k2,k3,some (.builtin "ValueError.__new__"),k5]:=by
       cases sl with
       | mk l=>simp only at es; rw [es]
      cases hs
      exact ⟨bm,ns,nm,qn,bs,hd,sn,sub,ab,col,dd,k0,k1,k2,k3,k5,_,X _ _ lk,Heap.Ns.of_isNs (PySem.W.isNs_of_in X q5),PySem.W.nsMap_none_of_in X q5 q6,PySem.W.tail_of_in X q4,fun F=>by unfold subOf; rw [lk]⟩
   · cases q
 · cases q
theorem ErrAt.own {K : PySem.W.Frag} {h : Heap} {mg : Str → Option Value} {x : Str} {C : Addr} (q : ErrAt K C) (X : K.In h) (e : mg x = some (.ref C)) : OwnCls x C bmV "ValueError.__new__" mg h:=by
 obtain ⟨bm,N,nm,qn,bs,hdct,sn,sub,ab,col,dd,k0,k1,k2,k3,k5,mN,hC,hN,hni,TL,_⟩:=q.obj X
 exact ⟨e,bm,N,nm,qn,bs,hdct,sn,sub,ab,col,dd,k0,k1,k2,k3,k5,mN,hC,hN,hni,TL⟩
section
variable {X : Cx} {E : XK}
theorem gone {P : Program} {w : World} {H : Hp} {h : Heap} {a : Addr} (hok : HOk P w H h) (e : h.get? a = none) : H a = none:=by
 cases q : H a with
 | none=>rfl
 | some o=>obtain ⟨ob,hb⟩:=objOk_get (hok a o q); rw [e] at hb; cases hb
theorem hide_less {h : Heap} {xs ys : List Addr} (s : ∀ a ∈ ys,a ∈ xs) : (hideAll h xs).StaysIn (hideAll h ys):=fun b o q=>by
 have hb : b ∉ xs:=fun z=>by rw [hideAll_none _ z] at q; cases q
 exact hideAll_get _ (of_hideAll _ q) fun z=>hb (s b z)
noncomputable def tRaise (C : Addr) (E : XK) (ta : TA) : TS:=fun _ σ H=>ta σ H fun vs H1=>vs.length ≤ sizeLine ∧ E (.ref C) none H1
theorem a_tRaise {C : Addr} {E : XK} {ta : TA} {D : Ends} {σ : St} {H : Hp} : tRaise C E ta D σ H = (ta σ H fun vs H1=>vs.length ≤ sizeLine ∧ E (.ref C) none H1):=rfl
theorem ps_raise {x : Str} {C : Addr} {e0 : Expr} {es : List Expr} {ta : TA} {np cpos pos : Pos} (L : Lv X E) (hg : Gl X x) (hm : X.mg x = some (.ref C)) (q : ErrAt X.K C) (hc : X.calm = true) (ha : PA X (e0 :: es) ta)
 (hdb : (x == ("__debug__" : Str)) = false:=by decide) (he : starEach (e0 :: es) X.env = (false,eval e0 X.env) :: starEach es X.env:=by rfl) (hpl : (backTo cpos (starEach es X.env)).any (·.1) = false:=by rfl) :
 PS X (.Raise (some (.Call (.Name x np) (e0 :: es) [] cpos)) none pos) (tRaise C E ta):=by
 intro pins s σ H D I h
 have O:=q.own I.ok.mod.kin hm
 obtain ⟨bm,N,nm,qn,bs,hdct,sn,sub,ab,col,dd,k0,k1,k2,k3,k5,mN,hC,hN,hni,TL⟩:=O.obj
 refine wpAny_Raise_call_subT (C:=C) (nm:=nm) (q:=qn) (N:=N) (bs:=bs) (bm:=bm) (hdct:=hdct) (sn:=sn) (sub:=sub) (ab:=ab) (col:=col) (dd:=dd) (k0:=k0) (k1:=k1) (k2:=k2) (k3:=k3) (k5:=k5)
  PySem.F.excBase_ValueError (mN:=mN) (TL.hasType PySem.F.excBase_ValueError.hasBase) (I.ok.hd hc) (by rw [he]; show (false || (backTo cpos (starEach es X.env)).any (·.1)) = false; rw [hpl]; rfl) hni (ld_glob I hg hm ⟨rfl,?_⟩ hdb)
 have z:=ha cpos pins s σ H _ I h
 rw [he] at z ⊢
 refine Calls.evalArgs_plain (wpAny_mono z (fun us s2 ⟨vs,H2,I2,r,hl,qE⟩=>⟨rfl,by rw [← r.length]; exact hl,I2.bk _ _ hC,hN.keeps I2.bk,TL.keeps I2.bk,fun h' e hx=>?_⟩) fun _ _ y=>y)
 refine L.xe _ _ ?_
 have hin : ∀ env ∈ X.env :: X.outer,∀ a,env.frame = some a → a ∈ frs X.stack:=fun env he a ha=>by rw [L.stk]; exact mem_frs he ha
 have fun2 : s2.heap.FunFrames (hideAll s2.heap (frs X.stack)) (X.env :: X.outer):=funFrames_hide (L.stk ▸ I2.stack) hin
 refine wpAny_leaves_madeW (base:=hideAll s2.heap (frs X.stack)) (h:=s2.heap) (by rw [I2.ok.frames,L.stk]) L.fr (fun b o q=>of_hideAll _ q) fun2 hx fun h2 t fl _ _ sm=>?_
 have ne:=gone I2.hok hx.new
 exact left_ok (s1:=s2) L I2 Un.refl I2.hok ne ne hx.new hx.new (flyingW_base (hide_less (by intro a ha; simp [ha])) fl) ((Heap.UpToSlots.of_keeps hx.keeps).trans sm) rfl I2.bare qE
end
section
variable {P : Program} {w : World} {K : PySem.W.Frag} {mg : Str → Option Value} {base : Heap}
theorem Fun.okE {x qual : Str} {st : Stmt} {f : Addr} {fd : FuncData} {N ps : List Str} {k : Nat} {sp : Sp} (F : Fun K x qual st f fd) (S : FnScope N ps (defScope st)) (len : ∀ vs H Q E,sp vs H Q E → vs.length = ps.length)
 (hbody : ∀ (cdv : Value) (A : Around) (outer : List Env) (s : Shared) (H : Hp) (vs : List V) (Q : VK) (E : XK),Room k (A.deeper (envOfC qual (defScope st) s.heap.objs.size f cdv)) → sp vs H Q E →
   Lv (cxOf (CXE P w) P w K mg base N qual (defScope st) f cdv A outer s H E) E →
   ∃ t,PSs (cxOf (CXE P w) P w K mg base N qual (defScope st) f cdv A outer s H E) (defBody st) t ∧ t { nx:=fun _ H'=>Q .non H',rt:=Q } (start N vs) H) : FnOk P w K mg base (CXE P w) (k + 1) f fd ps sp:=by
 obtain ⟨oc,od,kV,doc,pm,an,cdv,ct,osl,rfl,lk,hcd⟩:=F.ex
 refine fn_of lk hcd S len fun A outer s H vs Q E hr hsp=>hbody cdv A outer s H vs Q E hr hsp ⟨rfl,rfl,rfl,fun x s' h=>wpAny_mono h (fun _ _ z=>z) fun _ _ z=>z.elim⟩
end
end L2
namespace L2
open PySem PySem.Spec PyProof.Rows
open PySem.W (hideAll hideAll_get hideAll_none of_hideAll funFrames_hide fresh_of_stays flyingW_base)
noncomputable def tCallJ (J : St → Prop) (sp : Sp) (dvs : List V) (E : XK) (t : TA) : TE:=fun σ H Q=>t σ H fun vs H1=>J σ ∧ sp (vs ++ dvs) H1 Q E
theorem a_tCallJ {J : St → Prop} {sp : Sp} {dvs : List V} {E : XK} {t : TA} {σ : St} {H : Hp} {Q : VK} : tCallJ J sp dvs E t σ H Q = (t σ H fun vs H1=>J σ ∧ sp (vs ++ dvs) H1 Q E):=rfl
section
variable {X : Cx} {CX : CXT} {k : Nat} {f : Addr} {fd : FuncData} {ps : List Str} {sp : Sp} {dvs : List V} {ds : List Value} {E : XK} {x : Str} {p pos : Pos} {e : Expr} {es : List Expr} {t : TA} {J : St → Prop}
noncomputable def PassJ (CX : CXT) (X : Cx) (J : St → Prop) (E : XK) : Prop:=∀ (pins : List (Addr × Obj)) (σ : St) (H : Hp) (s : Shared) (e : Value) (s' : Shared),Inv X pins σ H s → J σ → CX X.stack H s E e s' → X.xe e s'
theorem pe_callJ (F : FnOk X.prog X.w X.K X.mg X.base CX k f fd ps sp) (hr : Room k X.A) (hg : Gl X x) (hm : X.mg x = some (.ref f)) (hk : PySem.W.keepIn X.K (.ref f) = true) (hb : Binds X.K fd ps ds) (hd : Vals dvs ds) (hx : PassJ CX X J E)
 (ha : PA X (e :: es) t) (hdb : (x == ("__debug__" : Str)) = false:=by decide) (he : starEach (e :: es) X.env = (false,eval e X.env) :: starEach es X.env:=by rfl) (hpl : (backTo pos (starEach es X.env)).any (·.1) = false:=by rfl) :
 PE X (.Call (.Name x p) (e :: es) [] pos) (tCallJ J sp dvs E t):=by
 intro pins s σ H Q I h
 refine wpAny_Call_Name_kw (ld_glob I hg hm ?_ hdb)
 refine PySem.W.callWith_K (h₀:=X.base) I.ok.mod.kin hk (thn (ha pos pins s σ H _ I h) fun us s1 ⟨vs,H1,I1,r,hj,q⟩=>⟨I1.kIn,?_⟩) he hpl
 have r2 : Vals (vs ++ dvs) (us ++ ds):=r.append hd
 have hl : (us ++ ds).length = ps.length:=by rw [← r2.length]; exact F.len _ _ _ _ q
 refine wpAny_call (codeAny_mono (F.run X.A X.stack s1 H1 ⟨us,[]⟩ (us ++ ds) (vs ++ dvs) Q E hr I1.env0 (hb s1 us I1.kIn hl) r2 q) fun r s' hq=>?_)
 cases r with
 | error e=>exact hx pins σ H1 s1 e s' I1 hj hq
 | ok fl =>
  cases fl with
  | ret u=>exact I1.after hq
  | next=>exact False.elim hq
  | brk=>exact False.elim hq
  | cont=>exact False.elim hq
end
section
variable {X : Cx} {pins pn : List (Addr × Obj)} {σ : St} {H : Hp} {s : Shared} {E : XK}
noncomputable abbrev Cx.pinned (X : Cx) (pn : List (Addr × Obj)) : Cx:={ X with pn:=X.pn ++ pn }
theorem Cx.Ok.pinned (ok : X.Ok) (pn : List (Addr × Obj)) : (X.pinned pn).Ok :=
 ⟨ok.mod,ok.kind,ok.glob,ok.blt,ok.above,ok.inj,ok.has,ok.cab,ok.hd,ok.frames,ok.stk,ok.exf,ok.bs,ok.bsz,ok.noex,ok.exfs,ok.funs,ok.frf⟩
theorem Cx.Ok.unpinned (ok : (X.pinned pn).Ok) : X.Ok :=
 ⟨ok.mod,ok.kind,ok.glob,ok.blt,ok.above,ok.inj,ok.has,ok.cab,ok.hd,ok.frames,ok.stk,ok.exf,ok.bs,ok.bsz,ok.noex,ok.exfs,ok.funs,ok.frf⟩
theorem Inv.topn (I : Inv X pins σ H s) : Inv (X.pinned pins) [] σ H s:=⟨I.ok.pinned _,I.os,I.bare,I.base,I.loc,I.cell,I.free,I.freeC,fun p hp=>I.pin p (by simpa using hp),I.hok,I.len⟩
theorem Inv.unpn (I : Inv (X.pinned pn) pins σ H s) : Inv X pn σ H s:=⟨I.ok.unpinned,I.os,I.bare,I.base,I.loc,I.cell,I.free,I.freeC,fun p hp=>I.pin p (List.mem_append_left _ hp),I.hok,I.len⟩
noncomputable abbrev Cx.tryB (X : Cx) (pn : List (Addr × Obj)) (J : St → Prop) (E : XK) : Cx :=
 (X.pinned pn).wish fun x s'=>∃ pins σ H s,Inv (X.pinned pn) pins σ H s ∧ J σ ∧ CXE X.prog X.w X.stack H s E x s'
theorem passJ {J : St → Prop} : PassJ (CXE X.prog X.w) (X.tryB pn J E) J E:=fun pins σ H s _ _ I j h=>⟨pins,σ,H,s,I.unwish,j,h⟩
theorem SP.untry {J : St → Prop} {D : Ends} {f : Flow} {s' : Shared} (h : SP (X.tryB pn J E) pins D f s') : SP X pn D f s':=by
 cases f with
 | next=>obtain ⟨σ',H',I,q⟩:=h; exact ⟨σ',H',I.unwish.unpn,q⟩
 | brk=>obtain ⟨σ',H',I,q⟩:=h; exact ⟨σ',H',I.unwish.unpn,q⟩
 | cont=>obtain ⟨σ',H',I,q⟩:=h; exact ⟨σ',H',I.unwish.unpn,q⟩
 | ret u=>obtain ⟨v,σ',H',I,r,q⟩:=h; exact ⟨v,σ',H',I.unwish.unpn,r,q⟩
noncomputable abbrev Cx.hnd (X : Cx) (e : Addr) : Cx:={ X with A:=X.A.mark (some (.ref e)),calm:=false,xe:=fun _ _=>False }
theorem Cx.Ok.hnd (ok : X.Ok) (e : Addr) : (X.hnd e).Ok :=
 ⟨ok.mod,ok.kind,ok.glob,ok.blt,ok.above,ok.inj,ok.has,ok.cab,fun z=>(Bool.false_ne_true z).elim,ok.frames,ok.stk,ok.exf,ok.bs,ok.bsz,ok.noex,ok.exfs,ok.funs,ok.frf⟩
theorem Inv.hnd (I : Inv X pins σ H s) (e : Addr) : Inv (X.hnd e) pins σ H s:=⟨I.ok.hnd e,I.os,I.bare,I.base,I.loc,I.cell,I.free,I.freeC,I.pin,I.hok,I.len⟩
theorem Inv.unhnd {e : Addr} (ok : X.Ok) (I : Inv (X.hnd e) pins σ H s) : Inv X pins σ H s:=⟨ok,I.os,I.bare,I.base,I.loc,I.cell,I.free,I.freeC,I.pin,I.hok,I.len⟩
theorem fly_keep {H' : Hp} {h1 h' : Heap} {e C T0 : Addr} {a0 : Value} {l : List Env} (I : Inv X pins σ H s) (un : Un (frs X.stack) [] H H' s.heap h1) (hok : HOk X.prog X.w H' h1)
 (ne : H' e = none) (nT : H' T0 = none) (ge : s.heap.get? e = none) (gT : s.heap.get? T0 = none) (fl : Heap.FlyingW (hideAll h1 (e :: T0 :: frs X.stack)) l e (.ref C) a0 h') (sm : h1.UpToSlots h') :
 Un (frs X.stack) [] H H' s.heap h' ∧ HOk X.prog X.w H' h':=by
 have stay : ∀ b o,h1.get? b = some o → b ≠ e → b ≠ T0 → b ∉ frs X.stack → h'.get? b = some o:=fun b o q n1 n2 n3=>fl.1 b o (hideAll_get _ q (by simp [n1,n2,n3]))
 have frd : ∀ b ∈ frs X.stack,∃ o,h1.get? b = some o ∧ ∀ vs,o.data ≠ .fields vs:=fun b hb=>by
  obtain ⟨o,ho,hn⟩:=I.fr_there hb
  obtain ⟨sl,e1⟩:=un.any ho (I.stkFree b hb) (by simp)
  exact ⟨_,e1,hn⟩
 have frn : ∀ b ∈ frs X.stack,H' b = none:=fun b hb=>by
  obtain ⟨o,ho,hn⟩:=I.fr_there hb
  exact un.free b o ho (I.stkFree b hb) (by simp)
 refine ⟨⟨fun b o q n hb hx=>?_,fun b o q n hb hx=>?_,un.free,fun b o q hx=>?_,un.tups,un.frzs,un.tbls⟩,fun a o ho=>?_⟩
 · exact stay b o (un.keep b o q n hb hx) (fun z=>by rw [z,ge] at q; cases q) (fun z=>by rw [z,gT] at q; cases q) hb
 · obtain ⟨sl,k2⟩:=un.slot b o q n hb hx
   obtain ⟨o',ho',hn'⟩:=frd b hb
   rw [k2] at ho'
   cases ho'
   obtain ⟨sl3,k3⟩:=sm b _ k2 hn'
   exact ⟨sl3,k3⟩
 · obtain ⟨o2,h3⟩:=un.there b o q hx
   by_cases hb : b ∈ frs X.stack
   · obtain ⟨o3,ho3,hn3⟩:=frd b hb
     obtain ⟨sl,k⟩:=sm b o3 ho3 hn3
     exact ⟨_,k⟩
   · exact ⟨o2,stay b o2 h3 (fun z=>by rw [z,ge] at q; cases q) (fun z=>by rw [z,gT] at q; cases q) hb⟩
 · refine (hok a o ho).stay (fun b u hb q=>?_) (fun _ z=>z) fun _ _ z=>z
   have hb' : H' b ≠ none:=by
    rcases hb with z | z
    · rw [z,ho]; simp
    · rw [z]; simp
   exact stay b u q (fun z=>hb' (by rw [z]; exact ne)) (fun z=>hb' (by rw [z]; exact nT)) fun z=>hb' (frn b z)
noncomputable def ExcO (e C : Addr) : HO:=.ext fun h=>∃ ob,h.get? e = some ob ∧ ob.cls = .ref C
theorem exc_inv {H' : Hp} {s1 : Shared} {h1 h' : Heap} {e C T0 : Addr} {a0 : Value} {l : List Env} (I : Inv X pins σ H s) (un : Un (frs X.stack) [] H H' s.heap h1) (hok : HOk X.prog X.w H' h1)
 (ne : H' e = none) (nT : H' T0 = none) (ge : s.heap.get? e = none) (gT : s.heap.get? T0 = none) (fl : Heap.FlyingW (hideAll h1 (e :: T0 :: frs X.stack)) l e (.ref C) a0 h') (sm : h1.UpToSlots h') (os : s1.os = s.os) (bare : AllBare s1.gens) :
 Inv X pins σ H' { s1 with heap:=h' } ∧ Inv X pins σ (upd H' e (ExcO e C)) { s1 with heap:=h' }:=by
 obtain ⟨u,k⟩:=fly_keep I un hok ne nT ge gT fl sm
 obtain ⟨ob,hob,hoc⟩:=fl.there
 have k2 : HOk X.prog X.w (upd H' e (ExcO e C)) h':=k.adopt ne ⟨⟨ob,hob,hoc⟩,⟨ob,hob⟩,fun h1 h2 ⟨o,h,c⟩ st=>⟨o,st o h,c⟩⟩
 have u2 : Un (frs X.stack) [] H (upd H' e (ExcO e C)) s.heap h':=by
  refine ⟨u.keep,u.slot,fun b o q n hx=>?_,u.there,fun b xs q=>?_,fun b o w q=>?_,fun b ps q=>?_⟩
  · rw [upd_ne (fun z=>by rw [z,ge] at q; cases q)]; exact u.free b o q n hx
  · have:=u.tups b xs q
    rw [upd_ne (ne_of_none this ne)]; exact this
  · have:=u.frzs b o w q
    rw [upd_ne (ne_of_none this ne)]; exact this
  · obtain ⟨more,this⟩:=u.tbls b ps q
    exact ⟨more,by rw [upd_ne (ne_of_none this ne)]; exact this⟩
 exact ⟨I.call' (s':={ s1 with heap:=h' }) os u k bare (by simp),I.call' (s':={ s1 with heap:=h' }) os u2 k2 bare (by simp)⟩
end
theorem excMatch_own {M : Model} {A : Around} {E : Value → Shared → Prop} {s : Shared} {Q : Bool → Shared → Prop} {K : PySem.W.Frag} {e C F : Addr} {ob : Obj} (X : K.In s.heap) (qC : ErrAt K C) (qF : ErrAt K F) (he : s.heap.get? e = some ob) (hc : ob.cls = .ref C)
 (hq : Q (subOf K C F) s) : wpAny M A (excMatches (.ref e) (.ref F)) Q E s:=by
 obtain ⟨bm,N,nm,qn,bs,hdct,sn,sub,ab,col,dd,k0,k1,k2,k3,k5,mN,hC,hN,hni,TL,hS⟩:=qC.obj X
 obtain ⟨bm',N',nm',qn',bs',hdct',sn',sub',ab',col',dd',j0,j1,j2,j3,j5,mN',hF,_,_,TL',_⟩:=qF.obj X
 have hB : (Value.ref F :: bm').contains (.type "BaseException") = true:=by rw [List.contains_cons,TL'.hasType PySem.F.excBase_ValueError.hasBase,Bool.or_true]
 have f:=tc_notTuple
 rw [hS] at hq
 obtain ⟨h,g,d,t,os⟩:=s
 generalize hb : (Value.ref C :: bm).contains (.ref F) = b at hq
 unfold excMatches
 repeat (first | (with_reducible refine wpAny_loadPart_at he ?_; rw [hc]) | with_reducible refine wpAny_loadPart_at hF ?_ | with_reducible refine wpAny_loadPart_at hC ?_ | (with_reducible refine wpAny_isSubtype_exc hF ?_; rw [hB]) | (with_reducible refine wpAny_isSubtype_exc hC ?_; rw [hb]) | wp_step)
 cases b <;> (wp_walk; exact hq)
end L2
namespace L2
open PySem PySem.Spec PyProof.Rows
open PySem.W (hideAll hideAll_get hideAll_none of_hideAll funFrames_hide fresh_of_stays flyingW_base)
section
variable {X : Cx} {pins : List (Addr × Obj)} {σ : St} {H : Hp} {s : Shared}
noncomputable def endsA (i : Nat) (D : Ends) : Ends:={ nx:=fun σ H=>D.nx (σ.set i none) H,rt:=D.rt,bk:=fun σ H=>D.bk (σ.set i none) H,ct:=fun σ H=>D.ct (σ.set i none) H }
noncomputable def EhN (K : PySem.W.Frag) (CF : Addr) (J : St → St → Prop) (ts : TS) (D : Ends) (σ0 : St) : XK:=fun Cv _ H'=>∃ C,Cv = .ref C ∧ ErrAt K C ∧ subOf K C CF = true ∧ ∀ σ',J σ0 σ' → ts D σ' H'
noncomputable def tTry (tb : Ends → St → TS) : TS:=fun D σ H=>tb D σ D σ H
theorem a_tTry {tb : Ends → St → TS} {D : Ends} {σ : St} {H : Hp} : tTry tb D σ H = tb D σ D σ H:=rfl
theorem ps_tryE {body suite : List Stmt} {b0 : Stmt} {F : Str} {np hpos pos : Pos} {CF : Addr} {J : St → St → Prop} {ts : TS} {tb : Ends → St → TS} (hstk : X.stack = X.env :: X.outer) (hfr : X.env.frame = some X.env.locals)
 (hgF : Gl X F) (hmF : X.mg F = some (.ref CF)) (qF : ErrAt X.K CF)
 (hb : ∀ D σ0 pn,PSs (X.tryB pn (J σ0) (EhN X.K CF J ts D σ0)) body (tb D σ0)) (hs : ∀ e,PSs (X.hnd e) (b0 :: suite) ts) (hdb : (F == ("__debug__" : Str)) = false:=by decide) :
 PS X (.Try body [.ExceptHandler (some (.Name F np)) none (b0 :: suite) hpos] [] [] pos) (tTry tb):=by
 intro pins s σ H D I h
 refine wpAny_Try_except (wpAny_mono (hb D σ pins [] s σ H D (I.topn.wish _) h) (fun f s1 q=>?_) fun x s1 q=>?_)
 · have q:=q.untry
   cases f with
   | next=>exact wpAny_execs_nil q
   | _=>exact q
 obtain ⟨pins',σ',H1,s0,I1,hj,hx⟩:=q
 obtain ⟨e,C,T,H',rfl,⟨a0,fl⟩,⟨n1,n2,g1,g2⟩,os,bare,un,hok,C',eC,qC,hsub,hts⟩:=hx
 cases eC
 have fl':=fl
 rw [hstk] at fl'
 refine wpAny_looks_onW (by rw [I.ok.frames,hstk]) hfr fl' fun h4 held4 sm4=>?_
 refine wpAny_landsW held4 fun h5 fl5 sm5=>?_
 have fl5':=fl5
 rw [← hstk] at fl5'
 have I5:=(exc_inv I1.unpn un hok n1 n2 g1 g2 fl5' (sm4.trans sm5) os bare).1
 obtain ⟨ob,hob,hobc⟩:=fl5.there
 refine wpAny_handleBy_cons (codeAny_handlers_test (ld_glob (X:=X.hnd e) (I5.hnd e) hgF hmF ?_ hdb)) (by intro q; cases q)
 refine excMatch_own I5.kIn qC qF hob hobc ?_
 rw [hsub]
 refine codeAny_handlers_suite ?_
 refine lands_againW fl5 fun h6 fl6 sm6=>?_
 have fl6':=fl6
 rw [← hstk] at fl6'
 have I6:=(exc_inv I1.unpn un hok n1 n2 g1 g2 fl6' ((sm4.trans sm5).trans sm6) os bare).1
 refine wpAny_mono (hs e pins _ _ _ D (I6.hnd e) (hts σ' hj)) (fun f s8 q8=>?_) fun _ _ z=>z.elim
 cases f with
 | next=>obtain ⟨σ8,H8,I8,q8⟩:=q8; exact ⟨_,_,I8.unhnd I.ok,q8⟩
 | brk=>obtain ⟨σ8,H8,I8,q8⟩:=q8; exact ⟨_,_,I8.unhnd I.ok,q8⟩
 | cont=>obtain ⟨σ8,H8,I8,q8⟩:=q8; exact ⟨_,_,I8.unhnd I.ok,q8⟩
 | ret u=>obtain ⟨v,σ8,H8,I8,r8,q8⟩:=q8; exact ⟨v,_,_,I8.unhnd I.ok,r8,q8⟩
end
end L2
namespace L2
open PySem PySem.Spec PyProof.Rows PySem.Builtin PySem.Builtin.ObjectAttr PySem.Builtin.Getset_descriptor
structure ErrIs (K : PySem.W.Frag) (C : Addr) : Prop where
 at_ : ErrAt K C
 ga : PySem.W.findIn K (.ref C) "__getattribute__" = some (some (.builtin "BaseException.__getattribute__"))
 gx : PySem.W.findIn K (.ref C) "__getattr__" = some none
 cl : PySem.W.findIn K (.ref C) "__class__" = some (some (.builtin "object.__class__"))
 sp : PySem.W.specialIn K (.builtin "object.__class__") "__get__" = some (some (.builtin "getset_descriptor.__get__"))
 tk : PySem.W.takesIn K (.builtin "object.__class__") = some true
 mr : PySem.W.mroIn K C (.type "object") = some true
 cs : (PySem.W.clsIn K C).isSome = true
section
variable {prog : Program} {w : World} {A : Around} {E : Value → Shared → Prop} {s : Shared} {K : PySem.W.Frag} {e C : Addr} {ob : Obj}
end
section
variable {X : Cx}
end
end L2
namespace L2
open PySem PySem.Spec PyProof.Rows
mutual
noncomputable def D.py : D → PyData
 | .non=>.none
 | .bl b=>.bool b
 | .int i=>.int i
 | .str x=>.str x
 | .tup ds=>.tuple (D.pys ds)
 | .lst ds=>.list (D.pys ds)
noncomputable def D.pys : List D → List PyData
 | []=>[]
 | d :: ds=>D.py d :: D.pys ds
end
section
variable {P : Program} {w : World} {H : Hp} {h : Heap}
end
section
variable {X : Cx} {k : Nat}
noncomputable def tFmtI (te : TE) : TE:=fun σ H Q=>te σ H fun v H1=>∃ i,v = .int i ∧ i.natAbs.log2 < 1920 ∧ ∀ z : Str,z.length ≤ 1921 → Q (.str z) H1
theorem pe_fmtI {e : Expr} {te : TE} {pos : Pos} (h : PE X e te) : PE X (.FormattedValue e (-1) none pos) (tFmtI te):=by
 intro pins s σ H Q I hw
 refine wpAny_FormattedValue_plain (thn (h pins s σ H _ I hw) fun v s1 ⟨x,H1,I1,r1,q1⟩=>?_)
 obtain ⟨i,rfl,hi,q⟩:=q1
 obtain ⟨t,rfl⟩:=r1
 exact wpAny_formatField_int hi ⟨.str _,H1,I1.tok _,⟨_,rfl⟩,q _ (int_text_len_1921 hi)⟩
theorem a_tFmtI {te : TE} {σ : St} {H : Hp} {Q : VK} : tFmtI te σ H Q = (te σ H fun v H1=>∃ i,v = .int i ∧ i.natAbs.log2 < 1920 ∧ ∀ z : Str,z.length ≤ 1921 → Q (.str z) H1):=rfl
theorem b_rSlT {K : PySem.W.Frag} {x : V} {lo hi : Option Int} {H : Hp} {Q : VK} : rSlT K x lo hi H Q = (∃ a xs,x = .ref a ∧ SqT K H a xs ∧ ¬ (HT.sIx xs.length 0 lo = 0 ∧ HT.sIx xs.length xs.length hi = xs.length) ∧ NewO H (.tup (cutV xs lo hi)) Q):=rfl
end
end L2
namespace L2
open PySem PySem.Spec PyProof.Rows
theorem ints_items : ∀ {is : List Int} {us : List Value},Vals (is.map V.int) us → ∃ xs : List (Int × Tok),us = xs.map (fun p=>Value.int p.1 p.2) ∧ xs.map (·.1) = is
 | [],us,r=>by cases r; exact ⟨[],rfl,rfl⟩
 | i :: is,us,r=>by
  cases r with
  | cons r rt =>
   obtain ⟨t,rfl⟩:=r
   obtain ⟨xs,rfl,e⟩:=ints_items rt
   exact ⟨(i,t) :: xs,rfl,by simp [e]⟩
theorem num_at {xs : List (Int × Tok)} {i : Nat} (h : i < xs.length) : numAt xs.toArray i ∈ xs.map (·.1):=by
 have : numAt xs.toArray i = (xs[i]).1:=by simp [numAt,h]
 rw [this]
 exact List.mem_map.mpr ⟨xs[i],List.getElem_mem h,rfl⟩
theorem num_of {xs : List (Int × Tok)} {j : Int} (h : j ∈ xs.map (·.1)) : ∃ i,i < xs.length ∧ numAt xs.toArray i = j:=by
 obtain ⟨p,hp,rfl⟩:=List.mem_map.mp h
 obtain ⟨i,hi,e⟩:=List.mem_iff_getElem.mp hp
 exact ⟨i,hi,by simp [numAt,hi,e]⟩
section
variable {X : Cx}
noncomputable def rMaxS : List V → Hp → VK → Prop:=fun xs H Q=>∃ p is,xs = [.ref p] ∧ itemsOf (H p) = some (is.map V.int) ∧ is ≠ [] ∧ ∀ m,m ∈ is → (∀ j ∈ is,j ≤ m) → Q (.int m) H
noncomputable def rMinS : List V → Hp → VK → Prop:=fun xs H Q=>∃ p is,xs = [.ref p] ∧ itemsOf (H p) = some (is.map V.int) ∧ is ≠ [] ∧ ∀ m,m ∈ is → (∀ j ∈ is,m ≤ j) → Q (.int m) H
theorem a_rMaxS {xs : List V} {H : Hp} {Q : VK} : rMaxS xs H Q = (∃ p is,xs = [.ref p] ∧ itemsOf (H p) = some (is.map V.int) ∧ is ≠ [] ∧ ∀ m,m ∈ is → (∀ j ∈ is,j ≤ m) → Q (.int m) H):=rfl
theorem a_rMinS {xs : List V} {H : Hp} {Q : VK} : rMinS xs H Q = (∃ p is,xs = [.ref p] ∧ itemsOf (H p) = some (is.map V.int) ∧ is ≠ [] ∧ ∀ m,m ∈ is → (∀ j ∈ is,m ≤ j) → Q (.int m) H):=rfl
theorem tup_walk {M : Program} {w : World} {A : Around} {E : Value → Shared → Prop} {s : Shared} {a : Addr} {items : Array Value} {R : Value → Shared → Prop} (hh : A.handled = none) (ht : s.heap.IsTuple a items)
 (h : ∀ I s2,Walks M w A I [I,a] [I] items.size (fun i v=>items[i]? = some v) (fun i h=>h.IsTupleIter I a i ∧ h.IsTuple a items) → (s2.heap.IsTupleIter I a 0 ∧ s2.heap.IsTuple a items) → (∀ b ∈ [I,a],b < s2.heap.objs.size) →
   (∀ h' tk,(∀ b o,b ∉ [I] → s2.heap.get? b = some o → h'.get? b = some o) → (∀ b o,s.heap.get? b = some o → h'.get? b = some o) ∧ ({ s2 with heap:=h',toks:=tk } : Shared) = { s with heap:=h',toks:=tk }) → R (.ref I) s2) :
 wpAny (model M w) A (pyIter (.ref a)) R E s:=by
 have hlt : a < s.heap.objs.size:=by obtain ⟨_,e,_⟩:=ht; exact Heap.lt_size e
 refine wpAny_pyIter_tuple ht (h _ _ (Walks.tuple hh _ a (Nat.ne_of_lt hlt) items) ⟨⟨_,Heap.get?_push_size _ rfl,rfl,rfl⟩,ht.push _⟩ (fun b hb=>?_) fun h' tk hk=>⟨fun b o e=>?_,rfl⟩)
 · show b < (s.heap.push _).objs.size
   rw [Heap.size_push]
   simp only [List.mem_cons,List.not_mem_nil,or_false] at hb
   rcases hb with rfl | rfl
   · exact Nat.lt_succ_self _
   · exact Nat.lt_succ_of_lt hlt
 · refine hk b o (fun hm=>?_) (Heap.get?_push_of_some _ e)
   have:=Heap.lt_size e
   rw [List.mem_singleton.mp hm] at this
   exact Nat.lt_irrefl _ this
theorem call_maxS (hc : X.calm = true) : CallR X (.builtin "max") rMaxS:=by
 intro pins s σ H xs us Q I r h
 obtain ⟨p,is,rfl,e,hne,q⟩:=h
 obtain ⟨u,rfl,ru⟩:=vals1 r
 cases ru
 have done : ∀ {zs : List (Int × Tok)} {v : Value} {h' : Heap} {tk : Nat},zs.map (·.1) = is → (intItems zs.toArray)[argBest (fun i j=>decide (numAt zs.toArray i > numAt zs.toArray j)) (zs.toArray.size - 1)]? = some v → (∀ b o,s.heap.get? b = some o → h'.get? b = some o) →
  EP X pins σ Q v { s with heap:=h',toks:=tk }:=fun {zs v h' tk} ez hv hk=>by
  obtain ⟨t,rfl⟩:=intItems_at hv
  obtain ⟨h1,h2⟩:=argBest_gt (numAt zs.toArray) (zs.toArray.size - 1)
  have hz : 0 < zs.length:=by rw [← List.length_map (f:=(·.1)),ez]; exact List.length_pos_iff.mpr hne
  simp only [List.size_toArray] at h1 h2
  refine ⟨.int _,H,I.kept hk,⟨t,rfl⟩,q _ ?_ fun j hj=>?_⟩
  · rw [← ez]; exact num_at (by simp only [List.size_toArray]; omega)
  · rw [← ez] at hj
    obtain ⟨i,hi,rfl⟩:=num_of hj
    exact h2 i (by omega)
 cases ho : H p with
 | none=>rw [ho] at e; cases e
 | some o =>
  rw [ho] at e
  cases o with
  | lst vs =>
   cases e
   obtain ⟨_,its,n,rv,hl⟩:=I.hok p _ ho
   obtain ⟨zs,rfl,ez⟩:=ints_items rv
   refine max_intList (xs:=zs.toArray) (I.ok.hd hc) ⟨_,hl,rfl,n,by simp [intItems]⟩ ?_ fun v h' tk hv hk=>done ez hv hk
   simp only [List.size_toArray]
   rw [← List.length_map (f:=(·.1)),ez]; exact List.length_pos_iff.mpr hne
  | tup vs =>
   cases e
   obtain ⟨_,its,rv,o,hl,hcl,n,hdt⟩:=I.hok p _ ho
   obtain ⟨zs,rfl,ez⟩:=ints_items rv
   have ht : s.heap.IsTuple p (intItems zs.toArray):=⟨o,hl,hcl,n,by rw [hdt]; simp [intItems]⟩
   refine call_max_walk (tup_walk (I.ok.hd hc) ht fun Ia s2 W st hfp hk=>⟨Ia,_,_,_,_,_,_,rfl,W,st,hfp,?_,CmpOf.ints_gt (numAt zs.toArray) (fun _ _=>intItems_at),fun v h' tk hv hk2=>?_⟩)
   · simp only [intItems,Array.size_map,List.size_toArray]
     rw [← List.length_map (f:=(·.1)),ez]; exact List.length_pos_iff.mpr hne
   · obtain ⟨k1,k2⟩:=hk h' tk hk2
     rw [k2]
     exact done ez (by simpa [intItems] using hv) k1
  | _=>cases e
theorem call_minS (hc : X.calm = true) : CallR X (.builtin "min") rMinS:=by
 intro pins s σ H xs us Q I r h
 obtain ⟨p,is,rfl,e,hne,q⟩:=h
 obtain ⟨u,rfl,ru⟩:=vals1 r
 cases ru
 have done : ∀ {zs : List (Int × Tok)} {v : Value} {h' : Heap} {tk : Nat},zs.map (·.1) = is → (intItems zs.toArray)[argBest (fun i j=>decide (numAt zs.toArray i < numAt zs.toArray j)) (zs.toArray.size - 1)]? = some v → (∀ b o,s.heap.get? b = some o → h'.get? b = some o) →
  EP X pins σ Q v { s with heap:=h',toks:=tk }:=fun {zs v h' tk} ez hv hk=>by
  obtain ⟨t,rfl⟩:=intItems_at hv
  obtain ⟨h1,h2⟩:=argBest_lt (numAt zs.toArray) (zs.toArray.size - 1)
  have hz : 0 < zs.length:=by rw [← List.length_map (f:=(·.1)),ez]; exact List.length_pos_iff.mpr hne
  simp only [List.size_toArray] at h1 h2
  refine ⟨.int _,H,I.kept hk,⟨t,rfl⟩,q _ ?_ fun j hj=>?_⟩
  · rw [← ez]; exact num_at (by simp only [List.size_toArray]; omega)
  · rw [← ez] at hj
    obtain ⟨i,hi,rfl⟩:=num_of hj
    exact h2 i (by omega)
 cases ho : H p with
 | none=>rw [ho] at e; cases e
 | some o =>
  rw [ho] at e
  cases o with
  | lst vs =>
   cases e
   obtain ⟨_,its,n,rv,hl⟩:=I.hok p _ ho
   obtain ⟨zs,rfl,ez⟩:=ints_items rv
   refine min_intList (xs:=zs.toArray) (I.ok.hd hc) ⟨_,hl,rfl,n,by simp [intItems]⟩ ?_ fun v h' tk hv hk=>done ez hv hk
   simp only [List.size_toArray]
   rw [← List.length_map (f:=(·.1)),ez]; exact List.length_pos_iff.mpr hne
  | tup vs =>
   cases e
   obtain ⟨_,its,rv,o,hl,hcl,n,hdt⟩:=I.hok p _ ho
   obtain ⟨zs,rfl,ez⟩:=ints_items rv
   have ht : s.heap.IsTuple p (intItems zs.toArray):=⟨o,hl,hcl,n,by rw [hdt]; simp [intItems]⟩
   refine call_min_walk (tup_walk (I.ok.hd hc) ht fun Ia s2 W st hfp hk=>⟨Ia,_,_,_,_,_,_,rfl,W,st,hfp,?_,CmpOf.ints_lt (numAt zs.toArray) (fun _ _=>intItems_at),fun v h' tk hv hk2=>?_⟩)
   · simp only [intItems,Array.size_map,List.size_toArray]
     rw [← List.length_map (f:=(·.1)),ez]; exact List.length_pos_iff.mpr hne
   · obtain ⟨k1,k2⟩:=hk h' tk hk2
     rw [k2]
     exact done ez (by simpa [intItems] using hv) k1
  | _=>cases e
end
theorem compR {lo : Int} {n : Nat} {caps : List Nat} {tc : TT} {te : TE} {σ : St} {H : Hp} {Q : VK} (Pv : Nat → List V → Hp → Prop) (h0 : Pv 0 [] H) (hx : n ≤ 100000) (hy : ∀ i ys H',Pv i ys H' → ys.length ≤ i)
 (hs : ∀ i ys H',i < n → Same H H' → Pv i ys H' → tc (blkSt caps σ (some (.int (lo + i)))) H' fun b H2=>if b = true then te (blkSt caps σ (some (.int (lo + i)))) H2 fun y H3=>Same H H3 ∧ Pv (i + 1) (ys ++ [y]) H3 else Same H H2 ∧ Pv (i + 1) ys H2)
 (hd : ∀ p ys H1 H2,Same H H1 → Same H1 H2 → Pv n ys H1 → H1 p = none → H2 p = some (.lst ys) → Q (.ref p) H2) : wComp (Itr lo n) caps tc te σ H Q :=
 comp_range (fun i ys H'=>Same H H' ∧ Pv i ys H') ⟨Same.refl H,h0⟩ (small_size hx) (fun i ys H' p=>hy i ys H' p.2) (fun i ys H' hi p=>hs i ys H' hi p.1 p.2) fun ys H' p q n=>hd q ys H' _ p.1 (same_new n _) p.2 n upd_same
theorem comp_tup {K : PySem.W.Frag} {a : Addr} {xs : List V} {caps : List Nat} {tc : TT} {te : TE} {σ : St} {H : Hp} {Q : VK} (Pv : Nat → List V → Hp → Prop) (h0 : Pv 0 [] H) (hx : xs.length < sizeLine) (hy : ∀ i ys H,Pv i ys H → ys.length ≤ i)
 (hl : ∀ i ys H,i ≤ xs.length → Pv i ys H → SqT K H a xs)
 (hs : ∀ i x ys H,xs[i]? = some x → Pv i ys H → tc (blkSt caps σ (some x)) H fun b H2=>if b = true then te (blkSt caps σ (some x)) H2 fun y H3=>Pv (i + 1) (ys ++ [y]) H3 else Pv (i + 1) ys H2)
 (hd : ∀ ys H,Pv xs.length ys H → ∀ p,H p = none → Q (.ref p) (upd H p (.lst ys))) : wComp (Itt K a) caps tc te σ H Q:=by
 refine ⟨fun i m ys H=>m = xs.length - i ∧ i ≤ xs.length ∧ Pv i ys H,⟨xs.length,by simp,Nat.zero_le _,h0⟩,?_⟩
 rintro i m ys H ⟨rfl,hi,p⟩
 have q:=hl i ys H hi p
 by_cases hlt : i < xs.length
 · refine .inr ⟨⟨xs,xs[i],q,by simp [hlt]⟩,Nat.lt_of_le_of_lt (Nat.le_trans (hy i ys H p) hi) hx,Pv (i + 1),fun ys' H' p'=>⟨xs.length - (i + 1),by omega,rfl,hlt,p'⟩,fun x H' y=>?_⟩
   obtain ⟨e,y⟩:=y
   subst e
   exact hs i x ys _ (y xs q) p
 · have e : i = xs.length:=by omega
   subst e
   exact .inl ⟨⟨xs,q,Nat.le_refl _⟩,hd ys H p⟩
theorem WalkT.comp {K : PySem.W.Frag} {a : Addr} {xs : List V} {caps : List Nat} {tc : TT} {te : TE} {σ : St} {H : Hp} {Q : VK} (e : H a = some (.tup xs)) (Pv : Nat → List V → Hp → Prop) (h0 : Pv 0 [] H) (hx : xs.length ≤ 100000)
 (hy : ∀ i ys H',Pv i ys H' → ys.length ≤ i)
 (hs : ∀ i x ys H',xs[i]? = some x → Same H H' → Pv i ys H' → tc (blkSt caps σ (some x)) H' fun b H2=>if b = true then te (blkSt caps σ (some x)) H2 fun y H3=>Same H H3 ∧ Pv (i + 1) (ys ++ [y]) H3 else Same H H2 ∧ Pv (i + 1) ys H2)
 (hd : ∀ p ys H1 H2,Same H H1 → Same H1 H2 → Pv xs.length ys H1 → H1 p = none → H2 p = some (.lst ys) → Q (.ref p) H2) : WalkT K (.ref a) H fun J H1=>wComp J caps tc te σ H1 Q :=
 ⟨a,rfl,⟨xs,e⟩,comp_tup (fun i ys H'=>Same H H' ∧ Pv i ys H') ⟨Same.refl H,h0⟩ (small_size hx) (fun i ys H' p=>hy i ys H' p.2) (fun i ys H' _ p=>SqT.of (p.1 _ _ e)) (fun i x ys H' ex p=>hs i x ys H' ex p.1 p.2) fun ys H' p q n=>hd q ys H' _ p.1 (same_new n _) p.2 n upd_same⟩
end L2
namespace L2
open PySem PySem.Spec PyProof.Rows
theorem slen (a b : Str) : (a ++ b).length = a.length + b.length:=by simp only [len_cps,cps_append,List.length_append]
theorem len_nil : Str.empty.length = 0:=by decide +kernel
noncomputable def isK (t : Tree) : Bool:=!t.isL
noncomputable abbrev Deed:=M.Deed Str
noncomputable def vDeed : Deed → List V
 | .take x i=>[.str (Str.ofString "take"),.str x,.int i]
 | .join f i j h=>[.str (Str.ofString "join"),.str f,.int i,.int j,.int h]
 | .put i s=>[.str (Str.ofString "put"),.int i,.int s]
 | .fetch s i=>[.str (Str.ofString "fetch"),.int s,.int i]
noncomputable def dDeed : Deed → D
 | .take x i=>.tup [.str (Str.ofString "take"),.str x,.int i]
 | .join f i j h=>.tup [.str (Str.ofString "join"),.str f,.int i,.int j,.int h]
 | .put i s=>.tup [.str (Str.ofString "put"),.int i,.int s]
 | .fetch s i=>.tup [.str (Str.ofString "fetch"),.int s,.int i]
theorem deed_of {H : Hp} {d : Deed} {v : V} (h : Dt H (dDeed d) v) : ∃ a,v = .ref a ∧ H a = some (.tup (vDeed d)):=by
 cases d <;> (obtain ⟨a,vs,rfl,e,h⟩:=isD_tup.mp h; refine ⟨a,rfl,?_⟩; simp only [isDs_cons,isD_str,isD_int,isDs_nil] at h)
 · obtain ⟨_,_,rfl,rfl,_,_,rfl,rfl,_,_,rfl,rfl,rfl⟩:=h; exact e
 · obtain ⟨_,_,rfl,rfl,_,_,rfl,rfl,_,_,rfl,rfl,_,_,rfl,rfl,_,_,rfl,rfl,rfl⟩:=h; exact e
 · obtain ⟨_,_,rfl,rfl,_,_,rfl,rfl,_,_,rfl,rfl,rfl⟩:=h; exact e
 · obtain ⟨_,_,rfl,rfl,_,_,rfl,rfl,_,_,rfl,rfl,rfl⟩:=h; exact e
theorem deed_mk {H : Hp} {d : Deed} {a : Addr} (e : H a = some (.tup (vDeed d))) : Dt H (dDeed d) (.ref a):=by
 cases d
 · exact Dt.tup e (.cons (isD_str.mpr rfl) (.cons (isD_str.mpr rfl) (.cons (isD_int.mpr rfl) .nil)))
 · exact Dt.tup e (.cons (isD_str.mpr rfl) (.cons (isD_str.mpr rfl) (.cons (isD_int.mpr rfl) (.cons (isD_int.mpr rfl) (.cons (isD_int.mpr rfl) .nil)))))
 · exact Dt.tup e (.cons (isD_str.mpr rfl) (.cons (isD_int.mpr rfl) (.cons (isD_int.mpr rfl) .nil)))
 · exact Dt.tup e (.cons (isD_str.mpr rfl) (.cons (isD_int.mpr rfl) (.cons (isD_int.mpr rfl) .nil)))
theorem w_tj : (Str.ofString "take" == Str.ofString "join") = false:=by decide +kernel
theorem w_tp : (Str.ofString "take" == Str.ofString "put") = false:=by decide +kernel
theorem w_tf : (Str.ofString "take" == Str.ofString "fetch") = false:=by decide +kernel
theorem w_jt : (Str.ofString "join" == Str.ofString "take") = false:=by decide +kernel
theorem w_jp : (Str.ofString "join" == Str.ofString "put") = false:=by decide +kernel
theorem w_jf : (Str.ofString "join" == Str.ofString "fetch") = false:=by decide +kernel
theorem w_pt : (Str.ofString "put" == Str.ofString "take") = false:=by decide +kernel
theorem w_pj : (Str.ofString "put" == Str.ofString "join") = false:=by decide +kernel
theorem w_pf : (Str.ofString "put" == Str.ofString "fetch") = false:=by decide +kernel
theorem w_ft : (Str.ofString "fetch" == Str.ofString "take") = false:=by decide +kernel
theorem w_fj : (Str.ofString "fetch" == Str.ofString "join") = false:=by decide +kernel
theorem w_fp : (Str.ofString "fetch" == Str.ofString "put") = false:=by decide +kernel
theorem w_no {x y : Str} (h : (x == y) = false) : decide (V.str x = V.str y) = false:=decide_eq_false fun z=>by
 have:=V.str.inj z
 rw [this] at h
 simp at h
theorem w_yes {x : Str} : decide (V.str x = V.str x) = true:=decide_eq_true rfl
noncomputable def rListF : List V → Hp → VK → Prop:=fun xs H Q=>∃ p ys,xs = [.ref p] ∧ itemsOf (H p) = some ys ∧ NewO H (.lst ys) Q
theorem call_listF {X : Cx} : CallR X (.type "list") rListF:=fun pins s σ H xs us Q I r h=>by
 obtain ⟨p,ys,e,h,q⟩:=h
 exact call_list_of pins s σ H xs us Q I r ⟨p,ys,e,itemsOf_sq h,q⟩
theorem a_rListF {xs : List V} {H : Hp} {Q : VK} : rListF xs H Q = (∃ p ys,xs = [.ref p] ∧ itemsOf (H p) = some ys ∧ NewO H (.lst ys) Q):=rfl
noncomputable def rSlU (K : PySem.W.Frag) : V → Option Int → Option Int → Hp → VK → Prop:=fun x lo hi H Q=>∃ a xs,x = .ref a ∧ H a = some (.tup xs) ∧
 ((HT.sIx xs.length 0 lo = 0 ∧ HT.sIx xs.length xs.length hi = xs.length) → Q (.ref a) H) ∧ (¬ (HT.sIx xs.length 0 lo = 0 ∧ HT.sIx xs.length xs.length hi = xs.length) → NewO H (.tup (cutV xs lo hi)) Q)
theorem a_rSlU {K : PySem.W.Frag} {x : V} {lo hi : Option Int} {H : Hp} {Q : VK} : rSlU K x lo hi H Q = (∃ a xs,x = .ref a ∧ H a = some (.tup xs) ∧
 ((HT.sIx xs.length 0 lo = 0 ∧ HT.sIx xs.length xs.length hi = xs.length) → Q (.ref a) H) ∧ (¬ (HT.sIx xs.length 0 lo = 0 ∧ HT.sIx xs.length xs.length hi = xs.length) → NewO H (.tup (cutV xs lo hi)) Q)):=rfl
open HT in
theorem item_whole {P : Program} {w : World} {AA : Around} {EE : Value → Shared → Prop} {s : Shared} {t sl : Addr} {its : Array Value} {vl vu : Value} {lo hi : Option Int} {Q : Value → Shared → Prop} (ht : IsTup s.heap t its) (hs : s.heap.IsSliceOf sl vl vu .none) (pl : IsPart vl lo) (pu : IsPart vu hi)
 (hw : sIx its.size 0 lo = 0 ∧ sIx its.size its.size hi = its.size) (h : Q (.ref t) s) : wpAny (model P w) AA (getItem (.ref t) (.ref sl)) Q EE s:=by
 obtain ⟨os,a1,a2,a3⟩:=id hs
 unfold getItem
 try with_reducible refine wpAny_holding ?_
 first | refine wpAny_bind (wpAny_pure ?_) | skip
 refine wpAny_bind (wpAny_sequenceKey ht.typeIs (by decide) ?_)
 have kind : s.TypeIs (.ref sl) "slice":=⟨os,a1,a2⟩
 refine wpAny_bind (wpAny_callSpecial?_slot (name:=Str.ofString "__getitem__") ht.typeIs PyProof.Rows.slot_tuple_getitem
  (wpAny_call_entry PyProof.Rows.slot_tuple_getitem ht.typeIs entry_tuple_getitem ?_ (args_tuple_getitem _ _)))
 show wpAny _ _ (Builtin.Tuple.tupleItemsOf (.ref t) >>= _) _ _ s
 refine wpAny_bind (tupleItemsOf_ ht ?_)
 refine wpAny_bind (wpAny_typeOf kind ?_)
 rw [if_pos (by decide)]
 refine wpAny_bind (sliceApplied_gen hs pl pu ?_)
 have yes : (((sIx its.size 0 lo : Nat) : Int) == 0 && (1 : Int) == 1 && (sIx its.size its.size hi - sIx its.size 0 lo) == its.size) = true:=by
  rw [hw.1,hw.2]; simp
 show wpAny _ _ (if (((sIx its.size 0 lo : Nat) : Int) == 0 && (1 : Int) == 1 && (sIx its.size its.size hi - sIx its.size 0 lo) == its.size) = true then _ else _) _ _ s
 rw [if_pos yes]
 refine wpAny_bind (wpAny_bind (m:=typeOf _) (wpAny_typeOf ht.typeIs (wpAny_pure ?_)))
 rw [if_pos (by decide)]
 first
  | exact wpAny_bind (wpAny_pure (wpAny_pure ⟨_,rfl,wpAny_pure h⟩))
  | exact wpAny_pure ⟨_,rfl,wpAny_pure h⟩
  | exact wpAny_bind (wpAny_rule (wpAny_pure ⟨_,rfl,wpAny_pure h⟩))
theorem sl_tupU {X : Cx} : SlR X (rSlU X.K):=by
 intro pins s σ H x v vl vu lo hi sl Q I rx hs pl pu h
 obtain ⟨a,xs,rfl,hx,h1,h2⟩:=h
 by_cases hw : HT.sIx xs.length 0 lo = 0 ∧ HT.sIx xs.length xs.length hi = xs.length
 · cases rx
   obtain ⟨its,r,ht,hz⟩:=I.tuple (SqT.of (K:=X.K) hx)
   have hlen : its.toArray.size = xs.length:=by rw [List.size_toArray]; exact r.length.symm
   exact ⟨"tuple",_,PyProof.Rows.slot_tuple_getitem.lookup,ht.typeIs,item_whole ht hs pl pu (by rw [hlen]; exact hw) ⟨.ref a,_,I,rfl,h1 hw⟩⟩
 · exact sl_tup pins s σ H (.ref a) v vl vu lo hi sl Q I rx hs pl pu ⟨a,xs,rfl,SqT.of hx,hw,h2 hw⟩
theorem st_of {H : Hp} {B S : List D} {v : V} (h : Dt H (.tup [.lst B,.lst S]) v) : ∃ p b s vs us,v = .ref p ∧ H p = some (.tup [.ref b,.ref s]) ∧ H b = some (.lst vs) ∧ H s = some (.lst us) ∧ Dts H B vs ∧ Dts H S us:=by
 obtain ⟨p,vs,rfl,e,g1⟩:=isD_tup.mp h
 obtain ⟨v1,r1,e1,h1,g2⟩:=isDs_cons.mp g1
 obtain ⟨v2,r2,e2,h2,g3⟩:=isDs_cons.mp g2
 obtain ⟨b,us,e3,eb,db⟩:=isD_lst.mp h1
 obtain ⟨s,ws,e4,es,ds⟩:=isD_lst.mp h2
 rw [e1,e2,isDs_nil.mp g3,e3,e4] at e
 exact ⟨p,b,s,us,ws,rfl,e,eb,es,db,ds⟩
theorem st_mk {H : Hp} {B S : List D} {p b s : Addr} {vs us : List V} (e : H p = some (.tup [.ref b,.ref s])) (eb : H b = some (.lst vs)) (es : H s = some (.lst us)) (db : Dts H B vs) (ds : Dts H S us) : Dt H (.tup [.lst B,.lst S]) (.ref p) :=
 Dt.tup e (.cons (Dt.lst eb db) (.cons (Dt.lst es ds) .nil))
noncomputable def RetS (H : Hp) (st : List D × List D) (Q : VK) : Prop:=∀ p b s vs us H',Same H H' → H' p = some (.tup [.ref b,.ref s]) → H b = none → H s = none → b ≠ s → H' b = some (.lst vs) → H' s = some (.lst us) → Dts H' st.1 vs → Dts H' st.2 us → Q (.ref p) H'
theorem RetS.d {H : Hp} {B S : List D} {Q : VK} (h : RetD H (.tup [.lst B,.lst S]) Q) : RetS H (B,S) Q:=fun p b s vs us H' S' e _ _ _ eb es db ds=>h _ _ S' (st_mk e eb es db ds)
theorem Dts.len {H : Hp} {B : List D} {vs : List V} (h : Dts H B vs) : vs.length = B.length:=h.length
theorem getD_at {H : Hp} {B : List D} {vs : List V} {i : Int} (h : Dts H B vs) (hi : M.inN B.length i) : ∃ v,atI vs i = some v ∧ Dt H (B.getD i.toNat .non) v:=by
 have hlt : i.toNat < B.length:=by have:=hi.1; have:=hi.2; omega
 obtain ⟨v,e,d⟩:=h.get (List.getElem?_eq_getElem hlt)
 refine ⟨v,atI_int hi.1 e,?_⟩
 rw [List.getD_eq_getElem?_getD,List.getElem?_eq_getElem hlt]
 exact d
end L2
namespace L2
open PySem PySem.Spec PyProof.Rows
section
variable {D : Ends} {σ : St} {H : Hp} {a b c d e f g h i j k l B : TS}
theorem cut1 (q : ∀ B',B' = B → tSeq a B' D σ H) : tSeq a B D σ H:=q B rfl
theorem cut2 (q : ∀ B',B' = B → tSeq a (tSeq b B') D σ H) : tSeq a (tSeq b B) D σ H:=q B rfl
theorem cut3 (q : ∀ B',B' = B → tSeq a (tSeq b (tSeq c B')) D σ H) : tSeq a (tSeq b (tSeq c B)) D σ H:=q B rfl
end
section
variable {D : Ends} {σ : St} {H : Hp} {a b c d e f B : TS}
theorem cutC1 (q : ∀ C : St → Hp → Prop,C = B D → tSeq a (fun _=>C) D σ H) : tSeq a B D σ H:=q _ rfl
theorem cutC2 (q : ∀ C : St → Hp → Prop,C = B D → tSeq a (tSeq b fun _=>C) D σ H) : tSeq a (tSeq b B) D σ H:=q _ rfl
theorem cutC3 (q : ∀ C : St → Hp → Prop,C = B D → tSeq a (tSeq b (tSeq c fun _=>C)) D σ H) : tSeq a (tSeq b (tSeq c B)) D σ H:=q _ rfl
theorem cutC4 (q : ∀ C : St → Hp → Prop,C = B D → tSeq a (tSeq b (tSeq c (tSeq d fun _=>C))) D σ H) : tSeq a (tSeq b (tSeq c (tSeq d B))) D σ H:=q _ rfl
end
theorem lst1 {p : List Value → Prop} (h : ∀ a,p [a]) (us : List Value) (hl : us.length = 1) : p us:=by
 obtain _ | ⟨a,us⟩:=us
 · cases hl
 obtain _ | ⟨_,_⟩:=us
 · exact h a
 · simp at hl
theorem lst2 {p : List Value → Prop} (h : ∀ a b,p [a,b]) (us : List Value) (hl : us.length = 2) : p us:=by
 obtain _ | ⟨a,us⟩:=us
 · cases hl
 obtain _ | ⟨b,us⟩:=us
 · cases hl
 obtain _ | ⟨_,_⟩:=us
 · exact h a b
 · simp at hl
theorem lst3 {p : List Value → Prop} (h : ∀ a b c,p [a,b,c]) (us : List Value) (hl : us.length = 3) : p us:=by
 obtain _ | ⟨a,us⟩:=us
 · cases hl
 obtain _ | ⟨b,us⟩:=us
 · cases hl
 obtain _ | ⟨c,us⟩:=us
 · cases hl
 obtain _ | ⟨_,_⟩:=us
 · exact h a b c
 · simp at hl
theorem lst4 {p : List Value → Prop} (h : ∀ a b c d,p [a,b,c,d]) (us : List Value) (hl : us.length = 4) : p us:=by
 obtain _ | ⟨a,us⟩:=us
 · cases hl
 obtain _ | ⟨b,us⟩:=us
 · cases hl
 obtain _ | ⟨c,us⟩:=us
 · cases hl
 obtain _ | ⟨d,us⟩:=us
 · cases hl
 obtain _ | ⟨_,_⟩:=us
 · exact h a b c d
 · simp at hl
theorem lst6 {p : List Value → Prop} (h : ∀ a b c d e f,p [a,b,c,d,e,f]) (us : List Value) (hl : us.length = 6) : p us:=by
 obtain _ | ⟨a,us⟩:=us
 · cases hl
 obtain _ | ⟨b,us⟩:=us
 · cases hl
 obtain _ | ⟨c,us⟩:=us
 · cases hl
 obtain _ | ⟨d,us⟩:=us
 · cases hl
 obtain _ | ⟨e,us⟩:=us
 · cases hl
 obtain _ | ⟨f,us⟩:=us
 · cases hl
 obtain _ | ⟨_,_⟩:=us
 · exact h a b c d e f
 · simp at hl
theorem Fun.binds1 {K : PySem.W.Frag} {x qual : Str} {st : Stmt} {f : Addr} {fd : FuncData} {ps : List Str} (F : Fun K x qual st f fd) (hn : ps.length = 1) (h : ∀ (kV doc pm : Value) (an : Option Addr) (cdv ct : Value) (a : Value),bindArgs (PySem.W.fnOf x qual (defArgs st) (defBody st) (defScope st) .none kV doc pm an cdv ct) ⟨[a],[]⟩ = pure (ps.zip [a])) : Binds K fd ps [] :=
 F.binds fun kV doc pm an cdv ct us hl=>lst1 (p:=fun us=>bindArgs (PySem.W.fnOf x qual (defArgs st) (defBody st) (defScope st) .none kV doc pm an cdv ct) ⟨us,[]⟩ = pure (ps.zip us)) (h kV doc pm an cdv ct) us (hl.trans hn)
theorem Fun.binds2 {K : PySem.W.Frag} {x qual : Str} {st : Stmt} {f : Addr} {fd : FuncData} {ps : List Str} (F : Fun K x qual st f fd) (hn : ps.length = 2) (h : ∀ (kV doc pm : Value) (an : Option Addr) (cdv ct : Value) (a b : Value),bindArgs (PySem.W.fnOf x qual (defArgs st) (defBody st) (defScope st) .none kV doc pm an cdv ct) ⟨[a,b],[]⟩ = pure (ps.zip [a,b])) : Binds K fd ps [] :=
 F.binds fun kV doc pm an cdv ct us hl=>lst2 (p:=fun us=>bindArgs (PySem.W.fnOf x qual (defArgs st) (defBody st) (defScope st) .none kV doc pm an cdv ct) ⟨us,[]⟩ = pure (ps.zip us)) (h kV doc pm an cdv ct) us (hl.trans hn)
theorem Fun.binds3 {K : PySem.W.Frag} {x qual : Str} {st : Stmt} {f : Addr} {fd : FuncData} {ps : List Str} (F : Fun K x qual st f fd) (hn : ps.length = 3) (h : ∀ (kV doc pm : Value) (an : Option Addr) (cdv ct : Value) (a b c : Value),bindArgs (PySem.W.fnOf x qual (defArgs st) (defBody st) (defScope st) .none kV doc pm an cdv ct) ⟨[a,b,c],[]⟩ = pure (ps.zip [a,b,c])) : Binds K fd ps [] :=
 F.binds fun kV doc pm an cdv ct us hl=>lst3 (p:=fun us=>bindArgs (PySem.W.fnOf x qual (defArgs st) (defBody st) (defScope st) .none kV doc pm an cdv ct) ⟨us,[]⟩ = pure (ps.zip us)) (h kV doc pm an cdv ct) us (hl.trans hn)
theorem Fun.binds4 {K : PySem.W.Frag} {x qual : Str} {st : Stmt} {f : Addr} {fd : FuncData} {ps : List Str} (F : Fun K x qual st f fd) (hn : ps.length = 4) (h : ∀ (kV doc pm : Value) (an : Option Addr) (cdv ct : Value) (a b c d : Value),bindArgs (PySem.W.fnOf x qual (defArgs st) (defBody st) (defScope st) .none kV doc pm an cdv ct) ⟨[a,b,c,d],[]⟩ = pure (ps.zip [a,b,c,d])) : Binds K fd ps [] :=
 F.binds fun kV doc pm an cdv ct us hl=>lst4 (p:=fun us=>bindArgs (PySem.W.fnOf x qual (defArgs st) (defBody st) (defScope st) .none kV doc pm an cdv ct) ⟨us,[]⟩ = pure (ps.zip us)) (h kV doc pm an cdv ct) us (hl.trans hn)
theorem Fun.binds6 {K : PySem.W.Frag} {x qual : Str} {st : Stmt} {f : Addr} {fd : FuncData} {ps : List Str} (F : Fun K x qual st f fd) (hn : ps.length = 6) (h : ∀ (kV doc pm : Value) (an : Option Addr) (cdv ct : Value) (a b c d e f : Value),bindArgs (PySem.W.fnOf x qual (defArgs st) (defBody st) (defScope st) .none kV doc pm an cdv ct) ⟨[a,b,c,d,e,f],[]⟩ = pure (ps.zip [a,b,c,d,e,f])) : Binds K fd ps [] :=
 F.binds fun kV doc pm an cdv ct us hl=>lst6 (p:=fun us=>bindArgs (PySem.W.fnOf x qual (defArgs st) (defBody st) (defScope st) .none kV doc pm an cdv ct) ⟨us,[]⟩ = pure (ps.zip us)) (h kV doc pm an cdv ct) us (hl.trans hn)
theorem Dts.strs {H : Hp} {f : Nat → Str} {n : Nat} {vs : List V} (h : Dts H ((List.range n).map fun k=>D.str (f k)) vs) : vs = ((List.range n).map f).map V.str:=by
 have : ((List.range n).map fun k=>D.str (f k)) = ((List.range n).map f).map D.str:=by rw [List.map_map]; rfl
 rw [this] at h
 exact Dts.of_str h
end L2
namespace L2
open PySem PySem.Spec PyProof.Rows
section
variable {X : Cx} {pins : List (Addr × Obj)} {σ : St} {H H' : Hp} {s : Shared} {h' : Heap}
theorem turnedL {fp : List Addr} {t' : Nat} (I : Inv X pins σ H s) (k : ∀ b o,b ∉ fp → s.heap.get? b = some o → h'.get? b = some o) (hf : ∀ b ∈ fp,FpOk X pins H b) : Inv X pins σ H { s with heap:=h',toks:=t' }:=by
 have nit : ∀ b u,H b = some u → b ∉ fp:=fun b u e z=>by
  have:=(hf b z).1
  rw [e] at this; cases this
 have far : ∀ b ∈ fp,b ≠ X.env.locals:=fun b z=>(hf b z).2.1
 refine I.step (g':=s.gens) (d':=s.drawn) (ch:=fp) (fun b hb=>?_) (fun b o _ _ hc e _=>k b o hc e) (fun b o _ _ hc e _=>⟨o.slots,k b o hc e⟩) (fun _ _ _ _ n=>n) (fun b o hc e=>⟨o,k b o hc e⟩) (fun _ _ e=>e) (fun _ _ _ e=>e) (fun b ps e=>⟨#[],by rw [e]; simp⟩) (fun m hm=>?_) (fun b u e=>?_) I.bare
 · obtain ⟨_,f1,_,f3,f4,f5⟩:=hf b hb
   exact ⟨f3,f1,f4,f5⟩
 · obtain ⟨o,es,ep,ho,r⟩:=hm
   exact ⟨o,es,ep,k _ o (fun z=>far _ z rfl) ho,r⟩
 · refine (I.hok b u e).stay (fun c v hc q=>k c v ?_ q) (fun _ q=>q) fun _ _ q=>q
   rcases hc with z | z
   · rw [z]; exact nit b u e
   · exact nit c _ z
theorem pairLaid {fp : List Addr} {t' : Nat} {x y : V} {u v : Value} (I : Inv X pins σ H s) (hx : RelV x u) (hy : RelV y v) (hf : ∀ b ∈ fp,FpOk X pins H b) (ho : ∀ b ∈ fp,∃ o,s.heap.get? b = some o)
 (new : h'.get? s.heap.objs.size = some { cls:=.type "tuple",data:=.seq #[u,v] }) (k : ∀ b o,b ∉ fp → s.heap.get? b = some o → h'.get? b = some o) :
 Inv X pins σ (upd H s.heap.objs.size (.tup [x,y])) { s with heap:=h',toks:=t' } ∧ ∀ b ∈ fp,FpOk X pins (upd H s.heap.objs.size (.tup [x,y])) b:=by
 have lt : ∀ b ∈ fp,b ≠ s.heap.objs.size:=fun b hb=>by
  obtain ⟨o,e⟩:=ho b hb
  exact Nat.ne_of_lt (Heap.lt_size e)
 have hf' : ∀ b ∈ fp,FpOk X pins (upd H s.heap.objs.size (.tup [x,y])) b:=fun b hb=>by
  obtain ⟨f0,r⟩:=hf b hb
  exact ⟨by rw [upd_ne (lt b hb)]; exact f0,r⟩
 refine ⟨?_,hf'⟩
 have I1 : Inv X pins σ (upd H s.heap.objs.size (.tup [x,y])) { s with heap:=s.heap.push { cls:=.type "tuple",data:=.seq #[u,v] } } :=
  I.laid (t':=s.toks) (fun b o q=>Heap.get?_push_of_some _ q) (Nat.le_refl _) ⟨show 2 ≤ sizeLine by decide,[u,v],.cons hx (.cons hy .nil),IsTup.new _ _⟩
 refine turnedL (s:={ s with heap:=s.heap.push { cls:=.type "tuple",data:=.seq #[u,v] } }) (fp:=fp) I1 (fun b o hb e=>?_) hf'
 rcases Heap.get?_push_cases e with ⟨rfl,rfl⟩ | q
 · exact new
 · exact k b o hb q
end
noncomputable def Ite (a : Addr) : It:=⟨fun i H=>∃ xs x,H a = some (.lst xs) ∧ xs[i]? = some x,
 fun i H x H'=>∃ T y,x = .ref T ∧ H T = none ∧ H' = upd H T (.tup [.int (i : Int),y]) ∧ ∀ ys,H a = some (.lst ys) → ys[i]? = some y,
 fun i H=>∃ xs,H a = some (.lst xs) ∧ xs.length ≤ i⟩
theorem turn_enum {P : Program} {w : World} {K : PySem.W.Frag} {elts : List Expr} {n : Nat} {ps : Pos} (a e it : Addr) (hne : e ≠ it) : Turn P w K (.Tuple elts n ps) (Ite a) [e,it] e (fun i h=>(∃ old,IsEnum h e it (i : Int) old) ∧ h.IsListIter it a i) where
 mem:=by simp
 obj:=fun i h st b hb=>by
  obtain ⟨⟨old,s1⟩,o2,s2,_,s3⟩:=st
  rcases List.mem_cons.mp hb with rfl | hb
  · exact ⟨_,s1,fun v z=>by
     have z' : Data.fields _ = Data.cell v:=z
     cases z'⟩
  · rw [List.mem_singleton.mp hb]
    exact ⟨o2,s2,fun v z=>by rw [s3] at z; cases z⟩
 keep:=fun i h h' st k=>by
  obtain ⟨⟨old,s1⟩,s2⟩:=st
  exact ⟨⟨old,k e (by simp) _ s1⟩,s2.at fun o q=>k it (by simp) o q⟩
 item:=by
  intro X hP hw hK hc i pins s σ H E I hf st hg
  subst hP hw hK
  obtain ⟨⟨old,s1⟩,s2⟩:=st
  obtain ⟨xs,x,hq,hx⟩:=hg
  obtain ⟨its,rv,p,hz⟩:=I.list (SqL.of (K:=X.K) hq)
  obtain ⟨u,hu,ru⟩:=rv.get hx
  have hob : ∀ b ∈ [e,it],∃ o,s.heap.get? b = some o:=fun b hb=>by
   rcases List.mem_cons.mp hb with rfl | hb
   · exact ⟨_,s1⟩
   · rw [List.mem_singleton.mp hb]
     obtain ⟨o,q,_⟩:=s2
     exact ⟨o,q⟩
  refine wpAny_pyNext_enum_item s1 s2 p.isList (x:=u) (by simpa using hu) hne fun h1 g1 g2 g3 g4 g5=>?_
  refine ⟨_,rfl,wpAny_letOwnedTupleGo_enum (s:={ s with heap:=h1,toks:=s.toks + 1 }) g1 fun h2 t1 t2=>?_⟩
  have hT : s.heap.objs.size ≠ e:=Nat.ne_of_gt (Heap.lt_size s1)
  obtain ⟨I2,f2⟩:=pairLaid (t':=s.toks + 1) (h':=h2) (x:=.int (i : Int)) (y:=x) (u:=.int i s.toks) (v:=u) I ⟨_,rfl⟩ ru hf hob (by rw [t2.2 _ hT]; exact g3) (fun b o hb q=>by
   simp only [List.mem_cons,List.not_mem_nil,or_false,not_or] at hb
   rw [t2.2 _ hb.1]; exact g5 b o hb.1 hb.2 q)
  refine ⟨.ref s.heap.objs.size,_,I2,rfl,⟨_,x,rfl,I.hok.fresh (Nat.le_refl _),rfl,fun ys hy=>by rw [hq] at hy; cases hy; exact hx⟩,⟨⟨u,?_⟩,?_⟩,fun b hb=>(f2 b hb).1⟩
  · have : ((i + 1 : Nat) : Int) = (i : Int) + 1:=by omega
    rw [this]; exact t1
  · exact g2.at fun o q=>by rw [t2.2 _ hne.symm]; exact q
 done:=by
  intro X hP hw hK hc i pins s σ H E I hf st hg
  subst hP hw hK
  obtain ⟨⟨old,s1⟩,s2⟩:=st
  obtain ⟨xs,hq,hx⟩:=hg
  obtain ⟨its,rv,p,hz⟩:=I.list (SqL.of (K:=X.K) hq)
  have hl:=rv.length
  exact wpAny_pyNext_enum_end (I.ok.hd hc) s1 s2 p.isList (by simp; omega) fun h' eb=>⟨rfl,turnedL (fp:=[e,it]) (t':=s.toks) I (fun b o hb q=>eb b o (fun z=>hb (by simp [z])) q) hf⟩
 self:=fun _ _ _ _ _ st h=>by
  obtain ⟨⟨old,s1⟩,_⟩:=st
  exact wpAny_pyIter_enum s1 h
noncomputable def WalkE (x : V) (H : Hp) (R : It → Hp → Prop) : Prop:=∃ a,x = .ref a ∧ (∃ xs,H a = some (.lst xs)) ∧ R (Ite a) H
noncomputable def iEnum (ta : TA) : TI:=fun σ H R=>ta σ H fun vs H1=>∃ x,vs = [x] ∧ WalkE x H1 R
theorem a_iEnum {ta : TA} {σ : St} {H : Hp} {R : It → Hp → Prop} : iEnum ta σ H R = (ta σ H fun vs H1=>∃ x,vs = [x] ∧ WalkE x H1 R):=rfl
theorem boot_enumerate : bootBuiltins "enumerate" = some (.type "enumerate"):=by decide +kernel
theorem pi_enum {X : Cx} {elts : List Expr} {n : Nat} {ps : Pos} {a : Expr} {ta : TA} {p pos : Pos} (hg : Gl X "enumerate") (hm : X.mg "enumerate" = none) (ha : PA X [a] ta) (hs : starEach [a] X.env = [(false,eval a X.env)]:=by rfl) : PI X (.Tuple elts n ps) (.Call (.Name "enumerate" p) [a] [] pos) (iEnum ta):=by
 intro pins s σ H R I h
 refine Call_ (ld_blt I hg hm boot_enumerate (PyProof.Rows.callWith_type1 (thn (ha pos pins s σ H _ I h) fun us s1 ⟨vs,H1,I1,r1,q1⟩=>?_) hs rfl))
 obtain ⟨x,rfl,b,rfl,⟨xs,hb⟩,q⟩:=q1
 obtain ⟨u,rfl,ru⟩:=vals1 r1
 cases ru
 obtain ⟨its,rv,pl,hz⟩:=I1.list (SqL.of (K:=X.K) hb)
 refine call_enumerate_list pl.isList fun h' g1 g2 g3 g4=>wpAny_pyIter_enum g1 ?_
 have I2 : Inv X pins σ H1 { s1 with heap:=h' }:=I1.kept (t':=s1.toks) g4
 refine ⟨_,[s1.heap.objs.size + 1,s1.heap.objs.size],_,Ite b,H1,rfl,I2,turn_enum b (s1.heap.objs.size + 1) s1.heap.objs.size (Nat.ne_of_gt (Nat.lt_succ_self _)),⟨⟨_,g1⟩,g2⟩,fun c hc=>?_,q⟩
 have hc : s1.heap.objs.size ≤ c:=by
  simp only [List.mem_cons,List.not_mem_nil,or_false] at hc
  rcases hc with rfl | rfl <;> omega
 exact I1.fpOk hc (I1.hok.fresh hc)
theorem WalkE.for {a : Addr} {xs : List V} {g : TG} {tb : TS} {D : Ends} {σ : St} {H : Hp} (e : H a = some (.lst xs)) (Pv : Nat → St → Hp → Prop) (h0 : Pv 0 σ H) (hl : ∀ i σ H,i ≤ xs.length → Pv i σ H → H a = some (.lst xs))
 (hs : ∀ i x σ H T H',xs[i]? = some x → Pv i σ H → Same H H' → H T = none → H' T = some (.tup [.int (i : Int),x]) → g (.ref T) σ H' fun σ2 H2=>tb { D with nx:=Pv (i + 1),ct:=Pv (i + 1),bk:=D.nx } σ2 H2) (hd : ∀ σ H,Pv xs.length σ H → D.nx σ H) : WalkE (.ref a) H fun J H1=>ForW J g tb D σ H1:=by
 refine ⟨a,rfl,⟨xs,e⟩,fun i m σ H=>i + m = xs.length ∧ Pv i σ H,⟨xs.length,by simp,h0⟩,fun i m σ H h=>?_⟩
 obtain ⟨h1,h2⟩:=h
 have ea:=hl i σ H (by omega) h2
 by_cases c : m = 0
 · subst c
   have : i = xs.length:=by omega
   subst this
   exact .inl ⟨⟨xs,ea,Nat.le_refl _⟩,hd σ H h2⟩
 · have hi : i < xs.length:=by omega
   refine .inr ⟨⟨xs,_,ea,List.getElem?_eq_getElem hi⟩,Pv (i + 1),fun σ' H' q=>⟨m - 1,by omega,by omega,q⟩,fun x H' y=>?_⟩
   obtain ⟨T,z,rfl,nT,rfl,hz⟩:=y
   exact hs i z σ H T _ (hz xs ea) h2 (same_new nT _) nT upd_same
noncomputable def Itz (a b : Addr) : It:=⟨fun i H=>∃ xs ys x y,H a = some (.lst xs) ∧ H b = some (.lst ys) ∧ xs[i]? = some x ∧ ys[i]? = some y,
 fun i H x H'=>∃ T y z,x = .ref T ∧ H T = none ∧ H' = upd H T (.tup [y,z]) ∧ (∀ ys,H a = some (.lst ys) → ys[i]? = some y) ∧ ∀ ys,H b = some (.lst ys) → ys[i]? = some z,
 fun i H=>∃ xs ys,H a = some (.lst xs) ∧ H b = some (.lst ys) ∧ (xs.length ≤ i ∨ ys.length ≤ i)⟩
structure Apart5 (z TI TO i1 i2 : Addr) : Prop where
 a : TI ≠ z
 b : TO ≠ z
 c : i1 ≠ z
 d : i2 ≠ z
 e : TI ≠ TO
 f : TI ≠ i1
 g : TI ≠ i2
 h : TO ≠ i1
 i : TO ≠ i2
 j : i1 ≠ i2
noncomputable def WalkZ (x y : V) (H : Hp) (R : It → Hp → Prop) : Prop:=∃ a b,x = .ref a ∧ y = .ref b ∧ (∃ xs,H a = some (.lst xs)) ∧ (∃ xs,H b = some (.lst xs)) ∧ R (Itz a b) H
theorem WalkZ.for {a b : Addr} {xs ys : List V} {g : TG} {tb : TS} {D : Ends} {σ : St} {H : Hp} (e : H a = some (.lst xs)) (e2 : H b = some (.lst ys)) (hxy : xs.length = ys.length) (Pv : Nat → St → Hp → Prop) (h0 : Pv 0 σ H) (hl : ∀ i σ H,i ≤ xs.length → Pv i σ H → H a = some (.lst xs) ∧ H b = some (.lst ys))
 (hs : ∀ i x y σ H T H',xs[i]? = some x → ys[i]? = some y → Pv i σ H → Same H H' → H T = none → H' T = some (.tup [x,y]) → g (.ref T) σ H' fun σ2 H2=>tb { D with nx:=Pv (i + 1),ct:=Pv (i + 1),bk:=D.nx } σ2 H2) (hd : ∀ σ H,Pv xs.length σ H → D.nx σ H) : WalkZ (.ref a) (.ref b) H fun J H1=>ForW J g tb D σ H1:=by
 refine ⟨a,b,rfl,rfl,⟨xs,e⟩,⟨ys,e2⟩,fun i m σ H=>i + m = xs.length ∧ Pv i σ H,⟨xs.length,by simp,h0⟩,fun i m σ H h=>?_⟩
 obtain ⟨h1,h2⟩:=h
 obtain ⟨ea,eb⟩:=hl i σ H (by omega) h2
 by_cases c : m = 0
 · subst c
   have : i = xs.length:=by omega
   subst this
   exact .inl ⟨⟨xs,ys,ea,eb,.inl (Nat.le_refl _)⟩,hd σ H h2⟩
 · have hi : i < xs.length:=by omega
   refine .inr ⟨⟨xs,ys,_,_,ea,eb,List.getElem?_eq_getElem hi,List.getElem?_eq_getElem (by omega)⟩,Pv (i + 1),fun σ' H' q=>⟨m - 1,by omega,by omega,q⟩,fun x H' y=>?_⟩
   obtain ⟨T,z1,z2,rfl,nT,rfl,hz1,hz2⟩:=y
   exact hs i z1 z2 σ H T _ (hz1 xs ea) (hz2 ys eb) h2 (same_new nT _) nT upd_same
end L2
namespace L2
open PySem PySem.Spec PyProof.Rows
noncomputable def GivD (H : Hp) (p : Addr) (giv : Str → Int) (ok : Str → Prop) : Prop:=∃ kvs : List (Key × V),H p = some (.dK kvs) ∧ ∀ x,ok x → valV kvs (.inr x) = some (.int (giv x))
noncomputable abbrev Four:=Int × Int × Int × Int
noncomputable def vFour (q : Four) : List V:=[.int q.1,.int q.2.1,.int q.2.2.1,.int q.2.2.2]
noncomputable def MeanD (H : Hp) (p : Addr) (mean : Str → Four) (ok : Str → Prop) : Prop:=∃ kvs : List (Key × V),H p = some (.dK kvs) ∧ ∀ f,ok f → ∃ a,valV kvs (.inr f) = some (.ref a) ∧ H a = some (.tup (vFour (mean f)))
theorem GivD.same {H H' : Hp} {p : Addr} {giv : Str → Int} {ok : Str → Prop} (h : GivD H p giv ok) (S : Same H H') : GivD H' p giv ok:=by
 obtain ⟨kvs,e,q⟩:=h
 exact ⟨kvs,S _ _ e,q⟩
theorem MeanD.same {H H' : Hp} {p : Addr} {mean : Str → Four} {ok : Str → Prop} (h : MeanD H p mean ok) (S : Same H H') : MeanD H' p mean ok:=by
 obtain ⟨kvs,e,q⟩:=h
 exact ⟨kvs,S _ _ e,fun f hf=>let ⟨a,h1,h2⟩:=q f hf; ⟨a,h1,S _ _ h2⟩⟩
theorem GivD.get {H : Hp} {p : Addr} {giv : Str → Int} {ok : Str → Prop} {x : Str} (h : GivD H p giv ok) (hx : ok x) : DGet H p (.str x) (some (.int (giv x))):=by
 obtain ⟨kvs,e,q⟩:=h
 exact .inl ⟨kvs,.inr x,Rd.of e,rfl,(q x hx).symm⟩
theorem MeanD.get {H : Hp} {p : Addr} {mean : Str → Four} {ok : Str → Prop} {f : Str} (h : MeanD H p mean ok) (hf : ok f) : ∃ a,DGet H p (.str f) (some (.ref a)) ∧ H a = some (.tup (vFour (mean f))):=by
 obtain ⟨kvs,e,q⟩:=h
 obtain ⟨a,h1,h2⟩:=q f hf
 exact ⟨a,.inl ⟨kvs,.inr f,Rd.of e,rfl,h1.symm⟩,h2⟩
end L2
namespace L2
open PySem PySem.Spec PyProof.Rows
section
variable {X : Cx} {tg : Expr}
end
section
variable {X : Cx}
noncomputable def isInt (m : Int) : Value → Bool | .int i _=>i == m | _=>false
end
noncomputable def wo (p : Addr) (H : Hp) : Hp:=fun a=>if a = p then none else H a
theorem wo_ne {p b : Addr} {H : Hp} (h : b ≠ p) : wo p H b = H b:=if_neg h
theorem wo_same {p : Addr} {H H' : Hp} (S : Same H H') : Same (wo p H) (wo p H'):=fun b o e=>by
 unfold wo at e ⊢
 split at e
 · cases e
 · rename_i h
   rw [if_neg h]; exact S b o e
theorem wo_put {p : Addr} {H H' : Hp} (k : ∀ b,b ≠ p → H' b = H b) : wo p H' = wo p H:=by
 funext b
 unfold wo
 split
 · rfl
 · rename_i h
   exact k b h
theorem Dts.snoc {H : Hp} {ds : List D} {d : D} {us : List V} {v : V} (h : Dts H ds us) (g : Dt H d v) : Dts H (ds ++ [d]) (us ++ [v]):=h.append (.one g)
section
variable {X : Cx}
end
end L2
namespace L2
open PySem PySem.Spec PyProof.Rows
theorem lri_no_len : typeLookup (Value.type "list_reverseiterator") (Str.ofString "__len__") = pure none:=rfl
theorem lri_hint : typeLookup (Value.type "list_reverseiterator") (Str.ofString "__length_hint__") = pure (some (.builtin "list_reverseiterator.__length_hint__")):=rfl
theorem lri_sub : isSubtype (Value.type "list_reverseiterator") (Value.type "list_reverseiterator") = pure true:=by
 rw [isSubtype_type]
 rfl
theorem hint_rev {prog : Program} {w : World} {A : Around} {E : Value → Shared → Prop} {s : Shared} {it l : Addr} {i : Int} {Q : Bool → Shared → Prop} (h : s.heap.IsRevIter it l i) (q : Q false s) :
 wpAny (model prog w) A (Builtin.List.listLengthHint (.ref it)) Q E s:=by
 unfold Builtin.List.listLengthHint
 refine wpAny_bind (wpAny_specialOf h.typeIs lri_no_len ?_)
 show wpAny _ _ (specialOf (.ref it) (Str.ofString "__length_hint__") >>= _) _ _ s
 refine wpAny_bind (wpAny_specialOf h.typeIs lri_hint ?_)
 have sp : splitId "list_reverseiterator.__length_hint__" = some ("list_reverseiterator","__length_hint__"):=by decide +kernel
 simp only [sp]
 refine wpAny_bind (wpAny_isInstance h.typeIs lri_sub ?_)
 show wpAny _ _ (pure false) _ _ s
 exact wpAny_pure q
theorem walks_rev {prog : Program} {w : World} {A : Around} (hh : A.handled = none) (I ax : Addr) (hne : ax ≠ I) (items : Array Value) :
 Walks prog w A I [I,ax] [I] items.size (fun i v=>items[items.size - 1 - i]? = some v) fun i h=>h.IsRevIter I ax ((items.size : Int) - 1 - i) ∧ h.IsList ax items where
 sub:=by simp
 frame:=fun i h h' st k=>by
  obtain ⟨⟨o,h1,h2,h3⟩,o',h4,h5,n,h6⟩:=st
  exact ⟨⟨o,k I (by simp) _ h1,h2,h3⟩,o',k ax (by simp) _ h4,h5,n,h6⟩
 item:=fun i s Q E hi st q=>by
  obtain ⟨h1,h2⟩:=st
  have e : ((items.size : Int) - 1 - i) = ((items.size - 1 - i : Nat) : Int):=by omega
  rw [e] at h1
  have hx : items[items.size - 1 - i]? = some items[items.size - 1 - i]:=Array.getElem?_eq_getElem (by omega)
  refine wpAny_pyNext_rev_item h1 h2 hx fun h' h3 h4=>?_
  refine q _ h' s.toks hx ⟨by rw [show ((items.size : Int) - 1 - ((i + 1 : Nat) : Int)) = ((items.size - 1 - i : Nat) : Int) - 1 by omega]; exact h3,?_⟩ fun b o hb ho=>?_
  · obtain ⟨o',h5,h6,n,h7⟩:=h2
    exact ⟨o',(h4.2 ax hne).trans h5,h6,n,h7⟩
  · exact (h4.2 b (by simpa using hb)).trans ho
 done:=fun s Q E st q=>by
  obtain ⟨h1,h2⟩:=st
  have e : ((items.size : Int) - 1 - (items.size : Nat)) = -1:=by omega
  rw [e] at h1
  refine wpAny_pyNext_rev_end hh h1 fun h' hb=>q h' s.toks fun b o hb' ho=>hb b o (by simpa using hb') ho
 self:=fun i s Q E st q=>wpAny_pyIter_revIter st.1 q
theorem quiet_ext {xs : List Value} : (Code.builtin "list.extend.loop" { pos:=xs }).quiet = true:=plainId_quiet F.plain_extend_loop _
theorem extend_rev {prog : Program} {w : World} {A : Around} {s : Shared} {R : Result → Shared → Prop} {I ax : Addr} {items : Array Value} (hh : A.handled = none) (hne : ax ≠ I) (S : Addr) (res : Value) (c₀ : Nat)
 (h1 : s.heap.IsRevIter I ax ((items.size : Int) - 1)) (h2 : s.heap.IsList ax items) (hS1 : S ≠ I) (hS2 : S ≠ ax) (hS : s.heap.get? S = some { cls:=.type "list",data:=.seq #[] c₀ }) (hz : items.size ≤ sizeLine)
 (q : ∀ (s' : Shared) (acc' : Array Value) (c' : Nat),Moved [S,I] (fun a b=>b = a) s s' → s'.heap.get? S = some { cls:=.type "list",data:=.seq acc' c' } → ItemsOf (fun i v=>items[items.size - 1 - i]? = some v) acc' items.size → R (.ok (.ret res)) s') :
 wpAny (model prog w) A.in1 (Builtin.List.listExtendWith (.ref S) (.ref I) res)
  (fun fin s'=>match fin with | Fin.done f=>R (.ok f) s' | Fin.again c'=>c'.quiet = true ∧ codeAny (model prog w) A c' R s') (fun e s'=>R (.error e) s') s:=by
 unfold Builtin.List.listExtendWith
 refine wpAny_bind (wpAny_typeOf h1.typeIs ?_)
 have hs : Builtin.List.listSameRef (Value.ref S) (Value.ref I) = false:=by
  simp [Builtin.List.listSameRef,hS1]
 rw [hs,if_neg (by decide)]
 refine wpAny_bind (wpAny_pyIter_revIter h1 ?_)
 refine wpAny_bind (wpAny_holding (hint_rev h1 ?_))
 show wpAny _ _ (again (Code.builtin "list.extend.loop" { pos:=[Value.ref S,Value.ref I,res] })) _ _ s
 refine wpAny_pure ⟨?_,?_⟩
 · exact quiet_ext
 · refine codeAny_extend_loopS (Walks.toS (walks_rev (A:=A.in1) hh I ax hne items)) hz S (by simp [hS1,hS2]) res _ 0 s #[] c₀ rfl (Nat.zero_le _) ⟨by simpa using h1,h2⟩ hS ⟨rfl,by simp⟩ q
theorem init_rev {prog : Program} {w : World} {A : Around} {s : Shared} {R : Result → Shared → Prop} {I ax : Addr} {items : Array Value} (hh : A.handled = none) (hne : ax ≠ I) (S : Addr)
 (h1 : s.heap.IsRevIter I ax ((items.size : Int) - 1)) (h2 : s.heap.IsList ax items) (hS1 : S ≠ I) (hS2 : S ≠ ax) (hS : s.heap.get? S = some { cls:=.type "list",data:=.seq #[] }) (hz : items.size ≤ sizeLine)
 (q : ∀ (s' : Shared) (acc' : Array Value) (c' : Nat),Moved [S,I] (fun a b=>b = a) s s' → s'.heap.get? S = some { cls:=.type "list",data:=.seq acc' c' } → ItemsOf (fun i v=>items[items.size - 1 - i]? = some v) acc' items.size → R (.ok (.ret .none)) s') :
 wpAny (model prog w) A.in1 (Builtin.«list.__init__» { pos:=[.ref S,.ref I] })
  (fun fin s'=>match fin with | Fin.done f=>R (.ok f) s' | Fin.again c'=>c'.quiet = true ∧ codeAny (model prog w) A c' R s') (fun e s'=>R (.error e) s') s:=by
 show wpAny _ _ (Builtin.List.listItems (.ref S) >>= _) _ _ s
 refine wpAny_bind ?_
 show wpAny _ _ (seqItems? (.ref S) >>= _) _ _ s
 refine wpAny_bind (wpAny_seqItems hS rfl ?_)
 refine wpAny_pure ?_
 refine wpAny_bind (wpAny_updateSeq hS rfl ?_)
 refine wpAny_bind (wpAny_letGo ?_)
 have g1 : (s.heap.update S (Obj.mapSeq fun _=>#[])).get? S = some { cls:=.type "list",data:=.seq #[] }:=Heap.get?_update_self _ hS rfl
 have gn : ∀ b o,b ≠ S → s.heap.get? b = some o → (s.heap.update S (Obj.mapSeq fun _=>#[])).get? b = some o:=fun b o hb ho=>Heap.get?_update_of_ne _ hb.symm ho
 refine extend_rev (s:={ s with heap:=s.heap.update S (Obj.mapSeq fun _=>#[]) }) hh hne S .none 0 ?_ ?_ hS1 hS2 g1 hz fun s' acc' c' m e i=>q s' acc' c' ⟨fun b o hb ho=>?_,m.gens,m.drawn,m.os,m.toks⟩ e i
 · obtain ⟨o,a1,a2,a3⟩:=h1
   exact ⟨o,gn _ _ hS1.symm a1,a2,a3⟩
 · obtain ⟨o,a1,a2,n,a3⟩:=h2
   exact ⟨o,gn _ _ hS2.symm a1,a2,n,a3⟩
 · exact m.heap b o hb (gn b o (fun z=>hb (by simp [z])) ho)
theorem bt_reversed : bootBuiltins "reversed" = some (.type "reversed"):=by decide +kernel
theorem Vals.rev : ∀ {xs : List V} {us : List Value},Vals xs us → Vals xs.reverse us.reverse
 | _,_,.nil=>.nil
 | _,_,.cons r t=>by
  rw [List.reverse_cons,List.reverse_cons]
  exact (Vals.rev t).append (.cons r .nil)
section
variable {X : Cx} {tg : Expr}
noncomputable def tListRev (te : TE) : TE:=fun σ H Q=>te σ H fun x H1=>∃ a ys,x = .ref a ∧ H1 a = some (.lst ys) ∧ NewO H1 (.lst ys.reverse) Q
theorem a_tListRev {te : TE} {σ : St} {H : Hp} {Q : VK} : tListRev te σ H Q = (te σ H fun x H1=>∃ a ys,x = .ref a ∧ H1 a = some (.lst ys) ∧ NewO H1 (.lst ys.reverse) Q):=rfl
theorem pe_listRev {e : Expr} {te : TE} {p1 p2 q1 q2 : Pos} (hc : X.calm = true) (hg : Gl X "list") (hm : X.mg "list" = none) (hg2 : Gl X "reversed") (hm2 : X.mg "reversed" = none) (he : PE X e te)
 (hs1 : starEach [Expr.Call (.Name "reversed" p2) [e] [] q2] X.env = [(false,eval (Expr.Call (.Name "reversed" p2) [e] [] q2) X.env)]:=by rfl) (hs2 : starEach [e] X.env = [(false,eval e X.env)]:=by rfl) :
 PE X (.Call (.Name "list" p1) [.Call (.Name "reversed" p2) [e] [] q2] [] q1) (tListRev te):=by
 intro pins s σ H Q I h
 refine wpAny_Call_Name_kw (ld_blt I hg hm bt_list ?_ (by decide) (by decide))
 refine PyProof.Rows.callWith_type1 ?_ (by rw [hs1]; rfl) rfl
 rw [hs1]
 show wpAny _ _ (spliced ((false,eval (Expr.Call (.Name "reversed" p2) [e] [] q2) X.env) :: [])) _ _ s
 refine Calls.spliced_cons (wpAny_Call_Name_kw (ld_blt I hg2 hm2 bt_reversed ?_ (by decide) (by decide)))
 refine PyProof.Rows.callWith_type1 ?_ (by rw [hs2]; rfl) rfl
 rw [hs2]
 show wpAny _ _ (spliced ((false,eval e X.env) :: [])) _ _ s
 refine Calls.spliced_cons (thn (he pins s σ H _ I h) fun v s1 ⟨x,H1,I1,r1,a,ys,ex,ea,q⟩=>Calls.spliced_nil ?_)
 subst ex
 cases r1
 obtain ⟨z,its,n,rv,hl,eo⟩:=I1.lstM ea
 have isl : s1.heap.IsList a its.toArray:=⟨_,eo,rfl,n,rfl⟩
 refine call_reversed_list isl (Calls.spliced_nil ?_)
 have alt : a < s1.heap.objs.size:=Heap.lt_size eo
 generalize hh1 : s1.heap.push (revObj a ((its.toArray.size : Int) - 1)) = hp1
 have k1 : ∀ b o,s1.heap.get? b = some o → hp1.get? b = some o:=fun b o hb=>by rw [← hh1]; exact Heap.get?_push_of_some _ hb
 have g1 : hp1.get? s1.heap.objs.size = some (revObj a ((its.toArray.size : Int) - 1)):=by rw [← hh1]; exact Heap.get?_push_size _ rfl
 have sz1 : s1.heap.objs.size < hp1.objs.size:=Heap.lt_size g1
 generalize hI : s1.heap.objs.size = Ia at *
 refine callType_codes (Q₁:=fun obj s2=>obj = .ref hp1.objs.size ∧ s2 = { s1 with heap:=hp1.push { cls:=.type "list",data:=.seq #[] } }) F.called_list (F.typeCall_list_1 _) F.entry_list_init (code_list_new _ ⟨rfl,rfl⟩) fun obj s2 ⟨e1,e2⟩=>?_
 subst e1 e2
 have g2 : (hp1.push { cls:=.type "list",data:=.seq #[] }).get? hp1.objs.size = some { cls:=.type "list",data:=.seq #[] }:=Heap.get?_push_size _ rfl
 have k2 : ∀ b o,hp1.get? b = some o → (hp1.push { cls:=.type "list",data:=.seq #[] }).get? b = some o:=fun b o hb=>Heap.get?_push_of_some _ hb
 refine ⟨⟨_,g2,rfl⟩,F.args_list_init_2 _ _,?_⟩
 refine init_rev (A:=X.A.in1) (items:=its.toArray) (I1.ok.hd hc) (Nat.ne_of_lt alt) hp1.objs.size ⟨_,k2 _ _ g1,rfl,rfl⟩ ⟨_,k2 _ _ (k1 _ _ eo),rfl,n,rfl⟩ (Nat.ne_of_gt sz1) (Nat.ne_of_gt (Nat.lt_trans alt sz1)) g2 (by rw [List.size_toArray]; omega) fun s' acc' c' mv ee it=>?_
 refine ⟨rfl,.ref hp1.objs.size,upd H1 hp1.objs.size (.lst ys.reverse),?_,rfl,?_⟩
 · have ea' : acc' = its.reverse.toArray:=by
    obtain ⟨i1,i2⟩:=it
    apply Array.ext
    · simp at i1 ⊢; exact i1
    · intro j j1 j2
      have:=i2 j acc'[j] (Array.getElem?_eq_getElem j1)
      simp only [List.getElem?_toArray,List.size_toArray] at this
      simp only [List.getElem_toArray,List.getElem_reverse]
      obtain ⟨_,e3⟩:=List.getElem?_eq_some_iff.mp this
      exact e3.symm
   rw [ea'] at ee
   have es : s' = { s1 with heap:=s'.heap,toks:=s'.toks }:=by
    have m1:=mv.gens
    have m2:=mv.drawn
    have m3:=mv.os
    cases s'
    simp only at m1 m2 m3
    rw [m1,m2,m3]
   rw [es]
   refine I1.laid (h':=s'.heap) (t':=s'.toks) (fun b o hb=>?_) (by rw [hI]; omega) (show ObjOk X.prog X.w _ s'.heap _ (.lst ys.reverse) from ⟨by simpa using z,its.reverse,c',rv.rev,ee⟩)
   have hb1:=Heap.lt_size hb
   rw [hI] at hb1
   exact mv.heap b o (by simp only [List.mem_cons,List.not_mem_nil,or_false,not_or]; exact ⟨Nat.ne_of_lt (Nat.lt_trans hb1 sz1),Nat.ne_of_lt hb1⟩) (k2 _ _ (k1 _ _ hb))
 · exact q _ (I1.hok.fresh (by rw [hI]; omega))
noncomputable def Itv (a : Addr) (xs : List V) : It:=⟨fun i H=>H a = some (.lst xs) ∧ i < xs.length,fun i H x H'=>H' = H ∧ xs[xs.length - 1 - i]? = some x,fun i _=>xs.length ≤ i⟩
theorem turn_rev {P : Program} {w : World} {K : PySem.W.Frag} (a it : Addr) (xs : List V) (hle : xs.length ≤ sizeLine) : Turn P w K tg (Itv a xs) [it] it (fun i h=>i ≤ xs.length ∧ h.IsRevIter it a ((xs.length : Int) - 1 - i)) where
 mem:=by simp
 obj:=fun i h st b hb=>by
  have e : b = it:=by simpa using hb
  subst e
  obtain ⟨_,o,e,c,d⟩:=st
  exact ⟨o,e,fun v z=>by rw [d] at z; cases z⟩
 keep:=fun i h h' st k=>by
  obtain ⟨h0,o,e,c,d⟩:=st
  exact ⟨h0,o,k it (by simp) _ e,c,d⟩
 item:=by
  intro X hP hw hK hc i pins s σ H E I hf st hg
  subst hP hw hK
  obtain ⟨ea,hi⟩:=hg
  obtain ⟨z,its,n,rv,hl,eo⟩:=I.lstM ea
  obtain ⟨x,hx⟩ : ∃ x,xs[xs.length - 1 - i]? = some x:=⟨_,List.getElem?_eq_getElem (by omega)⟩
  obtain ⟨u,hu,ru⟩:=rv.get hx
  obtain ⟨f0,f1,f2,f3,f4,f5⟩:=hf it (by simp)
  have e : ((xs.length : Int) - 1 - i) = ((xs.length - 1 - i : Nat) : Int):=by omega
  have st2:=st.2
  rw [e] at st2
  refine wpAny_pyNext_rev_item (items:=its.toArray) (x:=u) st2 ⟨_,eo,rfl,n,rfl⟩ (by simpa using hu) fun h' st' sb=>?_
  have I1 : Inv X pins σ H { s with heap:=h' }:=I.turned (t':=s.toks) (fun b o hb e=>(sb.2 b hb).trans e) f0 f1 f3 f4 f5
  obtain ⟨o,e',c,d⟩:=id st'
  have st3 : i + 1 ≤ xs.length ∧ h'.IsRevIter it a ((xs.length : Int) - 1 - ((i + 1 : Nat) : Int)):=⟨hi,by rw [show ((xs.length : Int) - 1 - ((i + 1 : Nat) : Int)) = ((xs.length - 1 - i : Nat) : Int) - 1 by omega]; exact st'⟩
  exact ⟨u,rfl,go_of (s:={ s with heap:=h' }) e' c d (by decide) ⟨x,H,I1,ru,⟨rfl,hx⟩,st3,fun b hb=>(hf b hb).1⟩⟩
 done:=by
  intro X hP hw hK hc i pins s σ H E I hf st hg
  subst hP hw hK
  obtain ⟨f0,f1,f2,f3,f4,f5⟩:=hf it (by simp)
  have hg : xs.length ≤ i:=hg
  have e : ((xs.length : Int) - 1 - i) = -1:=by have:=st.1; omega
  have st2:=st.2
  rw [e] at st2
  exact wpAny_pyNext_rev_end (I.ok.hd hc) st2 fun h' eb=>⟨rfl,I.turned (t':=s.toks) (fun b o hb e=>eb b o hb e) f0 f1 f3 f4 f5⟩
 self:=fun _ _ _ _ _ st h=>wpAny_pyIter_revIter st.2 h
noncomputable def iRev (ta : TA) : TI:=fun σ H R=>ta σ H fun vs H1=>∃ a xs,vs = [.ref a] ∧ H1 a = some (.lst xs) ∧ R (Itv a xs) H1
theorem a_iRev {ta : TA} {σ : St} {H : Hp} {R : It → Hp → Prop} : iRev ta σ H R = (ta σ H fun vs H1=>∃ a xs,vs = [.ref a] ∧ H1 a = some (.lst xs) ∧ R (Itv a xs) H1):=rfl
theorem pi_rev {e : Expr} {ta : TA} {p pos : Pos} (hg : Gl X "reversed") (hm : X.mg "reversed" = none) (ha : PA X [e] ta) (hs : starEach [e] X.env = [(false,eval e X.env)]:=by rfl) : PI X tg (.Call (.Name "reversed" p) [e] [] pos) (iRev ta):=by
 intro pins s σ H R I h
 refine wpAny_Call_Name_kw (ld_blt I hg hm bt_reversed ?_ (by decide) (by decide))
 refine PyProof.Rows.callWith_type1 (thn (ha pos pins s σ H _ I h) fun us s1 ⟨vs,H1,I1,r1,q1⟩=>?_) (by rw [hs]; rfl) rfl
 obtain ⟨a,xs,e1,ea,q⟩:=q1
 subst e1
 obtain ⟨u,rfl,ru⟩:=r1.one
 cases ru
 obtain ⟨z,its,n,rv,hl,eo⟩:=I1.lstM ea
 refine call_reversed_list ⟨_,eo,rfl,n,rfl⟩ ?_
 have g1 : (s1.heap.push (revObj a ((its.toArray.size : Int) - 1))).get? s1.heap.objs.size = some (revObj a ((its.toArray.size : Int) - 1)):=Heap.get?_push_size _ rfl
 refine wpAny_pyIter_revIter ⟨_,g1,rfl,rfl⟩ ?_
 refine ⟨s1.heap.objs.size,[s1.heap.objs.size],_,_,H1,rfl,I1.kept (t':=s1.toks) fun b o e=>Heap.get?_push_of_some _ e,turn_rev a _ xs z,⟨Nat.zero_le _,_,g1,rfl,?_⟩,fun b hb=>?_,q⟩
 · show Data.fields _ = Data.fields _
   rw [List.size_toArray,← hl]
   simp
 · have e : b = s1.heap.objs.size:=by simpa using hb
   subst e
   exact I1.fpOk (Nat.le_refl _) (I1.hok.fresh (Nat.le_refl _))
theorem forV {a : Addr} {xs : List V} {g : TG} {tb : TS} {D : Ends} {σ : St} {H : Hp} (Pv : Nat → St → Hp → Prop) (h0 : Pv 0 σ H) (hl : ∀ i σ H,i ≤ xs.length → Pv i σ H → H a = some (.lst xs))
 (hs : ∀ i x σ H,xs[xs.length - 1 - i]? = some x → i < xs.length → Pv i σ H → g x σ H fun σ2 H2=>tb { D with nx:=Pv (i + 1),ct:=Pv (i + 1),bk:=D.nx } σ2 H2) (hd : ∀ σ H,Pv xs.length σ H → D.nx σ H) : ForW (Itv a xs) g tb D σ H:=by
 refine ⟨fun i m σ H=>i + m = xs.length ∧ Pv i σ H,⟨xs.length,by simp,h0⟩,fun i m σ H h=>?_⟩
 obtain ⟨h1,h2⟩:=h
 by_cases c : m = 0
 · subst c
   have : i = xs.length:=by omega
   subst this
   exact .inl ⟨Nat.le_refl _,hd σ H h2⟩
 · refine .inr ⟨⟨hl i σ H (by omega) h2,by omega⟩,Pv (i + 1),fun σ' H' q=>⟨m - 1,by omega,by omega,q⟩,fun x H' y=>?_⟩
   obtain ⟨rfl,hx⟩:=y
   exact hs i x σ _ hx (by omega) h2
end
end L2
namespace L2
open PySem PySem.Spec PyProof.Rows
theorem rem_items {M : Model} {A : Around} {E : Value → Shared → Prop} {s : Shared} {a : Addr} {its : Array Value} {n : Nat} {Q : Array Value → Shared → Prop} (h : s.heap.get? a = some { cls:=.type "list",data:=.seq its n }) (q : Q its s) : wpAny M A (Builtin.List.listItems (.ref a)) Q E s :=
 wpAny_bind (wpAny_seqItems h rfl (wpAny_pure q))
theorem rem_loop {P : Program} {w : World} {l : Addr} {its : Array Value} {n : Nat} {x : Value} {j : Nat} (hj : j < its.size) (hz : its.size ≤ sizeLine) : ∀ k i : Nat,j - i = k → i ≤ j →
 MeetsIn P w (Builtin.«list.remove.loop» { pos:=[.ref l,x,rawInt i] }) fun A R s=>s.heap.get? l = some { cls:=.type "list",data:=.seq its n } ∧ (∀ (m : Nat) (h : m < its.size),m ≤ j → SeqAt.EqAt A.in1 s its[m] x (m == j)) ∧
  R (.ok (.ret .none)) { s with heap:=s.heap.update l (Obj.mapSeq fun xs=>xs.eraseIdxIfInBounds j) }
 | k,i,hk,hij=>by
  intro A R s ⟨hl,he,r⟩
  have hi : i < its.size:=by omega
  show wpAny _ _ (Builtin.List.listItems (.ref l) >>= _) _ _ s
  refine wpAny_bind (rem_items hl ?_)
  have e1 : its[((i : Nat) : Int).toNat]? = some its[i]:=by rw [Int.toNat_natCast]; exact Array.getElem?_eq_getElem hi
  simp only [e1]
  refine wpAny_bind (he i hi hij _ _ _ _ ?_)
  by_cases c : i = j
  · subst c
    rw [beq_self_eq_true]
    have hz' : (its.eraseIdxIfInBounds i).size ≤ sizeLine + 1:=Nat.le_trans (MeetsSeq.size_erased its _) (by omega)
    show wpAny _ _ (updateSeq l (fun xs=>xs.eraseIdxIfInBounds ((i : Nat) : Int).toNat) >>= _) _ _ s
    rw [Int.toNat_natCast]
    exact wpAny_bind (wpAny_updateSeq hl rfl (wpAny_pure r) hz hz')
  · rw [show (i == j) = false from beq_false_of_ne c]
    show wpAny _ _ (again (Code.builtin "list.remove.loop" { pos:=[.ref l,x,rawInt ((i + 1 : Nat) : Int)] })) _ _ s
    refine wpAny_pure ⟨plainId_quiet MeetsSeq.plain_remove_loop _,?_⟩
    exact codeAny_builtin MeetsSeq.entry_remove_loop (rem_loop hj hz (j - (i + 1)) (i + 1) rfl (by omega) A R s ⟨hl,he,r⟩)
 termination_by k i _ _=>j - i
theorem rem_here {P : Program} {w : World} {l : Addr} {its : Array Value} {n : Nat} {x : Value} {j : Nat} (hj : j < its.size) (hz : its.size ≤ sizeLine) :
 MeetsIn P w (Builtin.«list.remove» { pos:=[.ref l,x] }) fun A R s=>s.heap.get? l = some { cls:=.type "list",data:=.seq its n } ∧ (∀ (m : Nat) (h : m < its.size),m ≤ j → SeqAt.EqAt A.in1 s its[m] x (m == j)) ∧
  R (.ok (.ret .none)) { s with heap:=s.heap.update l (Obj.mapSeq fun xs=>xs.eraseIdxIfInBounds j) }:=by
 intro A R s h
 show wpAny _ _ (again (Code.builtin "list.remove.loop" { pos:=[.ref l,x,rawInt ((0 : Nat) : Int)] })) _ _ s
 refine wpAny_pure ⟨plainId_quiet MeetsSeq.plain_remove_loop _,?_⟩
 exact codeAny_builtin MeetsSeq.entry_remove_loop (rem_loop hj hz j 0 rfl (Nat.zero_le _) A R s h)
section
variable {X : Cx} {k : Nat}
noncomputable def rRemD : V → List V → Hp → VK → Prop:=fun x vs H Q=>∃ (l : Addr) (xs : List V) (y : V) (ds : List D) (e : D) (j : Nat),x = .ref l ∧ vs = [y] ∧ H l = some (.lst xs) ∧ Dts H ds xs ∧ Dt H e y ∧ D.dps ds ≤ 150 ∧ j < ds.length ∧ (∀ m,m ≤ j → (ds.getD m .non).eq e = (m == j)) ∧ PutO H l (.lst (xs.eraseIdx j)) (Q .non)
theorem a_rRemD {x : V} {vs : List V} {H : Hp} {Q : VK} : rRemD x vs H Q = (∃ (l : Addr) (xs : List V) (y : V) (ds : List D) (e : D) (j : Nat),x = .ref l ∧ vs = [y] ∧ H l = some (.lst xs) ∧ Dts H ds xs ∧ Dt H e y ∧ D.dps ds ≤ 150 ∧ j < ds.length ∧ (∀ m,m ≤ j → (ds.getD m .non).eq e = (m == j)) ∧ PutO H l (.lst (xs.eraseIdx j)) (Q .non)):=(rfl)
theorem at_D {P : Program} {w : World} {H : Hp} {s : Shared} {A : Around} (hok : HOk P w H s.heap) {e : D} {x : V} {v : Value} (he : Dt H e x) (rx : RelV x v) : ∀ {ds : List D} {vs : List V} {us : List Value},Dts H ds vs → Vals vs us → A.units + D.dps ds + 1 < cLine →
 ∀ (m : Nat) (h : m < us.length),SeqAt.EqAt A s us[m] v ((ds.getD m .non).eq e)
 | [],vs,us,h,r,_=>by simp only [Dts] at h; subst h; cases r; intro m z; exact absurd z (by simp)
 | d :: ds,vs,us,h,r,hu=>by
  simp only [Dts] at h
  obtain ⟨v',vr,rfl,h1,h2⟩:=h
  simp only [D.dps] at hu
  cases r with
  | cons r rt =>
   intro m z
   cases m with
   | zero=>exact eqAt_D hok d e h1 he r rx (by omega)
   | succ m=>exact at_D hok he rx h2 rt (by omega) m (by simpa using z)
theorem Vals.erase : ∀ {xs : List V} {us : List Value},Vals xs us → ∀ j,Vals (xs.eraseIdx j) (us.eraseIdx j)
 | _,_,.nil,j=>by cases j <;> exact .nil
 | _,_,.cons r rr,0=>rr
 | _,_,.cons r rr,j + 1=>.cons r (Vals.erase rr j)
theorem mt_remD (hr : Room k X.A) : MtM X "list.remove" rRemD:=by
 intro pins s σ H x vs v us Q I rx rv h
 obtain ⟨l,xs,y,ds,e,j,rfl,rfl,hH,hs,hy,hp,hj,hit,q⟩:=h
 cases rx
 obtain ⟨u,rfl,ru⟩:=rv.one
 obtain ⟨z,its,n,r,hl,o⟩:=I.lstM hH
 have ll:=hs.length
 have hu : X.A.in1.units + D.dps ds + 1 < cLine:=by rw [in1_units]; have:=hr.un; omega
 refine call_meetsIn F.slot_list_remove ⟨_,o,rfl⟩ F.entry_list_remove (F.args_list_remove_2 _ _) (rem_here (its:=its.toArray) (n:=n) (x:=u) (j:=j) (by simp; omega) (by simp; omega)) ⟨o,fun m hm hmj=>?_,?_⟩
 · have:=at_D I.hok hy ru hs r hu m (by simpa using hm)
   rw [hit m hmj] at this
   simpa using this
 · refine ⟨.non,_,I.lset (its':=its.eraseIdx j) hH o ?_ (r.erase j) ?_,rfl,q⟩
   · rw [List.eraseIdxIfInBounds_toArray]
   · have:=List.length_eraseIdx_le xs j
     omega
end
section
variable {X : Cx} {a b c d : Expr} {ta tb tc td : TE} {pos : Pos}
theorem pt_chain3 {o1 o2 o3 : CmpOp} {r1 r2 r3 : R2} (h1 : OpR X (compareOp o1) r1) (h2 : OpR X (compareOp o2) r2) (h3 : OpR X (compareOp o3) r3) (ha : PE X a ta) (hb : PE X b tb) (hc : PE X c tc) (hd : PE X d td)
 (hm : lastMarks [o1,o2,o3] [b,c,d] = false:=by with_unfolding_all rfl) : PT X (.Compare a [o1,o2,o3] [b,c,d] pos) (tTest (tChain3 r1 r2 r3 ta tb tc td)):=by
 intro pins s σ H Q I h
 refine isTrue_chain (thn (ha pins s σ H _ I h) fun v s1 ⟨x,H1,I1,e1,q1⟩=>test_link (thn (hb pins s1 σ H1 _ I1 q1) fun u s2 ⟨y,H2,I2,e2,q2⟩ =>
  thn (h1 pins s2 σ H2 x y v u _ I2 e1 e2 q2) fun z s3 ⟨z1,H3,I3,e3,k,e,q3⟩=>?_)) hm
 subst e
 cases e3
 refine wpAny_truthy_bool ?_
 cases k with
 | false =>
  obtain ⟨k',e',q'⟩:=q3
  cases e'
  exact ite_ff ⟨H3,I3,q'⟩
 | true =>
  refine ite_tt (test_link (thn (hc pins s3 σ H3 _ I3 q3) fun u4 s4 ⟨y4,H4,I4,e4,q4⟩=>thn (h2 pins s4 σ H4 y y4 u u4 _ I4 e2 e4 q4) fun z5 s5 ⟨w5,H5,I5,e5,k2,e6,q5⟩=>?_))
  subst e6
  cases e5
  refine wpAny_truthy_bool ?_
  cases k2 with
  | false =>
   obtain ⟨k',e',q'⟩:=q5
   cases e'
   exact ite_ff ⟨H5,I5,q'⟩
  | true =>
   refine ite_tt (test_last (thn (hd pins s5 σ H5 _ I5 q5) fun u6 s6 ⟨y6,H6,I6,e6,q6⟩=>thn (h3 pins s6 σ H6 y4 y6 u4 u6 _ I6 e4 e6 q6) fun z7 s7 ⟨w7,H7,I7,e7,k3,e8,q7⟩=>?_))
   subst e8
   cases e7
   exact wpAny_truthy_bool ⟨H7,I7,q7⟩
end
end L2
set_option linter.all false
namespace M
variable {α : Type}
noncomputable abbrev MSt:=List (Option (List Nat)) × List (Option (List Nat))
section
variable [DecidableEq α] (T : Tr α) (k m : Nat) (row : List (Deed α))
noncomputable def stN (n : Nat) : MSt:=(row.take n).foldl (mark T) (List.replicate k none,List.replicate m none)
noncomputable def hbox (n : Nat) (p : List Nat) : Prop:=some p ∈ (stN T k m row n).1
noncomputable def PutAt (a : Nat) (q : List Nat) : Prop:=∃ i sh : Int,row[a]? = some (.put i sh) ∧ (stN T k m row a).1.getD i.toNat none = some q
noncomputable def UsedBy (a f : Nat) : Prop:=a < f ∧ ∃ (i sh j : Int),row[a]? = some (.put i sh) ∧ row[f]? = some (.fetch sh j) ∧ ∀ r,a < r → r < f → ∀ i',row[r]? ≠ some (.put i' sh)
end
section
variable [DecidableEq α] {T : Tr α} {k m : Nat} {row : List (Deed α)}
theorem stN_succ {n : Nat} {d : Deed α} (e : row[n]? = some d) : stN T k m row (n + 1) = mark T (stN T k m row n) d:=by
 unfold stN
 rw [List.take_add_one,e,List.foldl_append]; rfl
theorem stN_len (n : Nat) : (stN T k m row n).1.length = k ∧ (stN T k m row n).2.length = m:=by
 have:=Deed.rows_len (z:=(none : Option (List Nat))) (tk:=fun x=>firstOf x (T.wk [])) (jn:=over T) (row.take n) (List.replicate k none,List.replicate m none)
 exact ⟨this.1.trans (by simp),this.2.trans (by simp)⟩
theorem getD_mem {β : Type} {l : List (Option β)} {i : Nat} {p : β} (h : l.getD i none = some p) : some p ∈ l ∧ i < l.length:=by
 rw [List.getD_eq_getElem?_getD] at h
 cases e : l[i]? with
 | none=>rw [e] at h; cases h
 | some o =>
  rw [e] at h
  have h : o = some p:=h
  subst h
  exact ⟨List.mem_of_getElem? e,(List.getElem?_eq_some_iff.mp e).1⟩
theorem mem_getD {β : Type} {l : List (Option β)} {p : β} (h : some p ∈ l) : ∃ i,i < l.length ∧ l.getD i none = some p:=by
 obtain ⟨i,hi⟩:=List.getElem?_of_mem h
 refine ⟨i,(List.getElem?_eq_some_iff.mp hi).1,?_⟩
 rw [List.getD_eq_getElem?_getD,hi]; rfl
theorem getD_setM {β : Type} (l : List β) (i j : Nat) (v z : β) : (l.set i v).getD j z = if j = i ∧ i < l.length then v else l.getD j z:=by
 rw [List.getD_eq_getElem?_getD,List.getD_eq_getElem?_getD,List.getElem?_set]
 by_cases c : i = j
 · subst c
   by_cases d : i < l.length
   · rw [if_pos rfl,if_pos d,if_pos ⟨rfl,d⟩]; rfl
   · rw [if_pos rfl,if_neg d,if_neg fun z=>d z.2,List.getElem?_eq_none (by omega)]
 · rw [if_neg c,if_neg fun z=>c z.1.symm]
theorem rep_none {n i : Nat} {p : List Nat} (h : (List.replicate n (none : Option (List Nat))).getD i none = some p) : False:=by
 have:=(getD_mem h).1
 have:=List.eq_of_mem_replicate this
 cases this
theorem shelf_put (hok : ∀ d ∈ row,d.ok k m) : ∀ (n : Nat) (sh : Int) (p : List Nat),n ≤ row.length → 0 ≤ sh → (stN T k m row n).2.getD sh.toNat none = some p → ∃ a i,a < n ∧ row[a]? = some (.put i sh) ∧ (stN T k m row a).1.getD i.toNat none = some p ∧ ∀ r,a < r → r < n → ∀ i',row[r]? ≠ some (.put i' sh)
 | 0,sh,p,_,_,h=>(rep_none h).elim
 | n + 1,sh,p,hn,h0,h=>by
  have e : row[n]? = some row[n]:=List.getElem?_eq_getElem (by omega)
  have hd:=hok row[n] (List.getElem_mem _)
  generalize row[n] = d at e hd
  rw [stN_succ e] at h
  have keep : (stN T k m row n).2.getD sh.toNat none = some p → (∀ i',d ≠ .put i' sh) → ∃ a i,a < n + 1 ∧ row[a]? = some (.put i sh) ∧ (stN T k m row a).1.getD i.toNat none = some p ∧ ∀ r,a < r → r < n + 1 → ∀ i',row[r]? ≠ some (.put i' sh):=fun h hne=>by
   obtain ⟨a,i,h1,h2,h3,h4⟩:=shelf_put hok n sh p (by omega) h0 h
   refine ⟨a,i,by omega,h2,h3,fun r hr hr' i' hi'=>?_⟩
   by_cases c : r = n
   · rw [c,e] at hi'; exact hne i' (Option.some.inj hi')
   · exact h4 r hr (by omega) i' hi'
  cases d with
  | take x i=>exact keep h (fun _ z=>nomatch z)
  | join f i j l=>exact keep h (fun _ z=>nomatch z)
  | fetch s i=>exact keep h (fun _ z=>nomatch z)
  | put i s =>
   have hs:=hd.2 s (by simp [Deed.sn])
   by_cases c : sh = s
   · subst c
     refine ⟨n,i,by omega,e,?_,fun r h1 h2=>by omega⟩
     have h : ((stN T k m row n).2.set sh.toNat ((stN T k m row n).1.getD i.toNat none)).getD sh.toNat none = some p:=h
     have:=(stN_len (T:=T) (k:=k) (m:=m) (row:=row) n).2
     rw [getD_setM,if_pos ⟨rfl,by have:=hs.2; have:=hs.1; omega⟩] at h
     exact h
   · have h : ((stN T k m row n).2.set s.toNat ((stN T k m row n).1.getD i.toNat none)).getD sh.toNat none = some p:=h
     rw [getD_setM,if_neg (by have:=hs.1; omega)] at h
     exact keep h (fun i' z=>c (Deed.put.inj z).2.symm)
noncomputable def Made (T : Tr α) (k m : Nat) (row : List (Deed α)) (p : List Nat) (b : Nat) : Prop:=(∃ x i,row[b]? = some (.take x i) ∧ firstOf x (T.wk []) = some p) ∨ ∃ f i j h,row[b]? = some (.join f i j h) ∧ over T f ((stN T k m row b).1.getD i.toNat none) ((stN T k m row b).1.getD j.toNat none) = some p
structure Life (T : Tr α) (k m : Nat) (row : List (Deed α)) (p : List Nat) (b n : Nat) (mv : List (Nat × Nat)) : Prop where
 le : b < n
 made : Made T k m row p b
 mvs : ∀ x ∈ mv,b < x.1 ∧ x.2 < n ∧ PutAt T k m row x.1 p ∧ UsedBy row x.1 x.2
 at' : ∀ τ,b < τ → τ ≤ n → hbox T k m row τ p ∨ ∃ x ∈ mv,x.1 < τ ∧ τ ≤ x.2
theorem life (hok : ∀ d ∈ row,d.ok k m) : ∀ (n : Nat) (i : Nat) (p : List Nat),n ≤ row.length → (stN T k m row n).1.getD i none = some p → ∃ b mv,Life T k m row p b n mv:=by
 intro n
 induction n using Nat.strongRecOn with
 | ind n ih =>
 intro i p hn h
 cases n with
 | zero=>exact (rep_none h).elim
 | succ n =>
 have hb : hbox T k m row (n + 1) p:=(getD_mem h).1
 have e : row[n]? = some row[n]:=List.getElem?_eq_getElem (by omega)
 have hd:=hok row[n] (List.getElem_mem _)
 generalize row[n] = d at e hd
 have hlen:=stN_len (T:=T) (k:=k) (m:=m) (row:=row) n
 have hst:=stN_succ (T:=T) (k:=k) (m:=m) e
 have born : Made T k m row p n → ∃ b mv,Life T k m row p b (n + 1) mv:=fun mk=>⟨n,[],by omega,mk,by simp,fun τ h1 h2=>by
  have : τ = n + 1:=by omega
  subst this; exact .inl hb⟩
 have stay : (stN T k m row n).1.getD i none = some p → ∃ b mv,Life T k m row p b (n + 1) mv:=fun h=>by
  obtain ⟨b,mv,L⟩:=ih n (by omega) i p (by omega) h
  refine ⟨b,mv,by have:=L.le; omega,L.made,fun x hx=>?_,fun τ h1 h2=>?_⟩
  · obtain ⟨g1,g2,g3⟩:=L.mvs x hx
    exact ⟨g1,by omega,g3⟩
  · by_cases c : τ = n + 1
    · subst c; exact .inl hb
    · exact L.at' τ h1 (by omega)
 rw [hst] at h
 cases d with
 | put s j=>exact stay h
 | take x j =>
  have h : ((stN T k m row n).1.set j.toNat (firstOf x (T.wk []))).getD i none = some p:=h
  rw [getD_setM] at h
  split at h
  · exact born (.inl ⟨x,j,e,h⟩)
  · exact stay h
 | join f i1 j1 l =>
  have h : ((stN T k m row n).1.set l.toNat (over T f ((stN T k m row n).1.getD i1.toNat none) ((stN T k m row n).1.getD j1.toNat none))).getD i none = some p:=h
  rw [getD_setM] at h
  split at h
  · exact born (.inr ⟨f,i1,j1,l,e,h⟩)
  · exact stay h
 | fetch s j =>
  have h : ((stN T k m row n).1.set j.toNat ((stN T k m row n).2.getD s.toNat none)).getD i none = some p:=h
  rw [getD_setM] at h
  split at h
  · have hs:=hd.2 s (by simp [Deed.sn])
    obtain ⟨a,i2,h1,h2,h3,h4⟩:=shelf_put hok n s p (by omega) hs.1 h
    obtain ⟨b,mv,L⟩:=ih a (by omega) i2.toNat p (by omega) h3
    refine ⟨b,(a,n) :: mv,by have:=L.le; omega,L.made,fun x hx=>?_,fun τ g1 g2=>?_⟩
    · rcases List.mem_cons.mp hx with rfl | hx
      · exact ⟨L.le,by show n < n + 1; omega,⟨i2,s,h2,h3⟩,h1,i2,s,j,h2,e,h4⟩
      · obtain ⟨g1,g2,g3⟩:=L.mvs x hx
        exact ⟨g1,by omega,g3⟩
    · by_cases c : τ ≤ a
      · rcases L.at' τ g1 c with z | ⟨x,hx,z⟩
        · exact .inl z
        · exact .inr ⟨x,List.mem_cons_of_mem _ hx,z⟩
      · by_cases c2 : τ = n + 1
        · subst c2; exact .inl hb
        · exact .inr ⟨(a,n),List.mem_cons_self,by show a < τ; omega,by show τ ≤ n; omega⟩
  · exact stay h
end
end M
set_option linter.all false
namespace M
variable {α : Type}
section
variable [DecidableEq α]
inductive Drv (T : Tr α) (k m : Nat) (row : List (Deed α)) : Tr α → List Nat → Nat → Type
 | leaf (x : α) (p : List Nat) (b n : Nat) (mv : List (Nat × Nat)) (L : Life T k m row p b n mv) : Drv T k m row (.leaf x) p n
 | knot (f : α) (l r : Tr α) (p : List Nat) (b n : Nat) (mv : List (Nat × Nat)) (L : Life T k m row p b n mv) (d0 : Drv T k m row l (p ++ [0]) b) (d1 : Drv T k m row r (p ++ [1]) b) : Drv T k m row (.knot f l r) p n
variable {T : Tr α} {k m : Nat} {row : List (Deed α)}
theorem firstOf_leaf {x : α} {p : List Nat} : ∀ {l : List (List Nat × Tr α)},firstOf x l = some p → ∃ q ∈ l,q.1 = p ∧ q.2 = .leaf x
 | [],h=>by cases h
 | q :: r,h=>by
  simp only [firstOf] at h
  split at h
  · rename_i c
    cases h
    refine ⟨q,List.mem_cons_self,rfl,?_⟩
    have h1:=c.1
    have h2:=c.2
    generalize q.2 = u at h1 h2
    cases u with
    | leaf y=>exact congrArg Tr.leaf h2
    | knot=>cases h1
  · obtain ⟨q',h1,h2⟩:=firstOf_leaf h
    exact ⟨q',List.mem_cons_of_mem _ h1,h2⟩
theorem drv (hok : ∀ d ∈ row,d.ok k m) (s : Tr α) : ∀ (p : List Nat) (n : Nat),T.sub p = some s → n ≤ row.length → hbox T k m row n p → Nonempty (Drv T k m row s p n):=by
 induction s with
 | leaf x =>
  intro p n hs hn hb
  obtain ⟨i,_,hi⟩:=mem_getD hb
  obtain ⟨b,mv,L⟩:=life hok n i p hn hi
  exact ⟨.leaf x p b n mv L⟩
 | knot f l r ihl ihr =>
  intro p n hs hn hb
  obtain ⟨i,_,hi⟩:=mem_getD hb
  obtain ⟨b,mv,L⟩:=life hok n i p hn hi
  rcases L.made with ⟨x,j,_,h⟩ | ⟨g,i1,j1,h,_,ho⟩
  · obtain ⟨q,hq,rfl,e⟩:=firstOf_leaf h
    have:=Tr.sub_mem hq
    rw [hs,e] at this; cases this
  · obtain ⟨e1,e2,_⟩:=over_some ho
    obtain ⟨d0⟩:=ihl _ b (Tr.sub_l hs) (by have:=L.le; omega) (getD_mem e1).1
    obtain ⟨d1⟩:=ihr _ b (Tr.sub_r hs) (by have:=L.le; omega) (getD_mem e2).1
    exact ⟨.knot f l r p b n mv L d0 d1⟩
noncomputable def shelfAt (mv : List (Nat × Nat)) (τ : Nat) : Option Nat:=(mv.find? fun x=>decide (x.1 < τ ∧ τ ≤ x.2)).map (·.1)
theorem shelfAt_none {mv : List (Nat × Nat)} {τ : Nat} (h : shelfAt mv τ = none) : ∀ x ∈ mv,¬ (x.1 < τ ∧ τ ≤ x.2):=by
 unfold shelfAt at h
 rw [Option.map_eq_none_iff,List.find?_eq_none] at h
 intro x hx z
 exact h x hx (decide_eq_true z)
theorem shelfAt_some {mv : List (Nat × Nat)} {τ a : Nat} (h : shelfAt mv τ = some a) : ∃ x ∈ mv,x.1 = a ∧ x.1 < τ ∧ τ ≤ x.2:=by
 unfold shelfAt at h
 obtain ⟨x,hx,rfl⟩:=Option.map_eq_some_iff.mp h
 have:=List.find?_some hx
 exact ⟨x,List.mem_of_find?_eq_some hx,rfl,by simpa using this⟩
namespace Drv
noncomputable def al : {s : Tr α} → {p : List Nat} → {n : Nat} → Drv T k m row s p n → Nat → List (List Nat × Option Nat)
 | _,_,_,.leaf _ p b n mv _,τ=>if b < τ ∧ τ ≤ n then [(p,shelfAt mv τ)] else []
 | _,_,_,.knot _ _ _ p b n mv _ d0 d1,τ=>if τ ≤ b then d0.al τ ++ d1.al τ else if τ ≤ n then [(p,shelfAt mv τ)] else []
theorem own {p : List Nat} {b n τ : Nat} {mv : List (Nat × Nat)} (L : Life T k m row p b n mv) (h1 : b < τ) (h2 : τ ≤ n) : (shelfAt mv τ = none → hbox T k m row τ p) ∧ ∀ a,shelfAt mv τ = some a → b < a ∧ a < τ ∧ PutAt T k m row a p ∧ ∃ f,UsedBy row a f:=by
 refine ⟨fun h=>?_,fun a h=>?_⟩
 · rcases L.at' τ h1 h2 with z | ⟨x,hx,z⟩
   · exact z
   · exact absurd z (shelfAt_none h x hx)
 · obtain ⟨x,hx,rfl,h3,h4⟩:=shelfAt_some h
   obtain ⟨g1,g2,g3,g4⟩:=L.mvs x hx
   exact ⟨g1,h3,g3,_,g4⟩
theorem al_in {s : Tr α} {p : List Nat} {n : Nat} (d : Drv T k m row s p n) : ∀ τ,∀ x ∈ d.al τ,p <+: x.1 ∧ τ ≤ n ∧ (x.2 = none → hbox T k m row τ x.1) ∧ ∀ a,x.2 = some a → a < τ ∧ PutAt T k m row a x.1 ∧ ∃ f,UsedBy row a f:=by
 induction d with
 | leaf x p b n mv L =>
  intro τ y hy
  simp only [al] at hy
  split at hy
  · rename_i c
    rw [List.mem_singleton.mp hy]
    have:=own L c.1 c.2
    exact ⟨List.prefix_rfl,c.2,this.1,fun a ha=>(this.2 a ha).2⟩
  · cases hy
 | knot f l r p b n mv L d0 d1 ih0 ih1 =>
  intro τ y hy
  have hle:=L.le
  simp only [al] at hy
  split at hy
  · rcases List.mem_append.mp hy with hy | hy
    · obtain ⟨g1,g2,g3⟩:=ih0 τ y hy
      exact ⟨(List.prefix_append p [0]).trans g1,by omega,g3⟩
    · obtain ⟨g1,g2,g3⟩:=ih1 τ y hy
      exact ⟨(List.prefix_append p [1]).trans g1,by omega,g3⟩
  · split at hy
    · rename_i c1 c2
      rw [List.mem_singleton.mp hy]
      have:=own L (by omega) c2
      exact ⟨List.prefix_rfl,c2,this.1,fun a ha=>(this.2 a ha).2⟩
    · cases hy
theorem sons_apart {p q : List Nat} (h0 : p ++ [0] <+: q) (h1 : p ++ [1] <+: q) : False:=by
 obtain ⟨a,rfl⟩:=h0
 obtain ⟨b,h⟩:=h1
 simp at h
theorem al_nodup {s : Tr α} {p : List Nat} {n : Nat} (d : Drv T k m row s p n) : ∀ τ,((d.al τ).map (·.1)).Nodup:=by
 induction d with
 | leaf x p b n mv L =>
  intro τ
  simp only [al]
  split <;> simp
 | knot f l r p b n mv L d0 d1 ih0 ih1 =>
  intro τ
  simp only [al]
  split
  · rw [List.map_append,List.nodup_append]
    refine ⟨ih0 τ,ih1 τ,fun x hx y hy e=>?_⟩
    obtain ⟨u,hu,rfl⟩:=List.mem_map.mp hx
    obtain ⟨v,hv,e2⟩:=List.mem_map.mp hy
    have g1:=(al_in d0 τ u hu).1
    have g2:=(al_in d1 τ v hv).1
    rw [e2,← e] at g2
    exact sons_apart g1 g2
  · split <;> simp
theorem al_stay {s : Tr α} {p : List Nat} {n : Nat} (d : Drv T k m row s p n) : ∀ τ τ',τ ≤ τ' → τ' ≤ n → ∀ x ∈ d.al τ,∃ y ∈ d.al τ',y.1 <+: x.1 ∧ (x.2 = none → ∀ a,y.2 = some a → τ ≤ a):=by
 induction d with
 | leaf z p b n mv L =>
  intro τ τ' h1 h2 x hx
  simp only [al] at hx
  split at hx
  · rename_i c
    rw [List.mem_singleton.mp hx]
    refine ⟨(p,shelfAt mv τ'),by simp only [al]; rw [if_pos ⟨by omega,h2⟩]; exact List.mem_singleton.mpr rfl,List.prefix_rfl,fun hn a ha=>?_⟩
    obtain ⟨x,hx,rfl,g1,g2⟩:=shelfAt_some ha
    have:=shelfAt_none hn x hx
    omega
  · cases hx
 | knot f l r p b n mv L d0 d1 ih0 ih1 =>
  intro τ τ' h1 h2 x hx
  by_cases c' : τ' ≤ b
  · have c : τ ≤ b:=by omega
    simp only [al,if_pos c,if_pos c'] at hx ⊢
    rcases List.mem_append.mp hx with hx | hx
    · obtain ⟨y,hy,g⟩:=ih0 τ τ' h1 c' x hx
      exact ⟨y,List.mem_append_left _ hy,g⟩
    · obtain ⟨y,hy,g⟩:=ih1 τ τ' h1 c' x hx
      exact ⟨y,List.mem_append_right _ hy,g⟩
  · have hy : (p,shelfAt mv τ') ∈ (Drv.knot f l r p b n mv L d0 d1).al τ':=by
     simp only [al]; rw [if_neg c',if_pos h2]; exact List.mem_singleton.mpr rfl
    refine ⟨_,hy,(al_in _ τ x hx).1,fun hn a ha=>?_⟩
    by_cases c : τ ≤ b
    · have:=(own L (show b < τ' by omega) h2).2 a ha
      omega
    · simp only [al] at hx
      rw [if_neg c,if_pos (by omega)] at hx
      rw [List.mem_singleton.mp hx] at hn
      obtain ⟨z,hz,rfl,g1,g2⟩:=shelfAt_some ha
      have:=shelfAt_none hn z hz
      omega
theorem al_peak {s : Tr α} {p : List Nat} {n : Nat} (d : Drv T k m row s p n) : ∃ τ,τ ≤ n ∧ s.rk ≤ (d.al τ).length:=by
 induction d with
 | leaf x p b n mv L =>
  refine ⟨n,Nat.le_refl _,?_⟩
  simp only [al]
  rw [if_pos ⟨L.le,Nat.le_refl _⟩]
  exact Nat.le_refl 1
 | knot f l r p b n mv L d0 d1 ih0 ih1 =>
  obtain ⟨τ0,h0,g0⟩:=ih0
  obtain ⟨τ1,h1,g1⟩:=ih1
  have hle:=L.le
  have len : ∀ τ,τ ≤ b → ((Drv.knot f l r p b n mv L d0 d1).al τ).length = (d0.al τ).length + (d1.al τ).length:=fun τ hτ=>by
   simp only [al]; rw [if_pos hτ,List.length_append]
  have e : (Tr.knot f l r).rk = if l.rk = r.rk then l.rk + 1 else max l.rk r.rk:=rfl
  have pl:=l.rk_pos
  have pr:=r.rk_pos
  have pos : ∀ {s' : Tr α} {p' : List Nat} (d' : Drv T k m row s' p' b) (τ τ' : Nat),τ ≤ τ' → τ' ≤ b → 1 ≤ (d'.al τ).length → 1 ≤ (d'.al τ').length:=fun d' τ τ' q1 q2 q3=>by
   obtain ⟨x,hx⟩:=List.exists_mem_of_length_pos q3
   obtain ⟨y,hy,_⟩:=al_stay d' τ τ' q1 q2 x hx
   exact List.length_pos_of_mem hy
  rw [e]
  split
  · rename_i c
    by_cases q : τ0 ≤ τ1
    · refine ⟨τ1,by omega,?_⟩
      rw [len _ h1]
      have:=pos d0 τ0 τ1 q h1 (by omega)
      omega
    · refine ⟨τ0,by omega,?_⟩
      rw [len _ h0]
      have:=pos d1 τ1 τ0 (by omega) h0 (by omega)
      omega
  · by_cases q : r.rk ≤ l.rk
    · exact ⟨τ0,by omega,by rw [len _ h0]; omega⟩
    · exact ⟨τ1,by omega,by rw [len _ h1]; omega⟩
end Drv
end
end M
set_option linter.all false
namespace M
variable {α : Type}
noncomputable def crit (k : Nat) : Tr α → Nat
 | .leaf _=>0
 | .knot _ l r=>crit k l + crit k r + if l.rk + 1 = k ∧ r.rk + 1 = k then 1 else 0
noncomputable def mustN (k : Nat) : Tr α → Nat
 | .leaf _=>0
 | .knot _ l r=>mustN k l + mustN k r + if k ≤ l.rk ∧ k ≤ r.rk then 1 else 0
theorem rk_knotM (f : α) (l r : Tr α) : (Tr.knot f l r).rk = if l.rk = r.rk then l.rk + 1 else max l.rk r.rk:=rfl
theorem must_crit (k : Nat) (hk : 2 ≤ k) (t : Tr α) : mustN k t + (if k ≤ t.rk then 1 else 0) = crit k t:=by
 induction t with
 | leaf x =>
  have : (Tr.leaf x).rk = 1:=rfl
  simp only [mustN,crit,this]
  rw [if_neg (by omega)]
 | knot f l r ihl ihr =>
  have e:=rk_knotM f l r
  simp only [mustN,crit,← ihl,← ihr]
  generalize (Tr.knot f l r).rk = R at e ⊢
  generalize l.rk = x at e ⊢
  generalize r.rk = y at e ⊢
  by_cases c : x = y
  · rw [if_pos c] at e
    repeat' split
    all_goals omega
  · rw [if_neg c] at e
    repeat' split
    all_goals omega
theorem crit_zero {k : Nat} (hk : 2 ≤ k) {t : Tr α} (h : t.rk < k) : crit k t = 0:=by
 induction t with
 | leaf x=>rfl
 | knot f l r ihl ihr =>
  rw [rk_knotM] at h
  simp only [crit]
  split at h
  · rw [ihl (by omega),ihr (by omega),if_neg (by omega)]
  · rw [ihl (by omega),ihr (by omega),if_neg (by omega)]
theorem nodup_sub {β : Type} [DecidableEq β] : ∀ {Y Z : List β},Y.Nodup → (∀ y ∈ Y,y ∈ Z) → Y.length ≤ Z.length
 | [],_,_,_=>Nat.zero_le _
 | y :: Y,Z,nd,h=>by
  have nd:=List.nodup_cons.mp nd
  have hy:=h y List.mem_cons_self
  have:=nodup_sub (Z:=Z.erase y) nd.2 fun x hx=>by
   refine (List.mem_erase_of_ne ?_).mpr (h x (List.mem_cons_of_mem _ hx))
   intro e; rw [e] at hx; exact nd.1 hx
  rw [List.length_erase_of_mem hy] at this
  have:=List.length_pos_of_mem hy
  simp only [List.length_cons]; omega
theorem nodup_all {β : Type} [DecidableEq β] {Y Z : List β} (nd : Y.Nodup) (h : ∀ y ∈ Y,y ∈ Z) (l : Z.length ≤ Y.length) : ∀ z ∈ Z,z ∈ Y:=by
 intro z hz
 refine Classical.byContradiction fun c=>?_
 have:=nodup_sub (Z:=Z.erase z) nd fun y hy=>(List.mem_erase_of_ne (fun e=>c (by rw [← e]; exact hy))).mpr (h y hy)
 rw [List.length_erase_of_mem hz] at this
 have:=List.length_pos_of_mem hz
 omega
section
variable [DecidableEq α] {T : Tr α} {k m : Nat} {row : List (Deed α)}
theorem PutAt.fn {a : Nat} {q q' : List Nat} (h : PutAt T k m row a q) (h' : PutAt T k m row a q') : q = q':=by
 obtain ⟨i,s,e,g⟩:=h
 obtain ⟨i',s',e',g'⟩:=h'
 rw [e] at e'
 cases e'
 rw [g] at g'
 exact Option.some.inj g'
theorem pre_two {a b c : List Nat} (h1 : a <+: c) (h2 : b <+: c) : a <+: b ∨ b <+: a:=List.prefix_or_prefix_of_prefix h1 h2
noncomputable def GoodPut (T : Tr α) (k m : Nat) (row : List (Deed α)) (p : List Nat) (n a : Nat) : Prop:=a < n ∧ (∃ f,UsedBy row a f) ∧ ∃ q,PutAt T k m row a q ∧ p <+: q
structure Full (T : Tr α) (k m : Nat) (row : List (Deed α)) {s : Tr α} {p : List Nat} {n : Nat} (d : Drv T k m row s p n) (A : List Nat) (mo : Nat) (c : List Nat) : Prop where
 le : mo ≤ n
 inn : p <+: c
 all : ∀ o ∈ (stN T k m row mo).1,∃ q,o = some q ∧ c <+: q
 one : ∃ x ∈ d.al mo,x.2 = none ∧ c <+: x.1
 old : ∀ a ∈ A,∀ q,PutAt T k m row a q → a < mo ∨ (¬ c <+: q ∧ ¬ q <+: c)
theorem extra {s : Tr α} {p c : List Nat} {n mo τ : Nat} {d : Drv T k m row s p n} {A : List Nat} (F : Full T k m row d A mo c) (h1 : mo ≤ τ) (h2 : τ ≤ n) (h3 : ∀ q,hbox T k m row τ q → ¬ p <+: q) :
 ∃ a,mo ≤ a ∧ a < τ ∧ GoodPut T k m row p τ a ∧ a ∉ A:=by
 obtain ⟨x,hx,hn,hc⟩:=F.one
 obtain ⟨y,hy,hyx,hst⟩:=d.al_stay mo τ h1 h2 x hx
 obtain ⟨g1,_,g3,g4⟩:=d.al_in τ y hy
 cases e : y.2 with
 | none=>exact absurd g1 (h3 _ (g3 e))
 | some a =>
  obtain ⟨q1,q2,q3⟩:=g4 a e
  refine ⟨a,hst hn a e,q1,⟨q1,q3,y.1,q2,g1⟩,fun hA=>?_⟩
  rcases F.old a hA _ q2 with z | ⟨z1,z2⟩
  · have:=hst hn a e; omega
  · rcases pre_two hc hyx with z | z
    · exact z1 z
    · exact z2 z
theorem puts_of (hk : 2 ≤ k) {s : Tr α} {p : List Nat} {n : Nat} (d : Drv T k m row s p n) : ∃ A : List Nat,A.Nodup ∧ (∀ a ∈ A,GoodPut T k m row p n a) ∧ (∀ a ∈ A,s.isL = false → ∀ q,PutAt T k m row a q → q ≠ p) ∧ (crit k s ≤ A.length ∨ crit k s ≤ A.length + 1 ∧ ∃ mo c,Full T k m row d A mo c):=by
 induction d with
 | leaf x p b n mv L=>exact ⟨[],List.nodup_nil,by simp,by simp,.inl (Nat.le_refl _)⟩
 | knot f l r p b n mv L d0 d1 ih0 ih1 =>
  have hle:=L.le
  have strict : ∀ {i : Nat} {q : List Nat},p ++ [i] <+: q → q ≠ p:=fun {i q} h e=>by
   have h1:=h.length_le
   have h2:=congrArg List.length e
   rw [List.length_append] at h1
   simp only [List.length_cons,List.length_nil] at h1
   omega
  have up : ∀ {i : Nat} {q : List Nat},p ++ [i] <+: q → p <+: q:=fun {i q} h=>(List.prefix_append p [i]).trans h
  have al_b : ∀ τ,τ ≤ b → (Drv.knot f l r p b n mv L d0 d1).al τ = d0.al τ ++ d1.al τ:=fun τ hτ=>by simp only [Drv.al]; rw [if_pos hτ]
  by_cases hδ : l.rk + 1 = k ∧ r.rk + 1 = k
  · have c1 : crit k (Tr.knot f l r) = 1:=by
     simp only [crit]
     rw [crit_zero hk (by omega : l.rk < k),crit_zero hk (by omega : r.rk < k),if_pos hδ]
    rw [c1]
    obtain ⟨τ,hτ,hr⟩:=(Drv.knot f l r p b n mv L d0 d1).al_peak
    rw [rk_knotM,if_pos (by omega)] at hr
    have hb : τ ≤ b:=by
     refine Nat.le_of_not_lt fun c=>?_
     simp only [Drv.al] at hr
     rw [if_neg (by omega),if_pos hτ] at hr
     simp at hr; omega
    have sons : ∀ x ∈ (Drv.knot f l r p b n mv L d0 d1).al τ,x.1 ≠ p:=fun x hx=>by
     rw [al_b τ hb] at hx
     rcases List.mem_append.mp hx with hx | hx
     · exact strict (d0.al_in τ x hx).1
     · exact strict (d1.al_in τ x hx).1
    by_cases hs : ∃ x ∈ (Drv.knot f l r p b n mv L d0 d1).al τ,∃ a,x.2 = some a
    · obtain ⟨x,hx,a,ha⟩:=hs
      obtain ⟨g1,_,_,g4⟩:=Drv.al_in _ τ x hx
      obtain ⟨q1,q2,q3⟩:=g4 a ha
      refine ⟨[a],by simp,fun a' h'=>?_,fun a' h' _ q hq=>?_,.inl (Nat.le_refl _)⟩
      · rw [List.mem_singleton.mp h']; exact ⟨by omega,q3,x.1,q2,g1⟩
      · rw [List.mem_singleton.mp h'] at hq
        rw [hq.fn q2]; exact sons x hx
    · have hnone : ∀ x ∈ (Drv.knot f l r p b n mv L d0 d1).al τ,x.2 = none:=fun x hx=>by
       cases e : x.2 with
       | none=>rfl
       | some a=>exact absurd ⟨x,hx,a,e⟩ hs
      refine ⟨[],by simp,by simp,by simp,.inr ⟨Nat.le_refl _,τ,p,?_⟩⟩
      have nd:=Drv.al_nodup (Drv.knot f l r p b n mv L d0 d1) τ
      have all : ∀ o ∈ (stN T k m row τ).1,o ∈ ((Drv.knot f l r p b n mv L d0 d1).al τ).map fun x=>some x.1:=by
       refine nodup_all ?_ (fun o ho=>?_) ?_
       · have : (((Drv.knot f l r p b n mv L d0 d1).al τ).map fun x=>some x.1) = ((((Drv.knot f l r p b n mv L d0 d1).al τ).map (·.1)).map some):=by rw [List.map_map]; rfl
         rw [this]
         exact List.Pairwise.map _ (fun _ _ h e=>h (Option.some.inj e)) nd
       · obtain ⟨x,hx,rfl⟩:=List.mem_map.mp ho
         exact (Drv.al_in _ τ x hx).2.2.1 (hnone x hx)
       · rw [(stN_len τ).1,List.length_map]; omega
      refine ⟨hτ,List.prefix_rfl,fun o ho=>?_,?_,by simp⟩
      · obtain ⟨x,hx,rfl⟩:=List.mem_map.mp (all o ho)
        exact ⟨x.1,rfl,(Drv.al_in _ τ x hx).1⟩
      · obtain ⟨x,hx⟩:=List.exists_mem_of_length_pos (show 0 < ((Drv.knot f l r p b n mv L d0 d1).al τ).length by omega)
        exact ⟨x,hx,hnone x hx,(Drv.al_in _ τ x hx).1⟩
  · have c1 : crit k (Tr.knot f l r) = crit k l + crit k r:=by simp only [crit]; rw [if_neg hδ]; omega
    rw [c1]
    obtain ⟨A0,n0,g0,_,h0⟩:=ih0
    obtain ⟨A1,n1,g1,_,h1⟩:=ih1
    have apart : ∀ a,GoodPut T k m row (p ++ [0]) b a → GoodPut T k m row (p ++ [1]) b a → False:=fun a ⟨_,_,q,hq,hp⟩ ⟨_,_,q',hq',hp'⟩=>by
     rw [hq.fn hq'] at hp
     exact Drv.sons_apart hp hp'
    have nd : (A0 ++ A1).Nodup:=List.nodup_append.mpr ⟨n0,n1,fun x hx y hy e=>apart x (g0 x hx) (e ▸ g1 y hy)⟩
    have good : ∀ a ∈ A0 ++ A1,GoodPut T k m row p n a:=fun a ha=>by
     rcases List.mem_append.mp ha with ha | ha
     · obtain ⟨q1,q2,q,q3,q4⟩:=g0 a ha
       exact ⟨by omega,q2,q,q3,up q4⟩
     · obtain ⟨q1,q2,q,q3,q4⟩:=g1 a ha
       exact ⟨by omega,q2,q,q3,up q4⟩
    have str : ∀ a ∈ A0 ++ A1,∀ q,PutAt T k m row a q → q ≠ p:=fun a ha q hq=>by
     rcases List.mem_append.mp ha with ha | ha
     · obtain ⟨_,_,q',q3,q4⟩:=g0 a ha
       rw [hq.fn q3]; exact strict q4
     · obtain ⟨_,_,q',q3,q4⟩:=g1 a ha
       rw [hq.fn q3]; exact strict q4
    have far : ∀ {i j : Nat} {c q : List Nat},i ≠ j → p ++ [i] <+: c → p ++ [j] <+: q → ¬ c <+: q ∧ ¬ q <+: c:=fun {i j c q} hij h1 h2=>by
     have key : ∀ {u : List Nat},p ++ [i] <+: u → p ++ [j] <+: u → False:=fun {u} a b=>by
      obtain ⟨x,rfl⟩:=a
      obtain ⟨y,e⟩:=b
      simp at e
      exact hij e.1.symm
     exact ⟨fun z=>key (h1.trans z) h2,fun z=>key h1 (h2.trans z)⟩
    have mem0 : ∀ {τ : Nat} {x : List Nat × Option Nat},τ ≤ b → x ∈ d0.al τ → x ∈ (Drv.knot f l r p b n mv L d0 d1).al τ:=fun {τ x} hτ hx=>by rw [al_b τ hτ]; exact List.mem_append_left _ hx
    have mem1 : ∀ {τ : Nat} {x : List Nat × Option Nat},τ ≤ b → x ∈ d1.al τ → x ∈ (Drv.knot f l r p b n mv L d0 d1).al τ:=fun {τ x} hτ hx=>by rw [al_b τ hτ]; exact List.mem_append_right _ hx
    have far0 : ∀ {c : List Nat} {a : Nat} {q : List Nat},p ++ [1] <+: c → a ∈ A0 → PutAt T k m row a q → ¬ c <+: q ∧ ¬ q <+: c:=fun {c a q} hc ha hq=>by
     obtain ⟨_,_,q',q3,q4⟩:=g0 a ha
     rw [hq.fn q3]; exact far (by decide) hc q4
    have far1 : ∀ {c : List Nat} {a : Nat} {q : List Nat},p ++ [0] <+: c → a ∈ A1 → PutAt T k m row a q → ¬ c <+: q ∧ ¬ q <+: c:=fun {c a q} hc ha hq=>by
     obtain ⟨_,_,q',q3,q4⟩:=g1 a ha
     rw [hq.fn q3]; exact far (by decide) hc q4
    have some0 : ∃ o,∀ mo,o < (stN T k m row mo).1.length:=⟨0,fun mo=>by rw [(stN_len mo).1]; omega⟩
    rcases h0 with h0 | ⟨h0,mo0,c0,F0⟩
    · rcases h1 with h1 | ⟨h1,mo1,c1',F1⟩
      · exact ⟨A0 ++ A1,nd,good,fun a ha _=>str a ha,.inl (by rw [List.length_append]; omega)⟩
      · refine ⟨A0 ++ A1,nd,good,fun a ha _=>str a ha,.inr ⟨by rw [List.length_append]; omega,mo1,c1',by have:=F1.le; omega,up F1.inn,F1.all,?_,fun a ha q hq=>?_⟩⟩
        · obtain ⟨x,hx,z⟩:=F1.one
          exact ⟨x,mem1 F1.le hx,z⟩
        · rcases List.mem_append.mp ha with ha | ha
          · exact .inr (far0 F1.inn ha hq)
          · exact F1.old a ha q hq
    · rcases h1 with h1 | ⟨h1,mo1,c1',F1⟩
      · refine ⟨A0 ++ A1,nd,good,fun a ha _=>str a ha,.inr ⟨by rw [List.length_append]; omega,mo0,c0,by have:=F0.le; omega,up F0.inn,F0.all,?_,fun a ha q hq=>?_⟩⟩
        · obtain ⟨x,hx,z⟩:=F0.one
          exact ⟨x,mem0 F0.le hx,z⟩
        · rcases List.mem_append.mp ha with ha | ha
          · exact F0.old a ha q hq
          · exact .inr (far1 F0.inn ha hq)
      · have off1 : ∀ q,hbox T k m row mo1 q → ¬ p ++ [0] <+: q:=fun q hq z=>by
         obtain ⟨q',e,hc⟩:=F1.all _ hq
         cases e
         exact Drv.sons_apart z (F1.inn.trans hc)
        have off0 : ∀ q,hbox T k m row mo0 q → ¬ p ++ [1] <+: q:=fun q hq z=>by
         obtain ⟨q',e,hc⟩:=F0.all _ hq
         cases e
         exact Drv.sons_apart (F0.inn.trans hc) z
        by_cases c : mo0 ≤ mo1
        · obtain ⟨a,b1,b2,b3,b4⟩:=extra F0 c F1.le off1
          have b3' : GoodPut T k m row (p ++ [0]) b a:=⟨by have:=F1.le; omega,b3.2⟩
          have nA : a ∉ A0 ++ A1:=fun z=>by
           rcases List.mem_append.mp z with z | z
           · exact b4 z
           · exact apart a b3' (g1 a z)
          refine ⟨a :: (A0 ++ A1),List.nodup_cons.mpr ⟨nA,nd⟩,fun x hx=>?_,fun x hx _ q hq=>?_,.inr ⟨by simp only [List.length_cons,List.length_append]; omega,mo1,c1',by have:=F1.le; omega,up F1.inn,F1.all,?_,fun x hx q hq=>?_⟩⟩
          · rcases List.mem_cons.mp hx with rfl | hx
            · obtain ⟨q1,q2,q,q3,q4⟩:=b3'
              exact ⟨by omega,q2,q,q3,up q4⟩
            · exact good x hx
          · rcases List.mem_cons.mp hx with rfl | hx
            · obtain ⟨q1,q2,q',q3,q4⟩:=b3'
              rw [hq.fn q3]; exact strict q4
            · exact str x hx q hq
          · obtain ⟨x,hx,z⟩:=F1.one
            exact ⟨x,mem1 F1.le hx,z⟩
          · rcases List.mem_cons.mp hx with rfl | hx
            · exact .inl b2
            · rcases List.mem_append.mp hx with hx | hx
              · exact .inr (far0 F1.inn hx hq)
              · exact F1.old x hx q hq
        · obtain ⟨a,b1,b2,b3,b4⟩:=extra F1 (by omega) F0.le off0
          have b3' : GoodPut T k m row (p ++ [1]) b a:=⟨by have:=F0.le; omega,b3.2⟩
          have nA : a ∉ A0 ++ A1:=fun z=>by
           rcases List.mem_append.mp z with z | z
           · exact apart a (g0 a z) b3'
           · exact b4 z
          refine ⟨a :: (A0 ++ A1),List.nodup_cons.mpr ⟨nA,nd⟩,fun x hx=>?_,fun x hx _ q hq=>?_,.inr ⟨by simp only [List.length_cons,List.length_append]; omega,mo0,c0,by have:=F0.le; omega,up F0.inn,F0.all,?_,fun x hx q hq=>?_⟩⟩
          · rcases List.mem_cons.mp hx with rfl | hx
            · obtain ⟨q1,q2,q,q3,q4⟩:=b3'
              exact ⟨by omega,q2,q,q3,up q4⟩
            · exact good x hx
          · rcases List.mem_cons.mp hx with rfl | hx
            · obtain ⟨q1,q2,q',q3,q4⟩:=b3'
              rw [hq.fn q3]; exact strict q4
            · exact str x hx q hq
          · obtain ⟨x,hx,z⟩:=F0.one
            exact ⟨x,mem0 F0.le hx,z⟩
          · rcases List.mem_cons.mp hx with rfl | hx
            · exact .inl b2
            · rcases List.mem_append.mp hx with hx | hx
              · exact F0.old x hx q hq
              · exact .inr (far1 F0.inn hx hq)
end
end M
set_option linter.all false
namespace M
variable {α : Type}
noncomputable def inner (p q : List Nat) : Bool:=p.isPrefixOf q && decide (p.length < q.length)
theorem inner_iff {p q : List Nat} : inner p q = true ↔ p <+: q ∧ p.length < q.length:=by
 simp only [inner,Bool.and_eq_true,List.isPrefixOf_iff_prefix,decide_eq_true_eq]
noncomputable abbrev Use:=List Nat × Nat × Nat
noncomputable def greedy : List (List Nat) → List Use → Option (List (List Nat × Use) × List Use)
 | [],us=>some ([],us)
 | p :: ps,us=>match us.find? (fun u=>inner p u.1) with
  | none=>none
  | some u=>match greedy ps (us.erase u) with
   | none=>none
   | some r=>some ((p,u) :: r.1,r.2)
theorem greedy_app : ∀ (a b : List (List Nat)) (us : List Use),greedy (a ++ b) us = (match greedy a us with | none=>none | some r=>(match greedy b r.2 with | none=>none | some r'=>some (r.1 ++ r'.1,r'.2)))
 | [],b,us=>by
  simp only [List.nil_append,greedy]
  cases greedy b us <;> rfl
 | p :: a,b,us=>by
  simp only [List.cons_append,greedy]
  cases us.find? (fun u=>inner p u.1) with
  | none=>rfl
  | some u =>
   dsimp only
   rw [greedy_app a b]
   cases greedy a (us.erase u) with
   | none=>rfl
   | some r =>
    dsimp only
    cases greedy b r.2 <;> rfl
theorem greedy_facts : ∀ (ps : List (List Nat)) (us : List Use) (cs : List (List Nat × Use)) (us' : List Use),greedy ps us = some (cs,us') → cs.map (·.1) = ps ∧ (∀ c ∈ cs,inner c.1 c.2.1 = true) ∧ us.Perm (cs.map (·.2) ++ us')
 | [],us,cs,us',h=>by
  cases h
  exact ⟨rfl,by simp,.refl _⟩
 | p :: ps,us,cs,us',h=>by
  simp only [greedy] at h
  split at h
  · cases h
  · rename_i u hu
    split at h
    · cases h
    · rename_i r hr
      cases h
      obtain ⟨h1,h2,h3⟩:=greedy_facts ps _ r.1 r.2 hr
      refine ⟨by simp [h1],fun c hc=>?_,?_⟩
      · rcases List.mem_cons.mp hc with rfl | hc
        · exact List.find?_some (p:=fun u : Use=>inner p u.1) hu
        · exact h2 c hc
      · exact (List.perm_cons_erase (List.mem_of_find?_eq_some hu)).trans (h3.cons u)
theorem greedy_step {ks : List (List Nat)} {us us' U : List Use} {cs C : List (List Nat × Use)} {i : Nat} {x : List Nat} (all : greedy ks us = some (C,U)) (hx : ks[i]? = some x) (h : greedy (ks.take i) us = some (cs,us')) :
 ∃ u,us'.find? (fun u=>inner x u.1) = some u ∧ greedy (ks.take (i + 1)) us = some (cs ++ [(x,u)],us'.erase u):=by
 obtain ⟨hi,e⟩:=List.getElem?_eq_some_iff.mp hx
 have e1 : ks = ks.take i ++ x :: ks.drop (i + 1):=by
  rw [← e,← List.drop_eq_getElem_cons hi,List.take_append_drop]
 rw [e1,greedy_app,h] at all
 dsimp only at all
 simp only [greedy] at all
 cases hf : us'.find? (fun u=>inner x u.1) with
 | none=>rw [hf] at all; cases all
 | some u =>
  refine ⟨u,rfl,?_⟩
  rw [List.take_add_one,hx,Option.toList_some,greedy_app,h]
  dsimp only
  simp only [greedy,hf]
noncomputable def mustL (k : Nat) : Tr α → List Nat → List (List Nat)
 | .leaf _,_=>[]
 | .knot _ l r,p=>(if k ≤ l.rk ∧ k ≤ r.rk then [p] else []) ++ (mustL k l (p ++ [0]) ++ mustL k r (p ++ [1]))
theorem mustL_len (k : Nat) : ∀ (t : Tr α) (p : List Nat),(mustL k t p).length = mustN k t
 | .leaf _,_=>rfl
 | .knot f l r,p=>by
  simp only [mustL,mustN,List.length_append,mustL_len k l,mustL_len k r]
  split <;> simp <;> omega
theorem greedy_tree (k : Nat) : ∀ (s : Tr α) (p : List Nat) (us : List Use),(∀ q s',(q,s') ∈ s.wk p → mustN k s' ≤ us.countP (fun u=>inner q u.1)) →
 ∃ cs us',greedy (mustL k s p).reverse us = some (cs,us') ∧ ∀ c ∈ cs,inner p c.2.1 = true
 | .leaf x,p,us,h=>⟨[],us,rfl,by simp⟩
 | .knot f l r,p,us,h=>by
  have up : ∀ (i : Nat) (q : List Nat),inner (p ++ [i]) q = true → inner p q = true:=fun i q hq=>by
   obtain ⟨a,b⟩:=inner_iff.mp hq
   exact inner_iff.mpr ⟨(List.prefix_append p [i]).trans a,by simp at b; omega⟩
  obtain ⟨c1,u1,g1,n1⟩:=greedy_tree k r (p ++ [1]) us fun q s' hq=>h q s' (by simp [Tr.wk,hq])
  obtain ⟨f1,f2,f3⟩:=greedy_facts _ _ _ _ g1
  have cnt : ∀ g : Use → Bool,us.countP g = (c1.map (·.2)).countP g + u1.countP g:=fun g=>by rw [f3.countP_eq,List.countP_append]
  obtain ⟨c2,u2,g2,n2⟩:=greedy_tree k l (p ++ [0]) u1 fun q s' hq=>by
   have a1:=h q s' (by simp [Tr.wk,hq])
   have a2:=cnt (fun u=>inner q u.1)
   have a3 : (c1.map (·.2)).countP (fun u=>inner q u.1) = 0:=by
    rw [List.countP_eq_zero]
    intro u hu hi
    obtain ⟨c,hc,rfl⟩:=List.mem_map.mp hu
    obtain ⟨q',e,_⟩:=Tr.wk_sub l _ _ _ hq
    have b1:=(inner_iff.mp (n1 c hc)).1
    have b2:=(inner_iff.mp hi).1
    rw [e] at b2
    exact Drv.sons_apart ((List.prefix_append (p ++ [0]) q').trans b2) b1
   omega
  obtain ⟨e1,e2,e3⟩:=greedy_facts _ _ _ _ g2
  have len1 : c1.length = mustN k r:=by have:=congrArg List.length f1; simpa [mustL_len] using this
  have len2 : c2.length = mustN k l:=by have:=congrArg List.length e1; simpa [mustL_len] using this
  have both : greedy ((mustL k r (p ++ [1])).reverse ++ (mustL k l (p ++ [0])).reverse) us = some (c1 ++ c2,u2):=by
   rw [greedy_app,g1]
   dsimp only
   rw [g2]
  have rev : (mustL k (.knot f l r) p).reverse = ((mustL k r (p ++ [1])).reverse ++ (mustL k l (p ++ [0])).reverse) ++ (if k ≤ l.rk ∧ k ≤ r.rk then [p] else []):=by
   simp only [mustL,List.reverse_append]
   split <;> simp
  have inn : ∀ c ∈ c1 ++ c2,inner p c.2.1 = true:=fun c hc=>by
   rcases List.mem_append.mp hc with hc | hc
   · exact up _ _ (n1 c hc)
   · exact up _ _ (n2 c hc)
  rw [rev,greedy_app,both]
  dsimp only
  by_cases c : k ≤ l.rk ∧ k ≤ r.rk
  · rw [if_pos c]
    have a1:=h p (.knot f l r) (by simp [Tr.wk])
    have a2:=cnt (fun u=>inner p u.1)
    have a4 : u1.countP (fun u=>inner p u.1) = (c2.map (·.2)).countP (fun u=>inner p u.1) + u2.countP (fun u=>inner p u.1):=by rw [e3.countP_eq,List.countP_append]
    have b1:=List.countP_le_length (p:=fun u : Use=>inner p u.1) (l:=c1.map (·.2))
    have b2:=List.countP_le_length (p:=fun u : Use=>inner p u.1) (l:=c2.map (·.2))
    rw [List.length_map] at b1 b2
    simp only [mustN,if_pos c] at a1
    have pos : 0 < u2.countP (fun u=>inner p u.1):=by omega
    obtain ⟨u,hu,hi⟩:=List.countP_pos_iff.mp pos
    have fs : (u2.find? fun u=>inner p u.1).isSome = true:=List.find?_isSome.mpr ⟨u,hu,hi⟩
    obtain ⟨v,hv⟩:=Option.isSome_iff_exists.mp fs
    simp only [greedy,hv]
    refine ⟨_,_,rfl,fun c hc=>?_⟩
    rcases List.mem_append.mp hc with hc | hc
    · exact inn c hc
    · rw [List.mem_singleton.mp hc]
      exact List.find?_some (p:=fun u : Use=>inner p u.1) hv
  · rw [if_neg c]
    exact ⟨_,_,rfl,fun c hc=>inn c (by simpa using hc)⟩
section
variable [DecidableEq α] {T : Tr α} {k m : Nat} {row : List (Deed α)}
theorem Drv.part {s : Tr α} {p : List Nat} {n : Nat} (d : Drv T k m row s p n) : ∀ q s',(q,s') ∈ s.wk p → ∃ n',Nonempty (Drv T k m row s' q n'):=by
 induction d with
 | leaf x p b n mv L =>
  intro q s' h
  simp only [Tr.wk,List.mem_singleton,Prod.mk.injEq] at h
  obtain ⟨rfl,rfl⟩:=h
  exact ⟨n,⟨.leaf x q b n mv L⟩⟩
 | knot f l r p b n mv L d0 d1 ih0 ih1 =>
  intro q s' h
  simp only [Tr.wk,List.mem_cons,List.mem_append,Prod.mk.injEq] at h
  rcases h with ⟨rfl,rfl⟩ | h | h
  · exact ⟨n,⟨.knot f l r q b n mv L d0 d1⟩⟩
  · exact ih0 q s' h
  · exact ih1 q s' h
theorem used_within (hk : 2 ≤ k) {s : Tr α} {p : List Nat} {n : Nat} (d : Drv T k m row s p n) {us : List Use} (hus : ∀ a q,PutAt T k m row a q → (∃ f,UsedBy row a f) → ∃ f',(q,a,f') ∈ us) : mustN k s ≤ us.countP (fun u=>inner p u.1):=by
 obtain ⟨A,nd,gp,ne,cr⟩:=puts_of hk d
 have mc:=must_crit k hk s
 have le : mustN k s ≤ A.length:=by
  have : mustN k s ≤ crit k s:=by omega
  rcases cr with h | ⟨h,_⟩
  · omega
  · by_cases c : k ≤ s.rk
    · rw [if_pos c] at mc; omega
    · rw [if_neg c,crit_zero hk (by omega)] at mc; omega
 cases hs : s.isL with
 | true =>
  cases s with
  | leaf x=>exact Nat.zero_le _
  | knot=>cases hs
 | false =>
  refine Nat.le_trans le ?_
  rw [List.countP_eq_length_filter]
  have : A.length ≤ ((us.filter fun u=>inner p u.1).map (·.2.1)).length:=nodup_sub nd fun a ha=>by
   obtain ⟨_,f,q,hq,hp⟩:=gp a ha
   obtain ⟨f',hf⟩:=hus a q hq f
   refine List.mem_map.mpr ⟨(q,a,f'),List.mem_filter.mpr ⟨hf,inner_iff.mpr ⟨hp,?_⟩⟩,rfl⟩
   have:=ne a ha hs q hq
   rcases Nat.lt_or_ge p.length q.length with z | z
   · exact z
   · exact absurd (hp.eq_of_length_le z).symm this
  rw [List.length_map] at this
  exact this
theorem greedy_row (hk : 2 ≤ k) (hok : ∀ d ∈ row,d.ok k m) (h : hbox T k m row row.length []) {us : List Use} (hus : ∀ a q,PutAt T k m row a q → (∃ f,UsedBy row a f) → ∃ f',(q,a,f') ∈ us) : ∃ cs us',greedy (mustL k T []).reverse us = some (cs,us'):=by
 obtain ⟨d⟩:=drv hok T [] row.length (by cases T <;> rfl) (Nat.le_refl _) h
 obtain ⟨cs,us',g,_⟩:=greedy_tree k T [] us fun q s' hq=>by
  obtain ⟨n',⟨d'⟩⟩:=d.part q s' hq
  exact used_within hk d' hus
 exact ⟨cs,us',g⟩
end
end M
set_option linter.all false
namespace M
variable {α : Type}
theorem count_ge {β : Type} (P : β → Bool) : ∀ (l : List β) (I : List Nat),I.Nodup → (∀ i ∈ I,∃ x,l[i]? = some x ∧ P x = true) → I.length ≤ l.countP P
 | [],I,_,h=>by
  cases I with
  | nil=>exact Nat.le_refl _
  | cons i I=>obtain ⟨x,hx,_⟩:=h i List.mem_cons_self; simp at hx
 | y :: l,I,nd,h=>by
  have nd' : ((I.filter fun i=>decide (i ≠ 0)).map (· - 1)).Nodup:=by
   have h1 : (I.filter fun i=>decide (i ≠ 0)).Nodup:=nd.filter _
   refine List.pairwise_map.mpr (List.Pairwise.imp_of_mem ?_ h1)
   intro a b ha hb hab e
   have:=of_decide_eq_true (List.mem_filter.mp ha).2
   have:=of_decide_eq_true (List.mem_filter.mp hb).2
   exact hab (by omega)
  have ih:=count_ge P l _ nd' fun i hi=>by
   obtain ⟨j,hj,rfl⟩:=List.mem_map.mp hi
   have h1:=List.mem_filter.mp hj
   have h2:=of_decide_eq_true h1.2
   obtain ⟨x,hx,hp⟩:=h j h1.1
   cases j with
   | zero=>exact absurd rfl h2
   | succ j=>exact ⟨x,hx,hp⟩
  rw [List.length_map] at ih
  have hlen : I.length = (I.filter fun i=>decide (i ≠ 0)).length + (I.filter fun i=>!decide (i ≠ 0)).length:=by
   have : ∀ J : List Nat,J.length = (J.filter fun i=>decide (i ≠ 0)).length + (J.filter fun i=>!decide (i ≠ 0)).length:=fun J=>by
    induction J with
    | nil=>rfl
    | cons a J ih =>
     rw [List.length_cons,List.filter_cons,List.filter_cons]
     by_cases c : a ≠ 0
     · rw [if_pos (decide_eq_true c),if_neg (by rw [decide_eq_true c]; decide),List.length_cons]; omega
     · rw [if_neg (by rw [decide_eq_false c]; decide),if_pos (by rw [decide_eq_false c]; rfl),List.length_cons]; omega
   exact this I
  have hz : (I.filter fun i=>!decide (i ≠ 0)).length ≤ if P y = true then 1 else 0:=by
   have nz : (I.filter fun i=>!decide (i ≠ 0)).Nodup:=nd.filter _
   cases e : I.filter fun i=>!decide (i ≠ 0) with
   | nil=>exact Nat.zero_le _
   | cons a J =>
    have ha : a ∈ I.filter fun i=>!decide (i ≠ 0):=by rw [e]; exact List.mem_cons_self
    have ha':=List.mem_filter.mp ha
    have a0 : a = 0:=by simpa using ha'.2
    obtain ⟨x,hx,hp⟩:=h a ha'.1
    rw [a0] at hx
    have : y = x:=Option.some.inj hx
    rw [this,if_pos hp]
    cases J with
    | nil=>exact Nat.le_refl _
    | cons b J =>
     have hb : b ∈ I.filter fun i=>!decide (i ≠ 0):=by rw [e]; exact List.mem_cons_of_mem _ List.mem_cons_self
     have b0 : b = 0:=by simpa using (List.mem_filter.mp hb).2
     rw [e,a0,b0] at nz
     simp at nz
  rw [List.countP_cons]
  omega
namespace Deed
noncomputable def isTake : Deed α → Bool
 | .take _ _=>true
 | _=>false
noncomputable def isJoin : Deed α → Bool
 | .join _ _ _ _=>true
 | _=>false
noncomputable def isPut : Deed α → Bool
 | .put _ _=>true
 | _=>false
noncomputable def isFetch : Deed α → Bool
 | .fetch _ _=>true
 | _=>false
end Deed
section
variable [DecidableEq α] {T : Tr α} {k m : Nat} {row : List (Deed α)}
theorem used_inj {a a' f : Nat} (h : UsedBy row a f) (h' : UsedBy row a' f) : a = a':=by
 obtain ⟨l,i,sh,j,e1,e2,e3⟩:=h
 obtain ⟨l',i',sh',j',e1',e2',e3'⟩:=h'
 rw [e2] at e2'
 cases e2'
 rcases Nat.lt_trichotomy a a' with z | z | z
 · exact absurd e1' (e3 a' z l' i')
 · exact z
 · exact absurd e1 (e3' a z l i)
theorem Made.fn {p q : List Nat} {b : Nat} (h : Made T k m row p b) (h' : Made T k m row q b) : p = q:=by
 rcases h with ⟨x,i,e,g⟩ | ⟨f,i,j,l,e,g⟩ <;> rcases h' with ⟨x',i',e',g'⟩ | ⟨f',i',j',l',e',g'⟩ <;> rw [e] at e' <;> cases e' <;> (rw [g] at g'; exact Option.some.inj g')
theorem mades {s : Tr α} {p : List Nat} {n : Nat} (d : Drv T k m row s p n) (hs : T.sub p = some s) : ∃ I J : List Nat,I.Nodup ∧ J.Nodup ∧ I.length = s.lv.length ∧ J.length + 1 = s.lv.length ∧ (∀ i ∈ I,∃ q,p <+: q ∧ Made T k m row q i ∧ ∃ d,row[i]? = some d ∧ d.isTake = true) ∧ ∀ i ∈ J,∃ q,p <+: q ∧ Made T k m row q i ∧ ∃ d,row[i]? = some d ∧ d.isJoin = true:=by
 induction d with
 | leaf x p b n mv L =>
  refine ⟨[b],[],by simp,by simp,rfl,rfl,fun i hi=>?_,by simp⟩
  rw [List.mem_singleton.mp hi]
  refine ⟨p,List.prefix_rfl,L.made,?_⟩
  rcases L.made with ⟨y,j,e,_⟩ | ⟨f,i,j,h,e,g⟩
  · exact ⟨_,e,rfl⟩
  · obtain ⟨l,r,hk⟩:=knotAt_sub (over_some g).2.2
    rw [hs] at hk; cases hk
 | knot f l r p b n mv L d0 d1 ih0 ih1 =>
  obtain ⟨I0,J0,a1,a2,a3,a4,a5,a6⟩:=ih0 (Tr.sub_l hs)
  obtain ⟨I1,J1,b1,b2,b3,b4,b5,b6⟩:=ih1 (Tr.sub_r hs)
  have up : ∀ {i : Nat} {q : List Nat},p ++ [i] <+: q → p <+: q:=fun {i q} h=>(List.prefix_append p [i]).trans h
  have ap : ∀ {i : Nat} {q q' : List Nat},p ++ [0] <+: q → p ++ [1] <+: q' → Made T k m row q i → Made T k m row q' i → False:=fun {i q q'} h h' g g'=>by
   rw [g.fn g'] at h
   exact Drv.sons_apart h h'
  have self : ∀ {j : Nat} {q : List Nat},p ++ [j] <+: q → Made T k m row q b → False:=fun {j q} h g=>by
   have e:=L.made.fn g
   have h1:=h.length_le
   rw [← e,List.length_append] at h1
   simp only [List.length_cons,List.length_nil] at h1
   omega
  have hj : ∃ d,row[b]? = some d ∧ d.isJoin = true:=by
   rcases L.made with ⟨x,j,e,g⟩ | ⟨f,i,j,h,e,g⟩
   · obtain ⟨q,hq,rfl,e'⟩:=firstOf_leaf g
     have:=Tr.sub_mem hq
     rw [hs,e'] at this; cases this
   · exact ⟨_,e,rfl⟩
  refine ⟨I0 ++ I1,b :: (J0 ++ J1),List.nodup_append.mpr ⟨a1,b1,fun x hx y hy e=>?_⟩,List.nodup_cons.mpr ⟨fun hb=>?_,List.nodup_append.mpr ⟨a2,b2,fun x hx y hy e=>?_⟩⟩,by simp [Tr.lv,a3,b3],by simp [Tr.lv]; omega,fun i hi=>?_,fun i hi=>?_⟩
  · obtain ⟨q,h1,h2,_⟩:=a5 x hx
    obtain ⟨q',h1',h2',_⟩:=b5 y hy
    exact ap h1 h1' h2 (e ▸ h2')
  · rcases List.mem_append.mp hb with hb | hb
    · obtain ⟨q,h1,h2,_⟩:=a6 b hb
      exact self h1 h2
    · obtain ⟨q,h1,h2,_⟩:=b6 b hb
      exact self h1 h2
  · obtain ⟨q,h1,h2,_⟩:=a6 x hx
    obtain ⟨q',h1',h2',_⟩:=b6 y hy
    exact ap h1 h1' h2 (e ▸ h2')
  · rcases List.mem_append.mp hi with hi | hi
    · obtain ⟨q,h1,h2⟩:=a5 i hi
      exact ⟨q,up h1,h2⟩
    · obtain ⟨q,h1,h2⟩:=b5 i hi
      exact ⟨q,up h1,h2⟩
  · rcases List.mem_cons.mp hi with rfl | hi
    · exact ⟨p,List.prefix_rfl,L.made,hj⟩
    · rcases List.mem_append.mp hi with hi | hi
      · obtain ⟨q,h1,h2⟩:=a6 i hi
        exact ⟨q,up h1,h2⟩
      · obtain ⟨q,h1,h2⟩:=b6 i hi
        exact ⟨q,up h1,h2⟩
theorem no_fewer (hk : 2 ≤ k) (hok : ∀ d ∈ row,d.ok k m) (h : hbox T k m row row.length []) :
 T.lv.length ≤ row.countP Deed.isTake ∧ T.lv.length ≤ row.countP Deed.isJoin + 1 ∧ mustN k T ≤ row.countP Deed.isPut ∧ mustN k T ≤ row.countP Deed.isFetch:=by
 have h0 : T.sub [] = some T:=by cases T <;> rfl
 obtain ⟨d⟩:=drv hok T [] row.length h0 (Nat.le_refl _) h
 obtain ⟨I,J,a1,a2,a3,a4,a5,a6⟩:=mades d h0
 obtain ⟨A,b1,b2,_,b4⟩:=puts_of hk d
 have hc:=must_crit k hk T
 have hA : mustN k T ≤ A.length:=by
  by_cases c : k ≤ T.rk
  · rw [if_pos c] at hc
    rcases b4 with z | ⟨z,_⟩ <;> omega
  · rw [if_neg c] at hc
    have:=crit_zero hk (show T.rk < k by omega)
    omega
 have c1:=count_ge Deed.isTake row I a1 fun i hi=>by
  obtain ⟨q,_,_,d,e,g⟩:=a5 i hi
  exact ⟨d,e,g⟩
 have c2:=count_ge Deed.isJoin row J a2 fun i hi=>by
  obtain ⟨q,_,_,d,e,g⟩:=a6 i hi
  exact ⟨d,e,g⟩
 have c3:=count_ge Deed.isPut row A b1 fun a ha=>by
  obtain ⟨_,_,q,⟨i,sh,e,_⟩,_⟩:=b2 a ha
  exact ⟨_,e,rfl⟩
 have fx : ∀ a,∃ f,a ∈ A → UsedBy row a f:=fun a=>by
  by_cases c : a ∈ A
  · obtain ⟨_,⟨f,hf⟩,_⟩:=b2 a c
    exact ⟨f,fun _=>hf⟩
  · exact ⟨0,fun z=>absurd z c⟩
 have nf : (A.map fun a=>(fx a).choose).Nodup:=by
  refine List.pairwise_map.mpr (List.Pairwise.imp_of_mem ?_ b1)
  intro a b ha hb hab e
  have h1:=(fx a).choose_spec ha
  have h2:=(fx b).choose_spec hb
  rw [e] at h1
  exact hab (used_inj h1 h2)
 have c4:=count_ge Deed.isFetch row _ nf fun f hf=>by
  obtain ⟨a,ha,rfl⟩:=List.mem_map.mp hf
  obtain ⟨_,i,sh,j,_,e,_⟩:=(fx a).choose_spec ha
  exact ⟨_,e,rfl⟩
 rw [List.length_map] at c4
 omega
end
end M
set_option linter.all false
namespace M
variable {α : Type}
inductive Wst : Tr α → List Int → Nat → List (Deed α) → Prop
 | leaf (x : α) (f0 : Int) (fr : List Int) (s : Nat) : Wst (.leaf x) (f0 :: fr) s [.take x f0]
 | twice {t : Tr α} {fr : List Int} {s s' : Nat} {r1 r2 : List (Deed α)} (h1 : Wst t fr s r1) (h2 : Wst t fr s' r2) (hs : s ≤ s') : Wst t fr s (r1 ++ r2)
 | room (sw : Bool) (f : α) (l r : Tr α) (f0 f1 : Int) (fr : List Int) {s s1 : Nat} {r1 r2 : List (Deed α)} (h1 : Wst (bif sw then r else l) (f0 :: f1 :: fr) s r1) (h2 : Wst (bif sw then l else r) (f1 :: fr) s1 r2) (hs : s ≤ s1) :
  Wst (.knot f l r) (f0 :: f1 :: fr) s (r1 ++ r2 ++ [.join f (bif sw then f1 else f0) (bif sw then f0 else f1) f0])
 | shelf (sw : Bool) (f : α) (l r : Tr α) (f0 f1 : Int) (fr : List Int) (ee : Nat) {s s1 : Nat} {r1 r2 : List (Deed α)} (h1 : Wst (bif sw then r else l) (f0 :: f1 :: fr) s r1) (h2 : Wst (bif sw then l else r) (f0 :: f1 :: fr) (s1 + 1) r2) (hs : s ≤ s1) :
  Wst (.knot f l r) (f0 :: f1 :: fr) s (r1 ++ [.put f0 s1] ++ List.replicate ee (.fetch s1 f1) ++ r2 ++ [.fetch s1 f1] ++ [.join f (bif sw then f0 else f1) (bif sw then f1 else f0) f0])
theorem getD_set {β : Type} (l : List β) (i j : Nat) (v z : β) : (l.set i v).getD j z = if i = j ∧ i < l.length then v else l.getD j z:=by
 rw [List.getD_eq_getElem?_getD,List.getD_eq_getElem?_getD,List.getElem?_set]
 by_cases c : i = j
 · subst c
   by_cases d : i < l.length
   · simp [d]
   · simp [d,List.getElem?_eq_none (Nat.le_of_not_lt d)]
 · simp [c]
section
variable [DecidableEq α] {T : Tr α} {k m : Nat}
structure Brg (T : Tr α) (k m : Nat) (p : List Nat) (fr : List Int) (s : Nat) (row : List (Deed α)) : Prop where
 box : ∀ st : MSt,st.1.length = k → st.2.length = m → ∀ f0,fr.head? = some f0 → (row.foldl (mark T) st).1.getD f0.toNat none = some p
 old : ∀ st : MSt,st.1.length = k → st.2.length = m → ∀ b : Nat,(b : Int) ∉ fr → (row.foldl (mark T) st).1.getD b none = st.1.getD b none
 low : ∀ st : MSt,st.1.length = k → st.2.length = m → ∀ j,j < s → (row.foldl (mark T) st).2.getD j none = st.2.getD j none
theorem fold_len (row : List (Deed α)) (st : MSt) : (row.foldl (mark T) st).1.length = st.1.length ∧ (row.foldl (mark T) st).2.length = st.2.length:=Deed.rows_len row st
theorem Wst.brings (nd : T.lv.Nodup) {t : Tr α} {fr : List Int} {s : Nat} {row : List (Deed α)} (h : Wst t fr s row) : ∀ p,T.sub p = some t → fr.Nodup → (∀ d ∈ row,d.ok k m) → Brg T k m p fr s row:=by
 induction h with
 | leaf x f0 fr s =>
  intro p hp nf hok
  have h0 : inN k f0:=(hok (.take x f0) (by simp)).1 f0 (by simp [Deed.bn])
  have e : firstOf x (T.wk []) = some p:=firstOf_some (by rw [Tr.wk_lv]; exact nd) (by simpa using sub_wk T [] p _ hp)
  have st1 : ∀ st : MSt,[Deed.take x f0].foldl (mark T) st = (st.1.set f0.toNat (some p),st.2):=fun st=>by
   show (st.1.set f0.toNat (firstOf x (T.wk [])),st.2) = _
   rw [e]
  refine ⟨fun st l1 l2 f hf=>?_,fun st l1 l2 b hb=>?_,fun st l1 l2 j hj=>by rw [st1]⟩
  · cases hf
    rw [st1,getD_set,if_pos ⟨rfl,by have:=h0.2; have:=h0.1; omega⟩]
  · rw [st1,getD_set,if_neg]
    rintro ⟨z,_⟩
    exact hb (by have:=h0.1; rw [← z]; simp; omega)
 | twice h1 h2 hs ih1 ih2 =>
  rename_i r1 r2
  intro p hp nf hok
  have a:=ih1 p hp nf fun d hd=>hok d (List.mem_append_left _ hd)
  have b:=ih2 p hp nf fun d hd=>hok d (List.mem_append_right _ hd)
  refine ⟨fun st l1 l2 f hf=>?_,fun st l1 l2 c hc=>?_,fun st l1 l2 j hj=>?_⟩
  all_goals
   rw [List.foldl_append]
   have q:=fold_len (T:=T) r1 st
  · exact b.box _ (q.1.trans l1) (q.2.trans l2) f hf
  · rw [b.old _ (q.1.trans l1) (q.2.trans l2) c hc,a.old st l1 l2 c hc]
  · rw [b.low _ (q.1.trans l1) (q.2.trans l2) j (by omega),a.low st l1 l2 j hj]
 | room sw f l r f0 f1 fr h1 h2 hs ih1 ih2 =>
  rename_i s s1 r1 r2
  intro p hp nf hok
  have hx : T.sub (p ++ [cond sw 1 0]) = some (bif sw then r else l):=by cases sw; exact Tr.sub_l hp; exact Tr.sub_r hp
  have hy : T.sub (p ++ [cond sw 0 1]) = some (bif sw then l else r):=by cases sw; exact Tr.sub_r hp; exact Tr.sub_l hp
  have nf1:=List.nodup_cons.mp nf
  have a:=ih1 _ hx nf fun d hd=>hok d (by simp [hd])
  have b:=ih2 _ hy nf1.2 fun d hd=>hok d (by simp [hd])
  have hj : Deed.ok k m (.join f (bif sw then f1 else f0) (bif sw then f0 else f1) f0):=hok _ (by simp)
  have h0 : inN k f0:=hj.1 f0 (by simp [Deed.bn])
  have h1 : inN k f1:=by cases sw <;> exact hj.1 f1 (by simp [Deed.bn])
  have kn : knotAt T f p = true:=by unfold knotAt; rw [hp]; simp
  have end_ : ∀ st : MSt,st.1.length = k → st.2.length = m → (r1 ++ r2 ++ [Deed.join f (bif sw then f1 else f0) (bif sw then f0 else f1) f0]).foldl (mark T) st = (((r1 ++ r2).foldl (mark T) st).1.set f0.toNat (some p),((r1 ++ r2).foldl (mark T) st).2):=fun st l1 l2=>by
   rw [List.foldl_append]
   have q:=fold_len (T:=T) r1 st
   have b0:=a.box st l1 l2 f0 rfl
   have b1:=b.box _ (q.1.trans l1) (q.2.trans l2) f1 rfl
   have b2:=b.old (r1.foldl (mark T) st) (q.1.trans l1) (q.2.trans l2) f0.toNat (by rw [Int.toNat_of_nonneg h0.1]; exact nf1.1)
   rw [b0] at b2
   rw [← List.foldl_append] at b1 b2
   generalize (r1 ++ r2).foldl (mark T) st = st' at *
   show (st'.1.set f0.toNat (over T f (st'.1.getD (bif sw then f1 else f0).toNat none) (st'.1.getD (bif sw then f0 else f1).toNat none)),st'.2) = _
   cases sw
   · simp only [cond_false] at *
     rw [b1,b2,over_mk kn]
   · simp only [cond_true] at *
     rw [b1,b2,over_mk kn]
  refine ⟨fun st l1 l2 g hg=>?_,fun st l1 l2 c hc=>?_,fun st l1 l2 j hj=>?_⟩
  all_goals
   rw [end_ st l1 l2]
   have q:=fold_len (T:=T) r1 st
   have q2:=fold_len (T:=T) (r1 ++ r2) st
  · cases hg
    rw [getD_set,if_pos ⟨rfl,by have:=h0.2; have:=h0.1; omega⟩]
  · have c0 : ¬ f0.toNat = c:=fun z=>hc (by rw [← z,Int.toNat_of_nonneg h0.1]; simp)
    rw [getD_set,if_neg fun z=>c0 z.1,List.foldl_append,b.old _ (q.1.trans l1) (q.2.trans l2) c fun z=>hc (by simp at z ⊢; exact .inr z),a.old st l1 l2 c hc]
  · show (((r1 ++ r2).foldl (mark T) st).2).getD j none = _
    rw [List.foldl_append,b.low _ (q.1.trans l1) (q.2.trans l2) j (by omega),a.low st l1 l2 j hj]
 | shelf sw f l r f0 f1 fr ee h1 h2 hs ih1 ih2 =>
  rename_i s s1 r1 r2
  intro p hp nf hok
  have hx : T.sub (p ++ [cond sw 1 0]) = some (bif sw then r else l):=by cases sw; exact Tr.sub_l hp; exact Tr.sub_r hp
  have hy : T.sub (p ++ [cond sw 0 1]) = some (bif sw then l else r):=by cases sw; exact Tr.sub_r hp; exact Tr.sub_l hp
  have nf1:=List.nodup_cons.mp nf
  have a:=ih1 _ hx nf fun d hd=>hok d (by simp [hd])
  have b:=ih2 _ hy nf fun d hd=>hok d (by simp [hd])
  have hf : Deed.ok k m (.put f0 s1 : Deed α):=hok _ (by simp)
  have hf2 : Deed.ok k m (.fetch s1 f1 : Deed α):=hok _ (by simp)
  have h0 : inN k f0:=hf.1 f0 (by simp [Deed.bn])
  have h1 : inN k f1:=hf2.1 f1 (by simp [Deed.bn])
  have hm : s1 < m:=by have:=(hf.2 s1 (by simp [Deed.sn])).2; omega
  have kn : knotAt T f p = true:=by unfold knotAt; rw [hp]; simp
  have n01 : f0 ≠ f1:=fun z=>nf1.1 (by simp [z])
  have rep : ∀ (n : Nat) (st : MSt),(∀ b : Nat,(b : Int) ≠ f1 → ((List.replicate n (Deed.fetch s1 f1 : Deed α)).foldl (mark T) st).1.getD b none = st.1.getD b none) ∧ ((List.replicate n (Deed.fetch s1 f1 : Deed α)).foldl (mark T) st).2 = st.2:=by
   intro n
   induction n with
   | zero=>intro st; exact ⟨fun _ _=>rfl,rfl⟩
   | succ n ih =>
    intro st
    rw [List.replicate_succ,List.foldl_cons]
    obtain ⟨i1,i2⟩:=ih (mark T st (Deed.fetch s1 f1))
    refine ⟨fun b hb=>?_,i2⟩
    rw [i1 b hb]
    show (st.1.set f1.toNat _).getD b none = _
    rw [getD_set,if_neg]
    rintro ⟨z,_⟩
    exact hb (by rw [← z,Int.toNat_of_nonneg h1.1])
  have mid : ∀ st : MSt,st.1.length = k → st.2.length = m → (let st2:=(r1 ++ [Deed.put f0 s1] ++ List.replicate ee (Deed.fetch s1 f1)).foldl (mark T) st; st2.1.length = k ∧ st2.2.length = m ∧ st2.2.getD s1 none = some (p ++ [cond sw 1 0]) ∧ (∀ c : Nat,(c : Int) ∉ f0 :: f1 :: fr → st2.1.getD c none = st.1.getD c none) ∧ ∀ j,j < s → st2.2.getD j none = st.2.getD j none):=fun st l1 l2=>by
   have q:=fold_len (T:=T) (r1 ++ [Deed.put f0 s1] ++ List.replicate ee (Deed.fetch s1 f1)) st
   have q1:=fold_len (T:=T) r1 st
   refine ⟨q.1.trans l1,q.2.trans l2,?_,fun c hc=>?_,fun j hj=>?_⟩
   all_goals rw [List.foldl_append,List.foldl_append]
   · rw [(rep ee _).2]
     show ((r1.foldl (mark T) st).2.set (s1 : Int).toNat ((r1.foldl (mark T) st).1.getD f0.toNat none)).getD s1 none = _
     rw [a.box st l1 l2 f0 rfl,getD_set,if_pos ⟨by simp,by simp; omega⟩]
   · rw [(rep ee _).1 c fun z=>hc (by simp [z])]
     show (r1.foldl (mark T) st).1.getD c none = _
     exact a.old st l1 l2 c hc
   · rw [(rep ee _).2]
     show ((r1.foldl (mark T) st).2.set (s1 : Int).toNat _).getD j none = _
     rw [getD_set,if_neg (by simp; omega),a.low st l1 l2 j hj]
  have fin : ∀ st : MSt,st.1.length = k → st.2.length = m → ∃ st' : MSt,(r1 ++ [Deed.put f0 s1] ++ List.replicate ee (Deed.fetch s1 f1) ++ r2 ++ [Deed.fetch s1 f1] ++ [Deed.join f (bif sw then f0 else f1) (bif sw then f1 else f0) f0]).foldl (mark T) st = (st'.1.set f0.toNat (some p),st'.2) ∧ st'.1.length = k ∧ (∀ c : Nat,(c : Int) ∉ f0 :: f1 :: fr → st'.1.getD c none = st.1.getD c none) ∧ ∀ j,j < s → st'.2.getD j none = st.2.getD j none:=fun st l1 l2=>by
   obtain ⟨m1,m2,m3,m4,m5⟩:=mid st l1 l2
   rw [List.foldl_append,List.foldl_append,List.foldl_append]
   generalize (r1 ++ [Deed.put f0 s1] ++ List.replicate ee (Deed.fetch s1 f1)).foldl (mark T) st = st2 at *
   have b0:=b.box st2 m1 m2 f0 rfl
   have b1:=b.low st2 m1 m2 s1 (by omega)
   have q:=fold_len (T:=T) r2 st2
   rw [m3] at b1
   generalize e3 : r2.foldl (mark T) st2 = st3 at *
   have l3 : st3.1.length = k:=q.1.trans m1
   have s4 : [Deed.fetch s1 f1].foldl (mark T) st3 = (st3.1.set f1.toNat (some (p ++ [cond sw 1 0])),st3.2):=by
    show (st3.1.set f1.toNat (st3.2.getD (s1 : Int).toNat none),st3.2) = _
    rw [Int.toNat_natCast,b1]
   rw [s4]
   refine ⟨(st3.1.set f1.toNat (some (p ++ [cond sw 1 0])),st3.2),?_,by simpa using l3,fun c hc=>?_,fun j hj=>?_⟩
   · have g1 : (st3.1.set f1.toNat (some (p ++ [cond sw 1 0]))).getD f1.toNat none = some (p ++ [cond sw 1 0]):=by rw [getD_set,if_pos ⟨rfl,by have:=h1.1; have:=h1.2; omega⟩]
     have g0 : (st3.1.set f1.toNat (some (p ++ [cond sw 1 0]))).getD f0.toNat none = some (p ++ [cond sw 0 1]):=by
      rw [getD_set,if_neg fun z=>n01 (by have:=h0.1; have:=h1.1; omega)]
      exact b0
     show ((st3.1.set f1.toNat (some (p ++ [cond sw 1 0]))).set f0.toNat (over T f ((st3.1.set f1.toNat (some (p ++ [cond sw 1 0]))).getD (bif sw then f0 else f1).toNat none) ((st3.1.set f1.toNat (some (p ++ [cond sw 1 0]))).getD (bif sw then f1 else f0).toNat none)),st3.2) = _
     cases sw
     · simp only [cond_false] at *
       rw [g1,g0,over_mk kn]
     · simp only [cond_true] at *
       rw [g1,g0,over_mk kn]
   · show (st3.1.set f1.toNat _).getD c none = _
     rw [getD_set,if_neg fun z=>hc (by rw [← z.1,Int.toNat_of_nonneg h1.1]; simp),← e3,b.old st2 m1 m2 c hc,m4 c hc]
   · show st3.2.getD j none = _
     rw [← e3,b.low st2 m1 m2 j (by omega),m5 j hj]
  refine ⟨fun st l1 l2 g hg=>?_,fun st l1 l2 c hc=>?_,fun st l1 l2 j hj=>?_⟩
  all_goals
   obtain ⟨st',e,f1',f2,f3⟩:=fin st l1 l2
   rw [e]
  · cases hg
    rw [getD_set,if_pos ⟨rfl,by have:=h0.2; have:=h0.1; omega⟩]
  · have c0 : ¬ f0.toNat = c:=fun z=>hc (by rw [← z,Int.toNat_of_nonneg h0.1]; simp)
    rw [getD_set,if_neg fun z=>c0 z.1]
    exact f2 c hc
  · exact f3 j hj
end
end M
namespace L2
open PySem PySem.W PySem.Calls
theorem left_tree2 {p q : Program} {loose : List Str} {Xt : Shared → Bool} {α : Type} {Yf : Shared → α} {Ya : World → α} {N a b1 F1 F G m₀ : Nat} {ann : Option Value} {S S1 : World → OsState → SharedT} {b b' b2 : List Stmt} {env : Env} {ps ps' ps1 pl fq : Pos} (hb : b' ++ b2 = b)
 (he : opening p = plainProg p.main.scope.names) (hf : ∀ s,fenceModules? p s = some s) (hN : Nat.ble 600 N = true)
 (hz : ∀ w : World,((boot_heap w.params).isNs mainGlobals && (Array.mk [] : Array GenState).size == 0,(boot_heap w.params).objs.size,(boot_heap w.params).nsMap mainGlobals "__annotations__") = (true,m₀,ann))
 (h1 : ∀ w os,topGo treeTable p w m₀ ann a ⟨boot_heap w.params,Array.mk [],boot_drawn,boot_toks,os⟩ (topStub p) = some ((S w os).abs,⟨denote treeTable (.body b env),.body b env,ps,[topFrame fq]⟩))
 (h2 : ∀ w os,segRun treeTable p w m₀ ann 1 b1 (S w os).abs (blockOf b env (.body b env) ps [topFrame fq]) = some (.next,(S w os).abs,.body b env,ps'))
 (hm : ∀ w os,segRunT treeTable p w m₀ ann 1 F1 (S w os) (piecesOf b' env (.body b env) ps' [topFrame fq]) = some (.next,S1 w os,.body b env,ps1))
 (h3 : ∀ w os,(segRunT treeTable p w m₀ ann 1 F (S1 w os) (piecesOf b2 env (.body b env) ps1 [topFrame fq])).map (fun x=>(x.1,x.2.2.1,x.2.2.2,(topRun treeTable p w m₀ ann G x.2.1.abs ⟨doneF .next,.body b env,pl,[topFrame fq]⟩).map fun s =>
   ((staticsOk (importedModules p.main.body) (boot_heap w.params) s.heap && namesBound p s.heap && gensDone s && laidKept (boot_heap w.params) s.heap),openSeen q loose (importedModules p.main.body) Xt true s,Yf s))) = some (.next,.body b env,pl,some (true,openGood q loose,Ya w)))
 (le : Nat.ble (a + (b1 + (F1 + (F + G)))) N = true) : LeftO p q loose Xt Yf Ya N:=fun w=>by
 obtain ⟨⟨h,gs,d,k,os⟩,e,e'⟩:=Option.map_eq_some_iff.mp (boot_open he hN hf w)
 obtain ⟨rfl,rfl,rfl,rfl⟩ : h = boot_heap w.params ∧ gs = Array.mk [] ∧ d = boot_drawn ∧ k = boot_toks:=by simpa using e'
 obtain ⟨z1,z2,z3⟩ : _ ∧ _ ∧ _:=by simpa only [Prod.mk.injEq] using hz w
 obtain ⟨⟨f,sT,c,pp⟩,g1,g2⟩:=Option.map_eq_some_iff.mp (h3 w os)
 simp only [Prod.mk.injEq] at g2
 obtain ⟨rfl,rfl,rfl,g3⟩:=g2
 obtain ⟨s,g4,g5⟩:=Option.map_eq_some_iff.mp g3
 simp only [Prod.mk.injEq] at g5
 obtain ⟨l1,l2,l3⟩:=g5
 have g6 : topRun treeTable p w m₀ ann (F1 + (F + G)) (S w os).abs (restOf (b' ++ (b2 ++ [])) env (.body b env) ps' [topFrame fq]) = some s:=piece_app (segRun_of (hm w os)) (piece_app (segRun_of g1) g4)
 rw [List.append_nil,hb] at g6
 have g7:=go_top (h1 w os) (piece_block (h2 w os) g6)
 have r:=topRun_mono (N - (a + (b1 + (F1 + (F + G))))) _ _ _ _ g7
 rw [show a + (b1 + (F1 + (F + G))) + (N - (a + (b1 + (F1 + (F + G))))) = N by have:=Nat.le_of_ble_eq_true le; omega] at r
 have t : topFrom treeTable p w N ⟨boot_heap w.params,Array.mk [],boot_drawn,boot_toks,os⟩ = some s:=by
  unfold topFrom
  dsimp only
  rw [z1,z2,z3,r]
  show (match staticsOk (importedModules p.main.body) (boot_heap w.params) s.heap && namesBound p s.heap && gensDone s && laidKept (boot_heap w.params) s.heap with | true=>_ | false=>_) = _
  rw [l1]
 unfold openEnds
 rw [e]
 show (topFrom treeTable p w N _).map _ = _
 rw [t]
 exact congrArg some (Prod.ext l2 l3)
end L2
set_option maxHeartbeats 4000000
namespace K92
open PySem L2
local macro_rules | `(tactic| walk_at "rd")=>`(tactic| simp only [a_iRev,a_tListRev,a_rRemD,a_tFor,a_tSet,a_tSetC,a_tVar,a_tC,a_tIsN,a_tNotN,a_tB,a_tAnd,a_tOr,a_tNot,a_tAndV,a_tOrV,a_tNotV,a_tIf,a_tNext,a_tSeq,a_tDrop,a_tRet,a_tIfS,a_tNever,a_gName,a_gNil,a_gCons,a_gTup,a_gSub,a_tAsg,a_tPar,a_iRng1,a_iRng2,a_tOp,a_tUn,a_rI,a_rI0,a_rU,a_rEq,a_rNe,a_tTest,a_tChain,a_tNil,a_tCons,b_tTup,b_tLst,a_tCall,a_tCB,a_tNoPart,a_tPart,a_tSl,b_rSlT,a_rIxL,a_rIxS,b_rSetL,a_tBM,b_rAppend,b_rExtend,b_rCat,b_rRep,a_tYes,a_tComp,a_rJoin,a_rEqD,a_rNeD,a_rInD,a_rIsi,a_tChain3,a_rCatD,a_rIxF,a_rSlLF,a_rLenF,a_rIntB,ty_str,tJs,a_tFmtI,a_tRaise,a_tTry,a_tCallJ,a_rMaxS,a_rMinS,a_rListF,a_rSlU,a_iEnum,a_iL,a_iT,L2.start,blkSt,cxOf_K,blk_K,List.getElem?_cons_zero,List.getElem?_cons_succ,Option.some.injEq,Option.join_some,exists_eq_left',exists_eq_left,exists_eq_right,V.int.injEq,V.ref.injEq,V.str.injEq,V.bl.injEq,V.ty.injEq,and_true,true_and,List.set_cons_zero,List.set_cons_succ,List.cons.injEq,List.cons_append,List.nil_append,List.append_nil,List.map_cons,List.map_nil,List.length_cons,List.length_nil,List.replicate,exists_and_left,exists_and_right,Nat.reduceAdd,Nat.reduceSub,atI_0,atI_1,atI_2,atI_3,atI_4,if_true,if_false,Bool.false_eq_true,scal_ii,scal_ss,scal_bb])
local macro_rules | `(tactic| walk_at "cm")=>`(tactic| first | (refine cm_l ?_ ?_ <;> omega) | (refine cm_r ?_ ?_ <;> omega))
noncomputable def top (i : Nat) : Stmt:=PySem.Challenge.pw_fewboxes_k92_whole_every_row.main.body.getD i (.Pass ⟨0,0,0,0⟩)
noncomputable abbrev s_box_numbers : Stmt:=top 6
noncomputable abbrev s_shelf_numbers : Stmt:=top 7
noncomputable abbrev s_check_numbers : Stmt:=top 8
noncomputable abbrev s_check_deed : Stmt:=top 9
noncomputable abbrev s_moved_value : Stmt:=top 10
noncomputable abbrev s_state_behind : Stmt:=top 11
noncomputable abbrev s_is_leaf : Stmt:=top 13
noncomputable abbrev s_places : Stmt:=top 14
noncomputable abbrev s_leaves : Stmt:=top 15
noncomputable abbrev s_part_at : Stmt:=top 16
noncomputable abbrev s_place_of : Stmt:=top 17
noncomputable abbrev s_fresh : Stmt:=top 19
noncomputable abbrev s_knot_over : Stmt:=top 20
noncomputable abbrev s_mark_brought : Stmt:=top 21
noncomputable abbrev s_marked : Stmt:=top 22
noncomputable abbrev s_moments : Stmt:=top 23
noncomputable abbrev s_formula_held : Stmt:=top 24
noncomputable abbrev s_rank : Stmt:=top 26
noncomputable abbrev s_puts : Stmt:=top 27
noncomputable abbrev s_must_put : Stmt:=top 28
noncomputable abbrev s_least : Stmt:=top 29
noncomputable abbrev s_used_by : Stmt:=top 31
noncomputable abbrev s_used_puts : Stmt:=top 32
noncomputable abbrev s_lies_within : Stmt:=top 33
noncomputable abbrev s_matched : Stmt:=top 34
noncomputable abbrev s_row_by_shelf : Stmt:=top 36
noncomputable abbrev s_row_by_boxes : Stmt:=top 37
noncomputable abbrev s_row_into : Stmt:=top 38
noncomputable abbrev s_row_for : Stmt:=top 39
noncomputable abbrev s__law_at : Stmt:=top 41
noncomputable abbrev s__law_names : Stmt:=top 42
noncomputable abbrev s__law_shape : Stmt:=top 43
noncomputable abbrev s__law_any : Stmt:=top 44
noncomputable abbrev s__law_ranks : Stmt:=top 45
noncomputable abbrev s__law_deed : Stmt:=top 46
noncomputable abbrev s__law_knots : Stmt:=top 47
noncomputable abbrev s__law_marked : Stmt:=top 48
noncomputable abbrev s__law_wasted : Stmt:=top 49
noncomputable abbrev s__law_used : Stmt:=top 50
noncomputable abbrev s__law_counted : Stmt:=top 51
noncomputable abbrev s__law_matched : Stmt:=top 52
noncomputable abbrev s_law : Stmt:=top 53
theorem sc_box_numbers : FnScope ["deed"] ["deed"] (defScope s_box_numbers):=⟨rfl,rfl,rfl,by decide +kernel,rfl,by decide +kernel,by decide +kernel⟩
theorem sc_shelf_numbers : FnScope ["deed"] ["deed"] (defScope s_shelf_numbers):=⟨rfl,rfl,rfl,by decide +kernel,rfl,by decide +kernel,by decide +kernel⟩
theorem sc_check_numbers : FnScope ["deed","asked","there","number"] ["deed","asked","there"] (defScope s_check_numbers):=⟨rfl,rfl,rfl,by decide +kernel,rfl,by decide +kernel,by decide +kernel⟩
theorem sc_check_deed : FnScope ["deed","state"] ["deed","state"] (defScope s_check_deed):=⟨rfl,rfl,rfl,by decide +kernel,rfl,by decide +kernel,by decide +kernel⟩
theorem sc_moved_value : FnScope ["deed","state"] ["deed","state"] (defScope s_moved_value):=⟨rfl,rfl,rfl,by decide +kernel,rfl,by decide +kernel,by decide +kernel⟩
theorem sc_state_behind : FnScope ["deed","state","value","boxes","shelf"] ["deed","state","value"] (defScope s_state_behind):=⟨rfl,rfl,rfl,by decide +kernel,rfl,by decide +kernel,by decide +kernel⟩
theorem sc_is_leaf : FnScope ["tree"] ["tree"] (defScope s_is_leaf):=⟨rfl,rfl,rfl,by decide +kernel,rfl,by decide +kernel,by decide +kernel⟩
theorem sc_places : FnScope ["tree","found","step"] ["tree"] (defScope s_places):=⟨rfl,rfl,rfl,by decide +kernel,rfl,by decide +kernel,by decide +kernel⟩
theorem sc_leaves : FnScope ["tree"] ["tree"] (defScope s_leaves):=⟨rfl,rfl,rfl,by decide +kernel,rfl,by decide +kernel,by decide +kernel⟩
theorem sc_part_at : FnScope ["tree","place","part","step"] ["tree","place"] (defScope s_part_at):=⟨rfl,rfl,rfl,by decide +kernel,rfl,by decide +kernel,by decide +kernel⟩
theorem sc_place_of : FnScope ["tree","x","place"] ["tree","x"] (defScope s_place_of):=⟨rfl,rfl,rfl,by decide +kernel,rfl,by decide +kernel,by decide +kernel⟩
theorem sc_fresh : FnScope ["k","many"] ["k","many"] (defScope s_fresh):=⟨rfl,rfl,rfl,by decide +kernel,rfl,by decide +kernel,by decide +kernel⟩
theorem sc_knot_over : FnScope ["tree","f","left","right","place"] ["tree","f","left","right"] (defScope s_knot_over):=⟨rfl,rfl,rfl,by decide +kernel,rfl,by decide +kernel,by decide +kernel⟩
theorem sc_mark_brought : FnScope ["tree","deed","state"] ["tree","deed","state"] (defScope s_mark_brought):=⟨rfl,rfl,rfl,by decide +kernel,rfl,by decide +kernel,by decide +kernel⟩
theorem sc_marked : FnScope ["tree","deed","state"] ["tree","deed","state"] (defScope s_marked):=⟨rfl,rfl,rfl,by decide +kernel,rfl,by decide +kernel,by decide +kernel⟩
theorem sc_moments : FnScope ["tree","k","many","row","states","deed"] ["tree","k","many","row"] (defScope s_moments):=⟨rfl,rfl,rfl,by decide +kernel,rfl,by decide +kernel,by decide +kernel⟩
theorem sc_formula_held : FnScope ["state"] ["state"] (defScope s_formula_held):=⟨rfl,rfl,rfl,by decide +kernel,rfl,by decide +kernel,by decide +kernel⟩
theorem sc_rank : FnScope ["tree","left","right"] ["tree"] (defScope s_rank):=⟨rfl,rfl,rfl,by decide +kernel,rfl,by decide +kernel,by decide +kernel⟩
theorem sc_puts : FnScope ["tree","k"] ["tree","k"] (defScope s_puts):=⟨rfl,rfl,rfl,by decide +kernel,rfl,by decide +kernel,by decide +kernel⟩
theorem sc_must_put : FnScope ["tree","k"] ["tree","k"] (defScope s_must_put):=⟨rfl,rfl,rfl,by decide +kernel,rfl,by decide +kernel,by decide +kernel⟩
theorem sc_least : FnScope ["tree","k","takes","joins","shelved"] ["tree","k"] (defScope s_least):=⟨rfl,rfl,rfl,by decide +kernel,rfl,by decide +kernel,by decide +kernel⟩
theorem sc_used_by : FnScope ["row","n","shelf","at","deed"] ["row","n"] (defScope s_used_by):=⟨rfl,rfl,rfl,by decide +kernel,rfl,by decide +kernel,by decide +kernel⟩
theorem sc_used_puts : FnScope ["row","states","found","put","deed","place","fetch"] ["row","states"] (defScope s_used_puts):=⟨rfl,rfl,rfl,by decide +kernel,rfl,by decide +kernel,by decide +kernel⟩
theorem sc_lies_within : FnScope ["place","knot"] ["place","knot"] (defScope s_lies_within):=⟨rfl,rfl,rfl,by decide +kernel,rfl,by decide +kernel,by decide +kernel⟩
theorem sc_matched : FnScope ["tree","k","many","row","states","unmatched","found","knot","chosen"] ["tree","k","many","row"] (defScope s_matched):=⟨rfl,rfl,rfl,by decide +kernel,rfl,by decide +kernel,by decide +kernel⟩
theorem sc_row_by_shelf : FnScope ["tree","k","shelf","right","left"] ["tree","k","shelf"] (defScope s_row_by_shelf):=⟨rfl,rfl,rfl,by decide +kernel,rfl,by decide +kernel,by decide +kernel⟩
theorem sc_row_by_boxes : FnScope ["tree","k","box","shelf","sons"] ["tree","k","box","shelf"] (defScope s_row_by_boxes):=⟨rfl,rfl,rfl,by decide +kernel,rfl,by decide +kernel,by decide +kernel⟩
theorem sc_row_into : FnScope ["tree","k","box","shelf"] ["tree","k","box","shelf"] (defScope s_row_into):=⟨rfl,rfl,rfl,by decide +kernel,rfl,by decide +kernel,by decide +kernel⟩
theorem sc_row_for : FnScope ["tree","k"] ["tree","k"] (defScope s_row_for):=⟨rfl,rfl,rfl,by decide +kernel,rfl,by decide +kernel,by decide +kernel⟩
theorem sc__law_at : FnScope ["script","k","cell"] ["script","k"] (defScope s__law_at):=⟨rfl,rfl,rfl,by decide +kernel,rfl,by decide +kernel,by decide +kernel⟩
theorem sc__law_names : FnScope ["cell","many","letters","size","out","k","signs"] ["cell","many"] (defScope s__law_names):=⟨rfl,rfl,rfl,by decide +kernel,rfl,by decide +kernel,by decide +kernel⟩
theorem sc__law_shape : FnScope ["cell","names","deeds","trees","p","knot"] ["cell","names","deeds"] (defScope s__law_shape):=⟨rfl,rfl,rfl,by decide +kernel,rfl,by decide +kernel,by decide +kernel⟩
theorem sc__law_any : FnScope ["script","many","names","deeds"] ["script"] (defScope s__law_any):=⟨rfl,rfl,rfl,by decide +kernel,rfl,by decide +kernel,by decide +kernel⟩
theorem sc__law_ranks : FnScope ["tree","place","left","right","two"] ["tree","place"] (defScope s__law_ranks):=⟨rfl,rfl,rfl,by decide +kernel,rfl,by decide +kernel,by decide +kernel⟩
theorem sc__law_deed : FnScope ["script","n","names","deeds","k","many","cell","word"] ["script","n","names","deeds","k","many"] (defScope s__law_deed):=⟨rfl,rfl,rfl,by decide +kernel,rfl,by decide +kernel,by decide +kernel⟩
theorem sc__law_knots : FnScope ["tree","place"] ["tree","place"] (defScope s__law_knots):=⟨rfl,rfl,rfl,by decide +kernel,rfl,by decide +kernel,by decide +kernel⟩
theorem sc__law_marked : FnScope ["parts","deed","boxes","shelf","place","name","knot","found","sons"] ["parts","deed","boxes","shelf"] (defScope s__law_marked):=⟨rfl,rfl,rfl,by decide +kernel,rfl,by decide +kernel,by decide +kernel⟩
theorem sc__law_wasted : FnScope ["script","pot","tree","free","cell","first","row","room","ends","s"] ["script","pot","tree","free"] (defScope s__law_wasted):=⟨rfl,rfl,rfl,by decide +kernel,rfl,by decide +kernel,by decide +kernel⟩
theorem sc__law_used : FnScope ["row","n","m","s","deed"] ["row","n","m"] (defScope s__law_used):=⟨rfl,rfl,rfl,by decide +kernel,rfl,by decide +kernel,by decide +kernel⟩
theorem sc__law_counted : FnScope ["row","k","tree","least_row","word","many"] ["row","k","tree"] (defScope s__law_counted):=⟨rfl,rfl,rfl,by decide +kernel,rfl,by decide +kernel,by decide +kernel⟩
theorem sc__law_matched : FnScope ["found","row","held","knots","seen","one","knot","n","m","place"] ["found","row","held","knots"] (defScope s__law_matched):=⟨rfl,rfl,rfl,by decide +kernel,rfl,by decide +kernel,by decide +kernel⟩
theorem sc_law : FnScope ["script","tree","names","deeds","k","row","boxes","parts","shelf","held","deed","found","refused","knots"] ["script"] (defScope s_law):=⟨rfl,rfl,rfl,by decide +kernel,rfl,by decide +kernel,by decide +kernel⟩
set_option genInjectivity false in
set_option genSizeOfSpec false in
structure Txt (K : PySem.W.Frag) (mg : Str → Option Value) where
 f_box_numbers : Addr
 d_box_numbers : FuncData
 F_box_numbers : Fun K "box_numbers" "box_numbers" s_box_numbers f_box_numbers d_box_numbers
 m_box_numbers : mg "box_numbers" = some (.ref f_box_numbers)
 b_box_numbers : Binds K d_box_numbers ["deed"] []
 f_shelf_numbers : Addr
 d_shelf_numbers : FuncData
 F_shelf_numbers : Fun K "shelf_numbers" "shelf_numbers" s_shelf_numbers f_shelf_numbers d_shelf_numbers
 m_shelf_numbers : mg "shelf_numbers" = some (.ref f_shelf_numbers)
 b_shelf_numbers : Binds K d_shelf_numbers ["deed"] []
 f_check_numbers : Addr
 d_check_numbers : FuncData
 F_check_numbers : Fun K "check_numbers" "check_numbers" s_check_numbers f_check_numbers d_check_numbers
 m_check_numbers : mg "check_numbers" = some (.ref f_check_numbers)
 b_check_numbers : Binds K d_check_numbers ["deed","asked","there"] []
 f_check_deed : Addr
 d_check_deed : FuncData
 F_check_deed : Fun K "check_deed" "check_deed" s_check_deed f_check_deed d_check_deed
 m_check_deed : mg "check_deed" = some (.ref f_check_deed)
 b_check_deed : Binds K d_check_deed ["deed","state"] []
 f_moved_value : Addr
 d_moved_value : FuncData
 F_moved_value : Fun K "moved_value" "moved_value" s_moved_value f_moved_value d_moved_value
 m_moved_value : mg "moved_value" = some (.ref f_moved_value)
 b_moved_value : Binds K d_moved_value ["deed","state"] []
 f_state_behind : Addr
 d_state_behind : FuncData
 F_state_behind : Fun K "state_behind" "state_behind" s_state_behind f_state_behind d_state_behind
 m_state_behind : mg "state_behind" = some (.ref f_state_behind)
 b_state_behind : Binds K d_state_behind ["deed","state","value"] []
 f_is_leaf : Addr
 d_is_leaf : FuncData
 F_is_leaf : Fun K "is_leaf" "is_leaf" s_is_leaf f_is_leaf d_is_leaf
 m_is_leaf : mg "is_leaf" = some (.ref f_is_leaf)
 b_is_leaf : Binds K d_is_leaf ["tree"] []
 f_places : Addr
 d_places : FuncData
 F_places : Fun K "places" "places" s_places f_places d_places
 m_places : mg "places" = some (.ref f_places)
 b_places : Binds K d_places ["tree"] []
 f_leaves : Addr
 d_leaves : FuncData
 F_leaves : Fun K "leaves" "leaves" s_leaves f_leaves d_leaves
 m_leaves : mg "leaves" = some (.ref f_leaves)
 b_leaves : Binds K d_leaves ["tree"] []
 f_part_at : Addr
 d_part_at : FuncData
 F_part_at : Fun K "part_at" "part_at" s_part_at f_part_at d_part_at
 m_part_at : mg "part_at" = some (.ref f_part_at)
 b_part_at : Binds K d_part_at ["tree","place"] []
 f_place_of : Addr
 d_place_of : FuncData
 F_place_of : Fun K "place_of" "place_of" s_place_of f_place_of d_place_of
 m_place_of : mg "place_of" = some (.ref f_place_of)
 b_place_of : Binds K d_place_of ["tree","x"] []
 f_fresh : Addr
 d_fresh : FuncData
 F_fresh : Fun K "fresh" "fresh" s_fresh f_fresh d_fresh
 m_fresh : mg "fresh" = some (.ref f_fresh)
 b_fresh : Binds K d_fresh ["k","many"] []
 f_knot_over : Addr
 d_knot_over : FuncData
 F_knot_over : Fun K "knot_over" "knot_over" s_knot_over f_knot_over d_knot_over
 m_knot_over : mg "knot_over" = some (.ref f_knot_over)
 b_knot_over : Binds K d_knot_over ["tree","f","left","right"] []
 f_mark_brought : Addr
 d_mark_brought : FuncData
 F_mark_brought : Fun K "mark_brought" "mark_brought" s_mark_brought f_mark_brought d_mark_brought
 m_mark_brought : mg "mark_brought" = some (.ref f_mark_brought)
 b_mark_brought : Binds K d_mark_brought ["tree","deed","state"] []
 f_marked : Addr
 d_marked : FuncData
 F_marked : Fun K "marked" "marked" s_marked f_marked d_marked
 m_marked : mg "marked" = some (.ref f_marked)
 b_marked : Binds K d_marked ["tree","deed","state"] []
 f_moments : Addr
 d_moments : FuncData
 F_moments : Fun K "moments" "moments" s_moments f_moments d_moments
 m_moments : mg "moments" = some (.ref f_moments)
 b_moments : Binds K d_moments ["tree","k","many","row"] []
 f_formula_held : Addr
 d_formula_held : FuncData
 F_formula_held : Fun K "formula_held" "formula_held" s_formula_held f_formula_held d_formula_held
 m_formula_held : mg "formula_held" = some (.ref f_formula_held)
 b_formula_held : Binds K d_formula_held ["state"] []
 f_rank : Addr
 d_rank : FuncData
 F_rank : Fun K "rank" "rank" s_rank f_rank d_rank
 m_rank : mg "rank" = some (.ref f_rank)
 b_rank : Binds K d_rank ["tree"] []
 f_puts : Addr
 d_puts : FuncData
 F_puts : Fun K "puts" "puts" s_puts f_puts d_puts
 m_puts : mg "puts" = some (.ref f_puts)
 b_puts : Binds K d_puts ["tree","k"] []
 f_must_put : Addr
 d_must_put : FuncData
 F_must_put : Fun K "must_put" "must_put" s_must_put f_must_put d_must_put
 m_must_put : mg "must_put" = some (.ref f_must_put)
 b_must_put : Binds K d_must_put ["tree","k"] []
 f_least : Addr
 d_least : FuncData
 F_least : Fun K "least" "least" s_least f_least d_least
 m_least : mg "least" = some (.ref f_least)
 b_least : Binds K d_least ["tree","k"] []
 f_used_by : Addr
 d_used_by : FuncData
 F_used_by : Fun K "used_by" "used_by" s_used_by f_used_by d_used_by
 m_used_by : mg "used_by" = some (.ref f_used_by)
 b_used_by : Binds K d_used_by ["row","n"] []
 f_used_puts : Addr
 d_used_puts : FuncData
 F_used_puts : Fun K "used_puts" "used_puts" s_used_puts f_used_puts d_used_puts
 m_used_puts : mg "used_puts" = some (.ref f_used_puts)
 b_used_puts : Binds K d_used_puts ["row","states"] []
 f_lies_within : Addr
 d_lies_within : FuncData
 F_lies_within : Fun K "lies_within" "lies_within" s_lies_within f_lies_within d_lies_within
 m_lies_within : mg "lies_within" = some (.ref f_lies_within)
 b_lies_within : Binds K d_lies_within ["place","knot"] []
 f_matched : Addr
 d_matched : FuncData
 F_matched : Fun K "matched" "matched" s_matched f_matched d_matched
 m_matched : mg "matched" = some (.ref f_matched)
 b_matched : Binds K d_matched ["tree","k","many","row"] []
 f_row_by_shelf : Addr
 d_row_by_shelf : FuncData
 F_row_by_shelf : Fun K "row_by_shelf" "row_by_shelf" s_row_by_shelf f_row_by_shelf d_row_by_shelf
 m_row_by_shelf : mg "row_by_shelf" = some (.ref f_row_by_shelf)
 b_row_by_shelf : Binds K d_row_by_shelf ["tree","k","shelf"] []
 f_row_by_boxes : Addr
 d_row_by_boxes : FuncData
 F_row_by_boxes : Fun K "row_by_boxes" "row_by_boxes" s_row_by_boxes f_row_by_boxes d_row_by_boxes
 m_row_by_boxes : mg "row_by_boxes" = some (.ref f_row_by_boxes)
 b_row_by_boxes : Binds K d_row_by_boxes ["tree","k","box","shelf"] []
 f_row_into : Addr
 d_row_into : FuncData
 F_row_into : Fun K "row_into" "row_into" s_row_into f_row_into d_row_into
 m_row_into : mg "row_into" = some (.ref f_row_into)
 b_row_into : Binds K d_row_into ["tree","k","box","shelf"] []
 f_row_for : Addr
 d_row_for : FuncData
 F_row_for : Fun K "row_for" "row_for" s_row_for f_row_for d_row_for
 m_row_for : mg "row_for" = some (.ref f_row_for)
 b_row_for : Binds K d_row_for ["tree","k"] []
 f__law_at : Addr
 d__law_at : FuncData
 F__law_at : Fun K "_law_at" "_law_at" s__law_at f__law_at d__law_at
 m__law_at : mg "_law_at" = some (.ref f__law_at)
 b__law_at : Binds K d__law_at ["script","k"] []
 f__law_names : Addr
 d__law_names : FuncData
 F__law_names : Fun K "_law_names" "_law_names" s__law_names f__law_names d__law_names
 m__law_names : mg "_law_names" = some (.ref f__law_names)
 b__law_names : Binds K d__law_names ["cell","many"] []
 f__law_shape : Addr
 d__law_shape : FuncData
 F__law_shape : Fun K "_law_shape" "_law_shape" s__law_shape f__law_shape d__law_shape
 m__law_shape : mg "_law_shape" = some (.ref f__law_shape)
 b__law_shape : Binds K d__law_shape ["cell","names","deeds"] []
 f__law_any : Addr
 d__law_any : FuncData
 F__law_any : Fun K "_law_any" "_law_any" s__law_any f__law_any d__law_any
 m__law_any : mg "_law_any" = some (.ref f__law_any)
 b__law_any : Binds K d__law_any ["script"] []
 f__law_ranks : Addr
 d__law_ranks : FuncData
 F__law_ranks : Fun K "_law_ranks" "_law_ranks" s__law_ranks f__law_ranks d__law_ranks
 m__law_ranks : mg "_law_ranks" = some (.ref f__law_ranks)
 b__law_ranks : Binds K d__law_ranks ["tree","place"] []
 f__law_deed : Addr
 d__law_deed : FuncData
 F__law_deed : Fun K "_law_deed" "_law_deed" s__law_deed f__law_deed d__law_deed
 m__law_deed : mg "_law_deed" = some (.ref f__law_deed)
 b__law_deed : Binds K d__law_deed ["script","n","names","deeds","k","many"] []
 f__law_knots : Addr
 d__law_knots : FuncData
 F__law_knots : Fun K "_law_knots" "_law_knots" s__law_knots f__law_knots d__law_knots
 m__law_knots : mg "_law_knots" = some (.ref f__law_knots)
 b__law_knots : Binds K d__law_knots ["tree","place"] []
 f__law_marked : Addr
 d__law_marked : FuncData
 F__law_marked : Fun K "_law_marked" "_law_marked" s__law_marked f__law_marked d__law_marked
 m__law_marked : mg "_law_marked" = some (.ref f__law_marked)
 b__law_marked : Binds K d__law_marked ["parts","deed","boxes","shelf"] []
 f__law_wasted : Addr
 d__law_wasted : FuncData
 F__law_wasted : Fun K "_law_wasted" "_law_wasted" s__law_wasted f__law_wasted d__law_wasted
 m__law_wasted : mg "_law_wasted" = some (.ref f__law_wasted)
 b__law_wasted : Binds K d__law_wasted ["script","pot","tree","free"] []
 f__law_used : Addr
 d__law_used : FuncData
 F__law_used : Fun K "_law_used" "_law_used" s__law_used f__law_used d__law_used
 m__law_used : mg "_law_used" = some (.ref f__law_used)
 b__law_used : Binds K d__law_used ["row","n","m"] []
 f__law_counted : Addr
 d__law_counted : FuncData
 F__law_counted : Fun K "_law_counted" "_law_counted" s__law_counted f__law_counted d__law_counted
 m__law_counted : mg "_law_counted" = some (.ref f__law_counted)
 b__law_counted : Binds K d__law_counted ["row","k","tree"] []
 f__law_matched : Addr
 d__law_matched : FuncData
 F__law_matched : Fun K "_law_matched" "_law_matched" s__law_matched f__law_matched d__law_matched
 m__law_matched : mg "_law_matched" = some (.ref f__law_matched)
 b__law_matched : Binds K d__law_matched ["found","row","held","knots"] []
 f_law : Addr
 d_law : FuncData
 F_law : Fun K "law" "law" s_law f_law d_law
 m_law : mg "law" = some (.ref f_law)
 b_law : Binds K d_law ["script"] []
 z_bool : mg "bool" = none
 z_enumerate : mg "enumerate" = none
 z_int : mg "int" = none
 z_isinstance : mg "isinstance" = none
 z_len : mg "len" = none
 z_list : mg "list" = none
 z_max : mg "max" = none
 z_min : mg "min" = none
 z_range : mg "range" = none
 z_reversed : mg "reversed" = none
 z_tuple : mg "tuple" = none
 C_NotHeld : Addr
 m_NotHeld : mg "NotHeld" = some (.ref C_NotHeld)
 x_NotHeld : ErrAt K C_NotHeld
 C_TooFew : Addr
 m_TooFew : mg "TooFew" = some (.ref C_TooFew)
 x_TooFew : ErrAt K C_TooFew
 u_NotHeld_NotHeld : subOf K C_NotHeld C_NotHeld = true
 u_TooFew_NotHeld : subOf K C_TooFew C_NotHeld = false
section
variable {P : Program} {w : World} {K : PySem.W.Frag} {mg : Str → Option Value} {base : Heap}
noncomputable def lawAt (ns : List Int) (k : Nat) : Int :=
 if k < ns.length then ns.getD k 0 else
  let c : Int:=40692 * k + 1
  let c : Int:=if 0 < ns.length then c + ns.getD (k * k % ns.length) 0 % 2147483647 else c
  let c : Int:=c * 48271 % 2147483647
  c * c % 2147483629
noncomputable def spAt (K : PySem.W.Frag) : Sp:=fun vs H Q _=>∃ (a : Addr) (ns : List Int) (k : Int),vs = [.ref a,.int k] ∧ SqL K H a (ns.map V.int) ∧ ns.length ≤ 63 ∧ 0 ≤ k ∧ k < 1000000 ∧ Q (.int (lawAt ns k.toNat)) H
theorem at_int {ns : List Int} {k : Nat} (h : k < ns.length) : atI (ns.map V.int) (k : Int) = some (.int (ns.getD k 0)) :=
 atI_nat (by simp [List.getD,h])
theorem ok_at (T : Txt K mg) : FnOk P w K mg base CX0 1 T.f__law_at T.d__law_at ["script","k"] (spAt K):=by
 refine T.F__law_at.ok (k:=0) sc__law_at (fun vs H Q E h=>?_) (fun cdv A outer s H vs Q E hr h=>?_)
 · obtain ⟨a,ns,k,rfl,_⟩:=h
   rfl
 obtain ⟨a,ns,k,rfl,hS,h63,h0,hk,q⟩:=h
 obtain ⟨k,rfl⟩ : ∃ n : Nat,k = (n : Int):=⟨k.toNat,by (clear hk h63; lia)⟩
 rw [Int.toNat_natCast] at q
 have nd:=sc__law_at.nd
 refine ⟨_,(pss_cons (ps_if (pt_cmpR op_lt (pv 1) (pe_callB call_len_seq rfl T.z_len bt_len (pa_cons (pv 0) pa_nil)) (nomark _)) (pss_one (ps_ret (pe_ix ix_list (pv 0) (pv 1) (fun _ _=>rfl)))) pss_nil)
  (pss_cons (ps_let (i:=2) nd rfl (Or.inl rfl) (pe_op op_add (pe_op op_mul pe_int (pv 1)) pe_int))
  (pss_cons (ps_if (pt_cmpR op_gt (pe_callB call_len_seq rfl T.z_len bt_len (pa_cons (pv 0) pa_nil)) pe_int (nomark _)) (pss_one (ps_let (i:=2) nd rfl (Or.inl rfl) (pe_op op_add (pv 2) (pe_op op_mod (pe_ix ix_list (pv 0) (pe_op op_mod (pe_op op_mul (pv 1) (pv 1)) (pe_callB call_len_seq rfl T.z_len bt_len (pa_cons (pv 0) pa_nil))) (fun _ _=>rfl)) pe_int)))) pss_nil)
  (pss_cons (ps_let (i:=2) nd rfl (Or.inl rfl) (pe_op op_mod (pe_op op_mul (pv 2) pe_int) pe_int))
  (pss_one (ps_ret (pe_op op_mod (pe_op op_mul (pv 2) (pv 2)) pe_int))))))),?_⟩
 refine cutC1 fun C hC=>?_
 walk_at "rd"
 unfold lawAt at q
 refine ex_len hS ?_
 rw [List.length_map]
 refine ite2 (fun c=>?_) (fun c=>?_)
 · have c : k < ns.length:=by simpa using c
   rw [if_pos c] at q
   exact ex_at hS (at_int c) q
 · have c : ¬ k < ns.length:=by simpa using c
   rw [if_neg c] at q
   dsimp only at q
   rw [hC]
   clear hC C
   refine cutC2 fun C hC=>?_
   have tail : ∀ z : Int,Q (.int (z * 48271 % 2147483647 * (z * 48271 % 2147483647) % 2147483629)) H → C [some (.ref a),some (.int k),some (.int z)] H:=by
    intro z hz
    rw [hC]
    clear hC C q
    walk_at "rd"
    exact ⟨by walk_at "cm",by decide,by walk_at "cm",by decide,hz⟩
   walk_at "rd"
   refine ⟨by walk_at "cm",ex_len hS ?_⟩
   rw [List.length_map]
   refine ite2 (fun d=>?_) (fun d=>?_)
   · have d : 0 < ns.length:=by simpa using d
     rw [if_pos d] at q
     have m : k * k % ns.length < ns.length:=Nat.mod_lt _ d
     have e : ((k : Int) * (k : Int) % ((ns.length : Nat) : Int)) = ((k * k % ns.length : Nat) : Int):=by push_cast; rfl
     refine ⟨by walk_at "cm",ex_len hS ?_⟩
     rw [List.length_map,e]
     exact ⟨by (clear h63 h0 hk c m e hC; omega),ex_at hS (at_int m) ⟨_,rfl,by decide,tail _ q⟩⟩
   · have d : ¬ 0 < ns.length:=by simpa using d
     rw [if_neg d] at q
     exact tail _ q
noncomputable def spNames : Sp:=fun vs H Q _=>∃ (c : Int) (many : Nat),vs = [.int c,.int many] ∧ many ≤ 32 ∧ RetL H ((List.range many).map fun k=>D.str (nmS c many k)) Q
theorem ok_names (T : Txt K mg) : FnOk P w K mg base CX0 1 T.f__law_names T.d__law_names ["cell","many"] spNames:=by
 refine T.F__law_names.ok (k:=0) sc__law_names (fun vs H Q E h=>?_) (fun cdv A outer s H vs Q E hr h=>?_)
 · obtain ⟨c,many,rfl,_⟩:=h
   rfl
 obtain ⟨c,many,rfl,hm,q⟩:=h
 have nd:=sc__law_names.nd
 refine ⟨_,(pss_cons (ps_let (i:=2) nd rfl (Or.inl rfl) pe_str)
  (pss_cons (ps_let (i:=3) nd rfl (Or.inl rfl) (pe_op op_add pe_int (pe_op op_mod (pe_op op_fdiv (pv 0) pe_int) (pe_ix ixF (pe_lst (pa_cons pe_int (pa_cons pe_int pa_nil))) (pe_callTy call_intB rfl T.z_int bt_int (pa_cons (pe_cmpR op_gt (pv 1) pe_int (nomark _)) pa_nil)) (fun _ _=>rfl)))))
  (pss_cons (ps_let (i:=4) nd rfl (Or.inl rfl) (pe_lst pa_nil))
  (pss_cons (ps_for PassesOwn.never rfl (pi_range1 rfl T.z_range (pa_cons (pv 1) pa_nil)) (pg_name (i:=5) nd rfl (Or.inl rfl)) (pss_cons (ps_let (i:=6) nd rfl (Or.inl rfl) (pe_op op_rep (pe_lst (pa_cons (pe_ix ix_str (pv 2) (pe_op op_mod (pv 0) pe_int) (fun _ _=>rfl)) pa_nil)) (pv 3)))
    (pss_cons (ps_asg (pe_ix ix_str (pv 2) (pe_op op_mod (pe_op op_add (pe_op op_add (pv 0) pe_int) (pe_op op_mod (pv 5) pe_int)) pe_int) (fun _ _=>rfl)) (pg_sub (pv 6) (pe_op op_mod (pe_op op_fdiv (pv 0) pe_int) (pv 3)) set_list))
    (pss_cons (ps_if (pt_cmpR op_gt (pv 5) pe_int (nomark _)) (pss_one (ps_expr (pe_bm PySem.F.plainAttrs_list PySem.F.slot_list_append PySem.F.type_list_append mt_append (pv 6) (pa_cons (pe_ix ix_str (pv 2) (pe_op op_mod (pv 0) pe_int) (fun _ _=>rfl)) pa_nil)))) pss_nil)
    (pss_cons (ps_if (PW.pt (pw_and (pt_cmpR op_eq (pe_op op_mod (pe_op op_fdiv (pv 0) pe_int) pe_int) pe_int (nomark _)) (pw_and1 (pt_cmpR op_le (pv 1) pe_int (nomark _))))) (pss_one (ps_let (i:=6) nd rfl (Or.inl rfl) (pe_op op_rep (pe_lst (pa_cons (pe_ix ix_str (pv 2) (pe_op op_mod (pv 0) pe_int) (fun _ _=>rfl)) pa_nil)) (pe_op op_add pe_int (pe_op op_mod (pe_op op_add (pv 0) (pv 5)) pe_int))))) pss_nil)
    (pss_one (ps_expr (pe_bm PySem.F.plainAttrs_list PySem.F.slot_list_append PySem.F.type_list_append mt_append (pv 4) (pa_cons (pe_bm PySem.F.plainAttrs_str PySem.F.slot_str_join PySem.F.type_str_join mt_join pe_str (pa_cons (pv 6) pa_nil)) pa_nil)))))))))
  (pss_one (ps_ret (pv 4))))))),?_⟩
 walk_at "rd"
 refine ⟨⟨by decide,by decide⟩,by decide,NewO.mk fun p1 H1 S1 n1 e1=>?_⟩
 walk_at "rd"
 have hz : atI [V.int 8,V.int 7] (if decide (24 < (many : Int)) = true then 1 else 0) = some (.int (if 24 < many then 7 else 8)):=by
  by_cases h : 24 < many
  · rw [if_pos (decide_eq_true (by (clear hm n1 e1; omega))),if_pos h]; exact atI_1
  · rw [if_neg (by simp; (clear hm n1 e1; omega)),if_neg h]; exact atI_0
 refine ⟨_,items_l e1,_,hz,_,rfl,by split <;> decide,Nat.zero_le _,NewO.mk fun p2 H2 S2 n2 e2=>?_⟩
 have S:=S1.trans S2
 have n0 : H p2 = none:=S1.free n2
 have hsz : (1 + c / 26 % (if 24 < many then 7 else 8) : Int) = (M.nmSize c many : Nat):=by
  unfold M.nmSize
  have : (0 : Int) < (if 24 < many then 7 else 8):=by split <;> decide
  have:=Int.emod_nonneg (c / 26) (show (if 24 < many then 7 else 8 : Int) ≠ 0 by omega)
  push_cast
  (clear hm n1 e1 hz n2 e2 n0; lia)
 rw [hsz]
 have s1:=M.nmSize_lo c many
 have s2:=(M.nmSize_hi c many).1
 generalize hsize : M.nmSize c many = size at hsz s1 s2
 refine ⟨by (clear hm n1 e1 hz n2 e2 n0 hsize hsz s1 s2; lia),by omega,?_⟩
 rw [Int.toNat_natCast]
 refine forR (fun i σ H'=>∃ (o5 o6 : Option V),i ≤ many ∧ Same H H' ∧ H' p2 = some (.lst ((List.range i).map fun k=>V.str (nmS c many k))) ∧
  σ = [some (.int c),some (.int many),some (.str LETT),some (.int size),some (.ref p2),o5,o6]) ⟨none,none,Nat.zero_le _,S,e2,rfl⟩ ?_ ?_
 · rintro i σ H3 hi ⟨o5,o6,_,S3,e3,rfl⟩
   simp only [a_gName]
   refine cutC2 fun C hC=>?_
   walk_at "rd"
   have hk : ((c + 1 + (0 + (i : Int)) % 24) % 26) = (c + 1 + ((i % 24 : Nat) : Int)) % 26:=by push_cast; (clear hm n1 e1 hz n2 e2 n0 hsize hsz s1 s2 hi e3 hC; lia)
   refine ⟨by decide,lett_big,_,lett_c c,by decide,NewO.mk fun p4 H4 S4 n4 e4=>⟨p4,rfl,_,e4,by (clear hm n1 e1 hz n2 e2 n0 hsize hsz s1 s2 hi e3 hC hk n4 e4; lia),by (clear hm n1 e1 hz n2 e2 n0 hsize hsz hk n4 e4 e3 hC hi s1; omega),small_le (by simp; (clear hm n1 e1 hz n2 e2 n0 hsize hsz hk n4 e4 e3 hC hi s1; lia)),NewO.mk fun p5 H5 S5 n5 e5=>?_⟩⟩
   rw [Int.toNat_natCast,rep_one] at e5
   rw [hk]
   have hpos:=M.pos_lt c size s1
   have hp0 : 0 ≤ c / 208 % (size : Int):=Int.emod_nonneg _ (by (clear s2 hi e3 hC hk n4 e4 n5 e5 hpos hm n1 e1 hz n2 e2 n0 hsize hsz; omega))
   refine ⟨by decide,by decide,lett_big,_,lett_c _,⟨by decide,by decide⟩,by (clear hi e3 hC hk n4 e4 n5 e5 hpos hp0 hm n1 e1 hz n2 e2 n0 hsize hsz s2; omega),p5,rfl,_,e5,_,ixN_int hp0 (by simp; (clear hm n1 e1 hz n2 e2 n0 hsize hsz s1 s2 hi e3 hC hk n4 e4 hp0 n5 e5; lia)),PutO.mk fun H6 k6 e6=>?_⟩
   have e25 : p2 ≠ p5:=ne_of_none (S4 _ _ e3) n5
   have S6 : Same H H6:=Same.put_new ((S3.trans S4).trans S5) ((S3.trans S4).free n5) k6
   have f6 : H6 p2 = some (.lst ((List.range i).map fun k=>V.str (nmS c many k))):=by
    rw [k6 _ e25]; exact S5 _ _ (S4 _ _ e3)
   have e6' : H6 p5 = some (.lst (((List.replicate size (M.let26 c)).set (c / 208 % (size : Int)).toNat (M.let26 (c + 1 + ((i % 24 : Nat) : Int)))).map fun x=>V.str ⟨#[x]⟩)):=by
    rw [e6,List.map_set,List.map_replicate]
   have n5':=(S3.trans S4).free n5
   clear e6 k6 e5 e4 n4 n5 S5 S4 S3 hpos hk
   generalize hW : (List.replicate size (M.let26 c)).set (c / 208 % (size : Int)).toNat (M.let26 (c + 1 + ((i % 24 : Nat) : Int))) = W at e6'
   have lW : W.length = size:=by rw [← hW]; simp
   have nm0 : ¬ (c / 1664 % 3 = 0 ∧ many ≤ 8) → ¬ 23 < i → M.nm c many i = W:=fun h1 h2=>by
    unfold M.nm; rw [if_neg h1,hsize,if_neg h2,hW]
   have nm1 : ¬ (c / 1664 % 3 = 0 ∧ many ≤ 8) → 23 < i → M.nm c many i = W ++ [M.let26 c]:=fun h1 h2=>by
    unfold M.nm; rw [if_neg h1,hsize,if_pos h2,hW]
   have nm2 : (c / 1664 % 3 = 0 ∧ many ≤ 8) → M.nm c many i = List.replicate (1 + ((c + i) % 8).toNat) (M.let26 c):=fun h1=>by
    unfold M.nm; rw [if_pos h1]
   clear hW hp0
   rw [hC]
   clear hC C
   refine cutC1 fun C hC=>?_
   have tail : ∀ (l : List Nat) (H7 : Hp),Same H H7 → H7 p2 = some (.lst ((List.range i).map fun k=>V.str (nmS c many k))) → H7 p5 = some (.lst (l.map fun x=>V.str ⟨#[x]⟩)) → l.length ≤ size + 1 → (¬ (c / 1664 % 3 = 0 ∧ many ≤ 8) → M.nm c many i = l) →
    C [some (.int c),some (.int many),some (.str LETT),some (.int size),some (.ref p2),some (.int (0 + i)),some (.ref p5)] H7:=by
    intro l H7 S7 f7 e7 ll hnm
    rw [hC]
    clear hC C nm0 nm1 e6' f6 S6
    refine cutC1 fun C hC=>?_
    have fin : ∀ (l' : List Nat) (p' : Addr) (H8 : Hp),Same H H8 → H8 p2 = some (.lst ((List.range i).map fun k=>V.str (nmS c many k))) → H8 p' = some (.lst (l'.map fun x=>V.str ⟨#[x]⟩)) → l'.length ≤ 1000 → M.nm c many i = l' →
     C [some (.int c),some (.int many),some (.str LETT),some (.int size),some (.ref p2),some (.int (0 + i)),some (.ref p')] H8:=by
     intro l' p' H8 S8 f8 e8 ll' hl
     rw [hC]
     walk_at "rd"
     refine app_join f8 e8 (by simp; (clear e25 n5' lW nm2 f7 e7 ll hnm hC f8 e8 ll' hl hsize hsz s1 s2 hi e3 n2 e2 n0 e1 hz n1; lia)) ll' fun H9 k9 e9=>⟨hi,Same.put_new S8 n0 k9,?_,_,rfl⟩
     rw [e9,List.range_succ,List.map_append,← hl]; rfl
    walk_at "rd"
    refine ⟨⟨by decide,by decide⟩,by decide,ite2 (fun c2=>ite2 (fun c3=>?_) (fun c3=>fin l p5 H7 S7 f7 e7 (by (clear hm n1 e1 hz n2 e2 e3 e25 n5' lW nm2 f7 n0 hsize hsz hC c2 c3 hi e7 s1 hnm; lia)) (hnm fun z=>c3 (decide_eq_true (by (clear hm n1 e1 hz n2 e2 n0 hsize hsz s1 s2 hi e3 e25 n5' lW nm2 f7 e7 ll hnm hC c2 c3; lia)))))) (fun c2=>fin l p5 H7 S7 f7 e7 (by (clear hm n1 e1 hz n2 e2 e3 e25 n5' lW nm2 f7 n0 hsize hsz hC c2 hi e7 s1 hnm; lia)) (hnm fun z=>c2 (decide_eq_true z.1)))⟩
    have c2:=of_decide_eq_true c2
    have c3 : many ≤ 8:=by have:=of_decide_eq_true c3; (clear hm n1 e1 hz n2 e2 n0 hsize hsz s1 s2 hi e3 e25 n5' lW nm2 f7 e7 ll hnm hC c3 c2; lia)
    have hn : (1 + (c + (0 + (i : Int))) % 8).toNat = 1 + ((c + i) % 8).toNat:=by (clear hm n1 e1 hz n2 e2 n0 hsize hsz s1 s2 hi e3 e25 n5' lW nm2 f7 e7 ll hnm hC c2 c3; lia)
    refine ⟨by decide,lett_big,_,lett_c c,by decide,NewO.mk fun p7 H8 S8 n8 e8=>⟨by decide,p7,rfl,_,e8,by (clear hm n1 e1 hz n2 e2 n0 hsize hsz s1 s2 hi e3 e25 n5' lW nm2 f7 e7 ll hnm hC c2 c3 hn n8 e8; omega),by (clear hm n1 e1 hz n2 e2 n0 hsize hsz s1 s2 hi e3 e25 n5' lW nm2 f7 e7 ll hnm hC c2 c3 hn n8 e8; omega),small_le (by simp; (clear hm n1 e1 hz n2 e2 n0 hsize hsz s1 s2 hi e3 e25 n5' lW nm2 f7 e7 ll hnm hC c2 c3 hn n8 e8; omega)),NewO.mk fun p8 H9 S9 n9 e9=>?_⟩⟩
    rw [hn,rep_one] at e9
    exact fin (List.replicate (1 + ((c + i) % 8).toNat) (M.let26 c)) p8 H9 ((S7.trans S8).trans S9) (S9 _ _ (S8 _ _ f7)) (by rw [e9,List.map_replicate]) (by simp; (clear hm n1 e1 hz n2 e2 n0 hsize hsz s1 s2 hi e3 e25 n5' lW nm2 f7 e7 ll hnm hC c2 c3 hn n8 e8 n9 e9; omega)) (nm2 ⟨c2,c3⟩)
   walk_at "rd"
   refine ite2 (fun c1=>?_) (fun c1=>?_)
   · have c1 : 23 < i:=by have:=of_decide_eq_true c1; (clear hm n1 e1 hz n2 e2 n0 hsize hsz s1 s2 hi e3 e25 f6 n5' e6' lW nm0 nm1 nm2 hC c1; omega)
     exact ⟨ty_lst e6',by decide,lett_big,_,lett_c c,_,e6',small_size (by simp; (clear hm n1 e1 hz n2 e2 nm0 nm1 nm2 hC c1 n0 hsize hsz e3 e25 f6 hi n5' s1 e6'; lia)),PutO.mk fun H7 k7 e7=>tail (W ++ [M.let26 c]) H7 (Same.put_new S6 n5' k7) (by rw [k7 _ e25]; exact f6) (by rw [e7,List.map_append]; rfl) (by simp; (clear hm n1 e1 hz n2 e2 n0 hsize hsz s1 s2 hi e3 e25 f6 hC c1 e7 n5' e6' nm1 nm2; lia)) (fun h=>nm1 h c1)⟩
   · have c1 : ¬ 23 < i:=fun z=>c1 (decide_eq_true (by (clear hm n1 e1 hz n2 e2 n0 hsize hsz s1 s2 hi e3 e25 f6 n5' e6' lW nm0 nm1 nm2 hC c1; omega)))
     exact tail W H6 S6 f6 e6' (by (clear hm n1 e1 hz n2 e2 n0 hsize hsz s1 s2 hi e3 e25 f6 hC c1 n5' e6' nm1 nm2; lia)) (fun h=>nm0 h c1)
 · rintro σ H3 ⟨o5,o6,_,S3,e3,rfl⟩
   walk_at "rd"
   refine q p2 _ _ S3 n0 e3 ?_
   have : ∀ (l : List Nat),Dts H3 (l.map fun k=>D.str (nmS c many k)) (l.map fun k=>V.str (nmS c many k)):=fun l=>by
    induction l with
    | nil=>exact .nil
    | cons k r ih=>exact .cons (isD_str.mpr rfl) ih
   exact this _
noncomputable def sumL (ts : List L2.Tree) : List Str:=ts.flatMap M.Tr.lv
theorem sumL_app (a b : List L2.Tree) : sumL (a ++ b) = sumL a ++ sumL b:=List.flatMap_append
theorem sumL_merge {ts : List L2.Tree} {p : Nat} {x y : L2.Tree} (hx : ts[p]? = some x) (hy : ts[p + 1]? = some y) (f : Str) : sumL (ts.take p ++ [.knot f x y] ++ ts.drop (p + 2)) = sumL ts:=by
 obtain ⟨h1,e1⟩:=List.getElem?_eq_some_iff.mp hx
 obtain ⟨h2,e2⟩:=List.getElem?_eq_some_iff.mp hy
 have : ts = ts.take p ++ [x,y] ++ ts.drop (p + 2):=by
  conv=>lhs; rw [← List.take_append_drop p ts]
  rw [List.append_assoc,List.drop_eq_getElem_cons h1,List.drop_eq_getElem_cons h2,e1,e2]
  rfl
 conv=>rhs; rw [this]
 simp only [sumL_app]
 simp [sumL,M.Tr.lv]
theorem sumL_leaves : ∀ names : List Str,sumL (names.map M.Tr.leaf) = names
 | []=>rfl
 | x :: r=>by
  have:=sumL_leaves r
  unfold sumL at this ⊢
  rw [List.map_cons,List.flatMap_cons,this]
  rfl
noncomputable def spShape : Sp:=fun vs H Q _=>∃ (cell : Int) (pn pd : Addr) (names deeds : List Str),vs = [.int cell,.ref pn,.ref pd] ∧ H pn = some (.lst (names.map V.str)) ∧ 1 ≤ names.length ∧ names.length ≤ 12 ∧ H pd = some (.lst (deeds.map V.str)) ∧ deeds.length = 3 ∧ ∀ t v H',Same H H' → Dt H' (dT t) v → t.lv = names → Q v H'
seal PSs PS PE PT PA PI PIfs in
theorem ok_shape (T : Txt K mg) : FnOk P w K mg base CX0 1 T.f__law_shape T.d__law_shape ["cell","names","deeds"] spShape:=by
 refine T.F__law_shape.ok (k:=0) sc__law_shape (fun vs H Q E h=>?_) (fun cdv A outer s H vs Q E hr h=>?_)
 · obtain ⟨cell,pn,pd,names,deeds,rfl,_⟩:=h
   rfl
 obtain ⟨cell,pn,pd,names,deeds,rfl,en,hn1,hn2,ed,hdl,q⟩:=h
 have nd:=sc__law_shape.nd
 refine ⟨_,(pss_cons (ps_letC (i:=3) (N:=["x"]) (caps:=[]) rfl ⟨rfl,rfl,rfl,rfl,by decide +kernel,rfl,rfl,rfl,rfl⟩ (piL (pv 1)) (fun _ _ _ _=>pif_nil) (fun _ _ _ _=>(pe_tup (pa_cons pe_str (pa_cons (pv 0) pa_nil)))) nd rfl rfl rfl)
  (pss_cons (ps_while PassesOwn.never (pt_cmpR op_gt (pe_callB lenG rfl T.z_len bt_len (pa_cons (pv 3) pa_nil)) pe_int (nomark _)) (pss_cons (ps_let (i:=4) nd rfl (Or.inl rfl) (pe_op op_mod (pv 0) (pe_op op_sub (pe_callB lenG rfl T.z_len bt_len (pa_cons (pv 3) pa_nil)) pe_int)))
    (pss_cons (ps_let (i:=0) nd rfl (Or.inl rfl) (pe_op op_fdiv (pv 0) (pe_op op_sub (pe_callB lenG rfl T.z_len bt_len (pa_cons (pv 3) pa_nil)) pe_int)))
    (pss_cons (ps_let (i:=5) nd rfl (Or.inl rfl) (pe_tup (pa_cons pe_str (pa_cons (pe_ix ixF (pv 2) (pe_op op_mod (pv 0) pe_int) (fun _ _=>rfl)) (pa_cons (pe_ix ixF (pv 3) (pv 4) (fun _ _=>rfl)) (pa_cons (pe_ix ixF (pv 3) (pe_op op_add (pv 4) pe_int) (fun _ _=>rfl)) pa_nil))))))
    (pss_cons (ps_let (i:=0) nd rfl (Or.inl rfl) (pe_op op_fdiv (pv 0) pe_int))
    (pss_one (ps_let (i:=3) nd rfl (Or.inl rfl) (pe_op op_cat (pe_op op_cat (pe_slice slLG (pv 3) po_none (po_some (pv 4))) (pe_lst (pa_cons (pv 5) pa_nil))) (pe_slice slLG (pv 3) (po_some (pe_op op_add (pv 4) pe_int)) po_none)))))))))
  (pss_one (ps_ret (pe_ix ixF (pv 3) pe_int (fun _ _=>rfl)))))),?_⟩
 refine cutC1 fun C hC=>?_
 walk_at "rd"
 refine WalkL.comp en (fun i ys H'=>Dts H' ((names.take i).map fun x=>dT (.leaf x)) ys ∧ i ≤ names.length) ⟨.nil,Nat.zero_le _⟩ (by simp; lia) (fun i ys H' h=>by have:=h.1.length; simp at this; (clear en hn1 hdl hC hn2 ed h; lia)) (fun i x ys H' ex S' h=>?_) (fun p ys H3 H4 S3 S4 h np ep=>?_)
 · have hi : i < names.length:=by have:=(List.getElem?_eq_some_iff.mp ex).1; simpa using this
   have e0:=List.getElem?_eq_getElem hi
   rw [List.getElem?_map,e0] at ex
   cases ex
   walk_at "rd"
   refine ⟨by decide,NewO.mk fun p1 H5 S5 n5 e5=>⟨S'.trans S5,?_,hi⟩⟩
   rw [List.take_add_one,e0]
   simp only [Option.toList_some,List.map_append,List.map_cons,List.map_nil]
   exact (h.1.same S5).append (.one (leaf_mk e5))
 have D4:=h.1.same S4
 rw [List.length_map,List.take_length] at D4
 have S04:=S3.trans S4
 rw [hC]
 clear hC C
 refine cutC1 fun C hC=>?_
 walk_at "rd"
 obtain ⟨W,hW⟩ : ∃ W : Nat → St → Hp → Prop,∀ m σ H',W m σ H' ↔ ∃ (ts : List L2.Tree) (vs : List V) (pt : Addr) (cl : Int) (o4 o5 : Option V),m = ts.length ∧ sumL ts = names ∧ 1 ≤ ts.length ∧ ts.length ≤ 12 ∧ Same H H' ∧ H' pt = some (.lst vs) ∧ Dts H' (ts.map dT) vs ∧
  σ = [some (V.int cl),some (V.ref pn),some (V.ref pd),some (V.ref pt),o4,o5]:=⟨_,fun _ _ _=>Iff.rfl⟩
 refine ⟨W,⟨_,(hW _ _ _).mpr ⟨names.map M.Tr.leaf,ys,p,cell,none,none,rfl,sumL_leaves names,by simpa using hn1,by simpa using hn2,S04,ep,by rw [List.map_map]; exact D4,rfl⟩⟩,?_⟩
 intro m σ H5 hw
 obtain ⟨ts,vs,pt,cl,o4,o5,rfl,hsum,h1,h12,S5,et,Dv,rfl⟩:=(hW _ _ _).mp hw
 have lv : vs.length = ts.length:=by have:=Dv.length; simpa using this
 simp only [a_tTest,a_tOp,a_rI0,a_tCB,a_tCons,a_tNil,a_tVar,a_tC,a_rLenF,List.getElem?_cons_zero,List.getElem?_cons_succ,Option.some.injEq,exists_eq_left',V.bl.injEq,V.int.injEq,V.ref.injEq,List.cons.injEq,and_true,exists_and_left,exists_eq_left]
 refine ⟨_,items_l et,ite2 (fun c1=>?_) (fun c1=>?_)⟩
 · have c1 : 1 < ts.length:=by have:=of_decide_eq_true c1; (clear en hn1 hn2 ed hdl h np ep hC hsum h1 h12 et c1; omega)
   refine ⟨fun σ' H'=>∃ m',m' < ts.length ∧ W m' σ' H',fun σ' H' z=>z,?_⟩
   refine cutC4 fun C hC=>?_
   walk_at "rd"
   have he:=items_l et
   obtain ⟨p,hpI,hp1⟩ : ∃ p : Nat,cl % (((vs.length : Nat) : Int) - 1) = p ∧ p + 1 < ts.length:=by
    have h1:=Int.emod_nonneg cl (show (((vs.length : Nat) : Int) - 1) ≠ 0 by (clear en hn1 hn2 ed hdl h np ep hsum h1 h12 et hC he; lia))
    have h2:=Int.emod_lt_of_pos cl (show 0 < (((vs.length : Nat) : Int) - 1) by (clear en hn1 hn2 ed hdl h np ep hsum h12 he h1 et hC; omega))
    exact ⟨(cl % (((vs.length : Nat) : Int) - 1)).toNat,by (clear en hn1 hn2 ed hdl h np ep hsum h12 et lv c1 hC h2 he; lia),by (clear en hn1 hn2 ed hdl h np ep hsum c1 hC he h12 et; lia)⟩
   obtain ⟨ta,ha⟩ : ∃ t,ts[p]? = some t:=⟨_,List.getElem?_eq_getElem (by (clear en hn1 hn2 ed hdl h np ep hsum h1 h12 et lv c1 hC he hpI; lia))⟩
   obtain ⟨tb,hb⟩ : ∃ t,ts[p + 1]? = some t:=⟨_,List.getElem?_eq_getElem (by omega)⟩
   obtain ⟨va,hva,da⟩:=Dts.map_of Dv ha
   obtain ⟨vb,hvb,db⟩:=Dts.map_of Dv hb
   refine ⟨_,he,by (clear en hn1 hn2 ed hdl h np ep hsum h1 h12 hp1 ha hb hva hvb hC he hpI et; lia),_,he,⟨by (clear en hn1 hn2 ed hdl h np ep hsum h1 h12 hp1 ha hb hva hvb hC he hpI et; lia),by (clear en hn1 hn2 ed hdl h ha hb hva hvb np ep hsum he hpI hp1 c1 hC h1 et; lia)⟩,?_⟩
   rw [hpI]
   generalize cl / (((vs.length : Nat) : Int) - 1) = cm
   obtain ⟨y,hy⟩ : ∃ y,deeds[(cm % 3).toNat]? = some y:=⟨_,List.getElem?_eq_getElem (by (clear et lv c1 hC he hpI hp1 ha hb hva hvb np ep hsum h1 h12 en hn1 hn2 h ed; lia))⟩
   refine ⟨by decide,_,items_l (S5 _ _ ed),.str y,atI_int (by (clear en hn1 hn2 ed hdl h np ep hsum h1 h12 et lv c1 hC he hpI hp1 ha hb hva hvb hy; lia)) (by rw [List.getElem?_map,hy]; rfl),_,he,va,atI_nat hva,_,he,vb,atI_int (by (clear en hn1 hn2 ed hdl h np ep hsum h1 h12 et lv c1 hC he hpI hp1 ha hb hva hvb hy; lia)) (by rw [show ((p : Int) + 1).toNat = p + 1 by (clear en hn1 hn2 ed hdl h np ep hsum h1 h12 et lv c1 hC he hpI hp1 ha hb hva hvb hy; lia)]; exact hvb),by decide,NewO.mk fun p7 H7 S7 n7 e7=>⟨⟨by decide,by decide⟩,?_⟩⟩
   rw [hC]
   clear hC C
   walk_at "rd"
   refine ⟨_,S7 _ _ et,?_⟩
   rw [cutV_to (by (clear en hn1 hn2 ed hdl h np ep hC hsum h1 h12 et hva hvb hy n7 e7 he hpI hb c1 ha; lia))]
   refine NewO.mk fun p8 H8 S8 n8 e8=>⟨by decide,NewO.mk fun p9 H9 S9 n9 e9=>⟨p8,rfl,p9,rfl,_,S9 _ _ e8,_,e9,small_le (by simp; (clear he hpI hp1 ha hb hva hvb hy n7 e7 n8 e8 n9 e9 en hn1 hn2 ed hdl h np ep hC hsum c1 h1 et; lia)),NewO.mk fun pA HA SA nA eA=>?_⟩⟩
   refine ⟨_,SA _ _ (S9 _ _ (S8 _ _ (S7 _ _ et))),?_⟩
   have ep2 : (p : Int) + 2 = ((p + 2 : Nat) : Int):=by (clear en hn1 hn2 ed hdl h np ep hC hsum h1 h12 et lv c1 he hpI hp1 ha hb hva hvb hy n7 e7 n8 e8 n9 e9 nA eA; lia)
   rw [ep2,cutV_from (by (clear en hn1 hn2 ed hdl h np ep e7 n8 e8 n9 e9 nA eA ep2 hC hsum h1 h12 hva hvb hy n7 c1 he ha hb et hpI; lia))]
   refine NewO.mk fun pB HB SB nB eB=>⟨pA,rfl,pB,rfl,_,SB _ _ eA,_,eB,small_le (by simp; (clear en hn1 hn2 ed hdl h np ep hC ha hb hva hvb hy n7 e7 n8 e8 n9 e9 nA eA ep2 nB eB hsum h1 he hpI et c1; lia)),NewO.mk fun pC HC SC nC eC=>?_⟩
   have S7C:=((((S8.trans S9).trans SA).trans SB).trans SC)
   have S5C:=S7.trans S7C
   have kd : Dt HC (dT (.knot y ta tb)) (.ref p7):=knot_mk (S7C _ _ e7) (da.same S5C) (db.same S5C)
   have DvC:=Dv.same S5C
   refine ⟨ts.length - 1,by (clear ha hb hva hvb hy n7 e7 n8 e8 n9 e9 nA eA ep2 nB eB nC eC en hn1 hn2 ed hdl h np ep hC hsum h1 h12 et lv hp1 hpI he; omega),(hW _ _ _).mpr ⟨ts.take p ++ [.knot y ta tb] ++ ts.drop (p + 2),_,pC,_,_,_,?_,by rw [sumL_merge ha hb]; exact hsum,?_,?_,S5.trans S5C,eC,?_,rfl⟩⟩
   · simp; (clear en hn1 hn2 ed hdl h np ep hC n9 e9 nA eA ep2 nB eB nC eC hsum h1 h12 et lv hb hva hvb hy n7 e7 n8 e8 c1 he hpI ha; lia)
   · simp; (clear en hn1 hn2 ed hdl h np ep hC hsum h1 h12 et lv c1 he hpI hp1 ha hb hva hvb hy n7 e7 n8 e8 n9 e9 nA eA ep2 nB eB nC eC; lia)
   · simp; (clear ha hb hva hvb hy n7 e7 n8 e8 n9 e9 nA eA ep2 nB eB nC eC en hn1 hn2 ed hdl h np ep hC et lv c1 hsum h1 he hpI; omega)
   · rw [List.map_append,List.map_append,List.map_take,List.map_drop]
     exact ((DvC.take p).append (.one kd)).append (DvC.drop (p + 2))
 · have c1 : ts.length = 1:=by have : ¬ 1 < ts.length:=fun z=>c1 (decide_eq_true (by (clear en hn1 hn2 ed hdl h np ep hC hsum h1 h12 et c1; omega))); (clear en hn1 hn2 ed hdl h np ep et lv hsum h12 c1; lia)
   obtain ⟨t,rfl⟩:=List.length_eq_one_iff.mp c1
   obtain ⟨v,hv,hd⟩:=Dts.get (i:=0) Dv rfl
   rw [hC]
   walk_at "rd"
   refine ⟨_,items_l et,v,atI_int (by decide) hv,q t v H5 S5 hd ?_⟩
   simpa [sumL] using hsum
noncomputable def spAny (K : PySem.W.Frag) : Sp:=fun vs H Q _=>∃ (a : Addr) (ns : List Int),vs = [.ref a] ∧ SqL K H a (ns.map V.int) ∧ ns.length ≤ 63 ∧ ∀ (t : L2.Tree) (v : V) (p pn pd : Addr) (names deeds : List Str) H',Same H H' → H' p = some (.tup [v,.ref pn,.ref pd]) → Dt H' (dT t) v → t.lv.length ≤ 12 → t.lv.Nodup → H' pn = some (.lst (names.map V.str)) → 1 ≤ names.length → names.length ≤ 12 → H' pd = some (.lst (deeds.map V.str)) → deeds.length = 3 → Q (.ref p) H'
seal PSs PS PE PT PA PI PIfs in
theorem ok_any (T : Txt K mg) : FnOk P w K mg base CX0 3 T.f__law_any T.d__law_any ["script"] (spAny K):=by
 refine T.F__law_any.ok (k:=2) sc__law_any (fun vs H Q E h=>?_) (fun cdv A outer s H vs Q E hr h=>?_)
 · obtain ⟨a,ns,rfl,_⟩:=h
   rfl
 obtain ⟨a,ns,rfl,hS,h63,q⟩:=h
 have nd:=sc__law_any.nd
 have G__law_at:=(ok_at (P:=P) (w:=w) (base:=base) T).mono (k:=2) (by omega)
 have G__law_names:=(ok_names (P:=P) (w:=w) (base:=base) T).mono (k:=2) (by omega)
 have G__law_shape:=(ok_shape (P:=P) (w:=w) (base:=base) T).mono (k:=2) (by omega)
 refine ⟨_,(pss_cons (ps_let (i:=1) nd rfl (Or.inl rfl) (pe_op op_add pe_int (pe_op op_mod (pe_call G__law_at hr rfl T.m__law_at T.F__law_at.kp T.b__law_at .nil pass0 (pa_cons (pv 0) (pa_cons pe_int pa_nil))) pe_int)))
  (pss_cons (ps_let (i:=2) nd rfl (Or.inl rfl) (pe_call G__law_names hr rfl T.m__law_names T.F__law_names.kp T.b__law_names .nil pass0 (pa_cons (pe_call G__law_at hr rfl T.m__law_at T.F__law_at.kp T.b__law_at .nil pass0 (pa_cons (pv 0) (pa_cons pe_int pa_nil))) (pa_cons (pv 1) pa_nil))))
  (pss_cons (ps_let (i:=3) nd rfl (Or.inl rfl) (pe_call G__law_names hr rfl T.m__law_names T.F__law_names.kp T.b__law_names .nil pass0 (pa_cons (pe_call G__law_at hr rfl T.m__law_at T.F__law_at.kp T.b__law_at .nil pass0 (pa_cons (pv 0) (pa_cons pe_int pa_nil))) (pa_cons pe_int pa_nil))))
  (pss_one (ps_ret (pe_tup (pa_cons (pe_call G__law_shape hr rfl T.m__law_shape T.F__law_shape.kp T.b__law_shape .nil pass0 (pa_cons (pe_call G__law_at hr rfl T.m__law_at T.F__law_at.kp T.b__law_at .nil pass0 (pa_cons (pv 0) (pa_cons pe_int pa_nil))) (pa_cons (pv 2) (pa_cons (pv 3) pa_nil)))) (pa_cons (pv 2) (pa_cons (pv 3) pa_nil))))))))),?_⟩
 walk_at "rd"
 refine ⟨a,ns,0,rfl,hS,h63,by decide,by decide,?_⟩
 generalize lawAt ns (0 : Int).toNat = c0
 refine ⟨_,rfl,by decide,?_⟩
 obtain ⟨many,hmany⟩ : ∃ m : Nat,(1 + c0 % 12 : Int) = m:=⟨(1 + c0 % 12).toNat,by (clear h63; lia)⟩
 rw [hmany]
 refine ⟨a,ns,1,rfl,hS,h63,by decide,by decide,?_⟩
 generalize lawAt ns (1 : Int).toNat = c1
 refine ⟨c1,many,rfl,by (clear h63; lia),fun pn nv H1 S1 n1 e1 D1=>?_⟩
 refine ⟨a,ns,2,rfl,S1.seq hS,h63,by decide,by decide,?_⟩
 generalize lawAt ns (2 : Int).toNat = c2
 refine ⟨c2,3,rfl,by decide,fun pd dv H2 S2 n2 e2 D2=>?_⟩
 have hnv:=D1.strs
 have hdv:=D2.strs
 subst hnv hdv
 refine ⟨a,ns,3,rfl,(S1.trans S2).seq hS,h63,by decide,by decide,?_⟩
 generalize lawAt ns (3 : Int).toNat = c3
 refine ⟨c3,pn,pd,_,_,rfl,S2 _ _ e1,by simp; (clear n2 e1 e2 n1 h63; lia),by simp; (clear n2 e1 e2 n1 h63; lia),e2,by simp,fun t v H3 S3 dt hl=>⟨by decide,NewO.mk fun p H4 S4 n4 e4=>?_⟩⟩
 exact q t v p pn pd _ _ H4 (((S1.trans S2).trans S3).trans S4) e4 (dt.same S4) (by rw [hl]; simp; lia) (by rw [hl]; exact M.range_map_nodup fun _ _ hi hj e=>nmS_inj (by (clear hl n4 e4 hi hj e n2 e1 e2 n1 h63; lia)) hi hj e) ((S3.trans S4) _ _ (S2 _ _ e1)) (by simp; (clear e2 hl n4 e4 n2 e1 n1 h63; lia)) (by simp; lia) ((S3.trans S4) _ _ e2) (by simp)
noncomputable def spLeaf : Sp:=fun vs H Q _=>∃ (t : L2.Tree) (v : V),vs = [v] ∧ Dt H (dT t) v ∧ Q (.bl t.isL) H
theorem kind_leaf (t : L2.Tree) : decide ((if t.isL = true then Str.ofString "leaf" else Str.ofString "knot") = Str.ofString "leaf") = t.isL:=by
 cases t
 · show decide (Str.ofString "leaf" = Str.ofString "leaf") = true
   decide +kernel
 · show decide (Str.ofString "knot" = Str.ofString "leaf") = false
   decide +kernel
theorem ok_leaf (T : Txt K mg) : FnOk P w K mg base CX0 1 T.f_is_leaf T.d_is_leaf ["tree"] spLeaf:=by
 refine T.F_is_leaf.ok (k:=0) sc_is_leaf (fun vs H Q E h=>?_) (fun cdv A outer s H vs Q E hr h=>?_)
 · obtain ⟨t,v,rfl,_⟩:=h
   rfl
 obtain ⟨t,v,rfl,ht,q⟩:=h
 obtain ⟨a,r,rfl,ea⟩:=dT_any ht
 have nd:=sc_is_leaf.nd
 refine ⟨_,(pss_one (ps_ret (pe_cmpR op_eq (pe_ix ixF (pv 0) pe_int (fun _ _=>rfl)) pe_str (nomark _)))),?_⟩
 walk_at "rd"
 refine ⟨_,items_t ea,_,atI_0,rfl,?_⟩
 have e : decide (V.str (if t.isL = true then Str.ofString "leaf" else Str.ofString "knot") = V.str (Str.ofString "leaf")) = t.isL:=by
  simp only [V.str.injEq]; exact kind_leaf t
 rw [e]
 exact q
noncomputable def spPart : Sp:=fun vs H Q _=>∃ (t u : L2.Tree) (p : List Nat) (v z : V),vs = [v,z] ∧ Dt H (dT t) v ∧ Dt H (dP p) z ∧ t.sub p = some u ∧ ∀ v',Dt H (dT u) v' → Q v' H
theorem ok_part (T : Txt K mg) : FnOk P w K mg base CX0 1 T.f_part_at T.d_part_at ["tree","place"] spPart:=by
 refine T.F_part_at.ok (k:=0) sc_part_at (fun vs H Q E h=>?_) (fun cdv A outer s H vs Q E hr h=>?_)
 · obtain ⟨t,u,p,v,z,rfl,_⟩:=h
   rfl
 obtain ⟨t,u,p,v,z,rfl,ht,hp,hu,q⟩:=h
 obtain ⟨a,rfl,ea⟩:=dP_of hp
 have nd:=sc_part_at.nd
 refine ⟨_,(pss_cons (ps_let (i:=2) nd rfl (Or.inl rfl) (pv 0))
  (pss_cons (ps_for PassesOwn.never rfl (piT (pv 1)) (pg_name (i:=3) nd rfl (Or.inl rfl)) (pss_one (ps_let (i:=2) nd rfl (Or.inl rfl) (pe_ix ixF (pv 2) (pe_op op_add pe_int (pv 3)) (fun _ _=>rfl)))))
  (pss_one (ps_ret (pv 2))))),?_⟩
 walk_at "rd"
 obtain ⟨Pv,hPv⟩ : ∃ Pv : Nat → St → Hp → Prop,∀ i σ H',Pv i σ H' ↔ H' = H ∧ ∃ (y : L2.Tree) (vy : V) (o3 : Option V),Dt H (dT y) vy ∧ y.sub (p.drop i) = some u ∧ σ = [some v,some (.ref a),some vy,o3]:=⟨_,fun _ _ _=>Iff.rfl⟩
 refine WalkT.for ea Pv ((hPv _ _ _).mpr ⟨rfl,t,v,none,ht,by simpa using hu,rfl⟩) (fun i σ H' _ h=>((hPv _ _ _).mp h).1 ▸ ea) ?_ ?_
 · intro i x σ H' ex h
   obtain ⟨rfl,y,vy,o3,hy,hs,rfl⟩:=(hPv _ _ _).mp h
   have hi : i < p.length:=by have:=(List.getElem?_eq_some_iff.mp ex).1; simpa [vP] using this
   have ex' : x = .int ((p[i] : Nat) : Int):=by
    have : (vP p)[i]? = some (.int ((p[i] : Nat) : Int)):=by unfold vP; rw [List.getElem?_map,List.getElem?_eq_getElem hi]; rfl
    rw [this] at ex; exact (Option.some.inj ex).symm
   subst ex'
   rw [List.drop_eq_getElem_cons hi] at hs
   walk_at "rd"
   cases y with
   | leaf x=>simp [M.Tr.sub] at hs
   | knot f l r =>
    obtain ⟨b,vl,vr,rfl,eb,hl,hr'⟩:=dT_knot hy
    simp only [M.Tr.sub] at hs
    split at hs
    · rename_i e0
      refine ⟨b,rfl,_,items_t eb,vl,by rw [e0]; exact atI_2,(hPv _ _ _).mpr ⟨rfl,l,_,_,hl,hs,rfl⟩⟩
    · split at hs
      · rename_i _ e1
        refine ⟨b,rfl,_,items_t eb,vr,by rw [e1]; exact atI_3,(hPv _ _ _).mpr ⟨rfl,r,_,_,hr',hs,rfl⟩⟩
      · cases hs
 · intro σ H' h
   obtain ⟨rfl,y,vy,o3,hy,hs,rfl⟩:=(hPv _ _ _).mp h
   walk_at "rd"
   have : (vP p).length = p.length:=by simp [vP]
   rw [this,List.drop_length,M.Tr.sub_nil] at hs
   cases hs
   exact q vy hy
noncomputable def spPlaces (n : Nat) : Sp:=fun vs H Q _=>∃ (t : L2.Tree) (v : V),vs = [v] ∧ Dt H (dT t) v ∧ t.dp ≤ n ∧ t.lv.length ≤ 5000 ∧ RetL H (t.pl.map dP) Q
theorem ok_places (T : Txt K mg) : ∀ n : Nat,FnOk P w K mg base CX0 (n + 2) T.f_places T.d_places ["tree"] (spPlaces n)
 | 0=>by
  refine T.F_places.ok (k:=1) sc_places (fun vs H Q E h=>?_) (fun cdv A outer s H vs Q E hr h=>?_)
  · obtain ⟨t,v,rfl,_⟩:=h
    rfl
  · obtain ⟨t,v,rfl,_,h,_⟩:=h
    have:=t.dp_pos
    omega
 | n + 1=>by
  refine T.F_places.ok (k:=n + 2) sc_places (fun vs H Q E h=>?_) (fun cdv A outer s H vs Q E hr h=>?_)
  · obtain ⟨t,v,rfl,_⟩:=h
    rfl
  obtain ⟨t,v,rfl,ht,hd,hl,q⟩:=h
  have nd:=sc_places.nd
  have G_is_leaf:=(ok_leaf (P:=P) (w:=w) (base:=base) T).mono (k:=n + 2) (by lia)
  have G_places:=ok_places T n
  refine ⟨_,(pss_cons (ps_let (i:=1) nd rfl (Or.inl rfl) (pe_lst (pa_cons (pe_tup pa_nil) pa_nil)))
  (pss_cons (ps_if (pt_val (pe_call G_is_leaf hr rfl T.m_is_leaf T.F_is_leaf.kp T.b_is_leaf .nil pass0 (pa_cons (pv 0) pa_nil))) (pss_one (ps_ret (pv 1))) pss_nil)
  (pss_cons (ps_for PassesOwn.never rfl (piT (pe_tup (pa_cons pe_int (pa_cons pe_int pa_nil)))) (pg_name (i:=2) nd rfl (Or.inr rfl)) (pss_one (ps_expr (pe_bm PySem.F.plainAttrs_list PySem.F.slot_list_extend PySem.F.type_list_extend mt_extend (pv 1) (pa_cons (pe_comp (N:=["place","step"]) (caps:=[2]) rfl ⟨rfl,rfl,rfl,rfl,by decide +kernel,rfl,rfl,rfl,rfl⟩ (piL (pe_call G_places hr rfl T.m_places T.F_places.kp T.b_places .nil pass0 (pa_cons (pe_ix ixF (pv 0) (pe_op op_add pe_int (pv 2)) (fun _ _=>rfl)) pa_nil))) (fun _ _ _ _=>pif_nil) (fun _ _ _ _=>(pe_op op_catD (pe_tup (pa_cons (pv 1) pa_nil)) (pv 0)))) pa_nil)))))
  (pss_one (ps_ret (pv 1)))))),?_⟩
  walk_at "rd"
  refine ⟨by decide,NewO.mk fun p1 H1 S1 n1 e1=>⟨by decide,NewO.mk fun p2 H2 S2 n2 e2=>?_⟩⟩
  have ht2:=ht.same (S1.trans S2)
  refine ⟨t,v,rfl,ht2,_,rfl,?_⟩
  have n0 : H p2 = none:=S1.free n2
  have S12:=S1.trans S2
  have d0 : Dt H2 (dP []) (.ref p1):=dP_mk (S2 _ _ e1)
  cases t with
  | leaf x=>exact iteT (q p2 _ H2 S12 n0 e2 (.one d0))
  | knot f l r =>
   obtain ⟨a,vl,vr,rfl,ea,hl',hr'⟩:=dT_knot ht2
   simp only [M.Tr.dp] at hd
   simp only [M.Tr.lv,List.length_append] at hl
   refine iteF ⟨by decide,NewO.mk fun p3 H3 S3 n3 e3=>?_⟩
   have n30 : H p3 = none:=S12.free n3
   have h32 : p2 ≠ p3:=ne_of_none e2 n3
   have ha2 : a ≠ p2:=ne_of ea e2 (by intro z; cases z)
   have turn : ∀ (y : L2.Tree) (vy : V) (step : Nat) (H4 : Hp) (vs : List V) (R : V → Hp → Prop),y.dp ≤ n → y.lv.length ≤ 5000 → Same H H4 → H4 p2 = some (.lst vs) → Dt H4 (dT y) vy → vs.length ≤ 20000 →
    (∀ H5 ws,Same H H5 → H5 p2 = some (.lst (vs ++ ws)) → Dts H5 (y.pl.map fun q=>dP (step :: q)) ws → (∀ b,b ≠ p2 → ∀ o,H4 b = some o → H5 b = some o) → R .non H5) →
    spPlaces n [vy] H4 (fun x H1=>WalkL K x H1 fun J H1=>wComp J [2] tYes (tOp rCatD (tTup (tCons (tVar 1) tNil)) (tVar 0)) [some (V.ref a),some (V.ref p2),some (V.int step)] H1 fun x H1=>∃ x_1,x = V.ref x_1 ∧ ∃ x,H1 p2 = some (HO.lst x) ∧ ∃ x_2,H1 x_1 = some (HO.lst x_2) ∧ x.length + x_2.length ≤ sizeLine ∧ PutO H1 p2 (HO.lst (x ++ x_2)) (R V.non)) E0:=by
    intro y vy step H4 vs R hyd hyl S4 e4 hy hvs hR
    refine ⟨y,vy,rfl,hy,hyd,hyl,fun p5 ys H5 S5 n5 e5 D5=>?_⟩
    have l5 : ys.length = y.pl.length:=by have:=D5.length; simpa using this
    have l6:=M.pl_len_le y
    refine WalkL.comp e5 (fun i zs H'=>i ≤ ys.length ∧ Dts H' ((y.pl.take i).map fun q=>dP (step :: q)) zs) ⟨Nat.zero_le _,.nil⟩ (by (clear n1 e1 n2 e2 n0 hd ea hl n3 e3 n30 h32 ha2 hyd hvs n5 e4 e5; lia)) (fun i zs H' h=>by have:=h.2.length; simp at this; (clear n1 e1 n2 e2 n0 hd ea hl n3 e3 n30 h32 ha2 hyd hyl e4 hvs n5 e5 l5 l6 h; lia)) (fun i x zs H' ex S' h=>?_) (fun p7 zs H6 H7 S6 S7 h n7 e7=>?_)
    · have hi : i < y.pl.length:=by have:=(List.getElem?_eq_some_iff.mp ex).1; (clear n1 e1 n2 e2 n0 hd ea hl n3 e3 n30 h32 ha2 hyd hyl e4 hvs n5 l6 ex e5 h; lia)
      obtain ⟨v',hv',dv'⟩:=Dts.map_of D5 (List.getElem?_eq_getElem hi)
      rw [ex] at hv'; cases hv'
      obtain ⟨b,rfl,eb⟩:=dP_of (dv'.same S')
      walk_at "rd"
      refine ⟨by decide,NewO.mk fun p8 H8 S8 n8 e8=>?_⟩
      walk_at "rd"
      refine ⟨_,e8,_,S8 _ _ eb,?_,fun p9 H9 S9 e9=>⟨(S'.trans S8).trans S9,by (clear n1 e1 n2 e2 n0 hd ea hl n3 e3 n30 h32 ha2 hyd h eb ex n8 e8 e9 hyl e4 hvs n5 l6 e5; lia),?_⟩⟩
      · have:=M.pl_dp (List.getElem_mem hi)
        refine small_le ?_
        simp [vP]
        have:=y.dp_le
        (clear n1 e1 n2 e2 n0 hd ea hl n3 e3 n30 h32 ha2 hyd e5 l5 l6 h eb ex n8 hvs n5 e4 e8; lia)
      · rw [List.take_add_one,List.getElem?_eq_getElem hi]
        simp only [Option.toList_some,List.map_append,List.map_cons,List.map_nil]
        exact ((h.2.same S8).same S9).append (.one (dP_mk (p:=step :: y.pl[i]) e9))
    · refine ⟨p7,rfl,vs,S7 _ _ (S6 _ _ (S5 _ _ e4)),zs,e7,?_,PutO.mk fun H8 k8 e8=>?_⟩
      · have:=h.2.length
        simp at this
        refine small_le (by (clear n1 e1 n2 e2 n0 hd ea hl n3 e3 n30 h32 ha2 n5 e5 h n7 hyd e4 e7; lia))
      · have D7:=h.2.same S7
        rw [l5,List.take_length] at D7
        refine hR H8 zs (Same.put_new (((S4.trans S5).trans S6).trans S7) n0 k8) e8 (D7.of_put (S7 _ _ (S6 _ _ (S5 _ _ e4))) k8 ?_) fun b hb o e=>?_
        · have : ∀ l : List (List Nat),D.nls (l.map fun q=>dP (step :: q)) = true:=fun l=>by
           induction l with
           | nil=>rfl
           | cons q l ih=>simp only [List.map_cons,D.nls,dP_nl,ih,Bool.and_self]
          exact this _
        · rw [k8 b hb]
          exact S7 _ _ (S6 _ _ (S5 _ _ e))
   obtain ⟨Pv,hPv⟩ : ∃ Pv : Nat → St → Hp → Prop,∀ i σ H',Pv i σ H' ↔ ∃ (o2 : Option V) (vs : List V),Same H H' ∧ H' p3 = some (.tup [.int 0,.int 1]) ∧ H' a = some (.tup [.str "knot",.str f,vl,vr]) ∧ H' p2 = some (.lst vs) ∧
    Dts H' ((([] : List Nat) :: ((if 1 ≤ i then l.pl.map (0 :: ·) else []) ++ (if 2 ≤ i then r.pl.map (1 :: ·) else []))).map dP) vs ∧ Dt H' (dT l) vl ∧ Dt H' (dT r) vr ∧ σ = [some (.ref a),some (.ref p2),o2]:=⟨_,fun _ _ _=>Iff.rfl⟩
   refine WalkT.for e3 Pv ((hPv _ _ _).mpr ⟨none,_,S12.trans S3,e3,S3 _ _ ea,S3 _ _ e2,.one (d0.same S3),hl'.same S3,hr'.same S3,rfl⟩) (fun i σ H' _ h=>by obtain ⟨_,_,_,h,_⟩:=(hPv _ _ _).mp h; exact h) ?_ ?_
   · intro i x σ H4 ex h
     obtain ⟨o2,vs,S4,f3,fa,f2,D4,hl4,hr4,rfl⟩:=(hPv _ _ _).mp h
     have lvs:=D4.length
     have b1:=M.pl_len_le l
     have b2:=M.pl_len_le r
     have hi : i < 2:=by have:=(List.getElem?_eq_some_iff.mp ex).1; simpa using this
     have keep : ∀ {H5 : Hp} {ws : List V},(∀ b,b ≠ p2 → ∀ o,H4 b = some o → H5 b = some o) → Tups H4 H5:=fun {H5 ws} k5 b xs e=>k5 b (ne_of e f2 (by intro z; cases z)) _ e
     rcases (show i = 0 ∨ i = 1 by (clear n1 e1 n2 e2 n0 hd ea hl n3 e3 n30 f3 fa f2 lvs b1 b2 ha2 ex; lia)) with rfl | rfl
     · cases ex
       walk_at "rd"
       refine ⟨ty_lst f2,_,items_t fa,_,atI_2,?_⟩
       refine turn l vl 0 H4 vs (fun _=>Pv 1 _) (by (clear n30 h32 ha2 f3 fa f2 b1 b2 lvs hi n1 e1 n2 e2 n0 n3 e3 hl ea; lia)) (by (clear n30 h32 ha2 f3 fa f2 b1 b2 lvs hi n1 e1 n2 e2 n0 n3 e3 hd ea; lia)) S4 f2 hl4 (by simp at lvs; (clear n1 e1 n2 e2 n0 hd ea hl n3 e3 n30 h32 ha2 f3 fa f2 b1 b2 hi; lia)) fun H5 ws S5 e5 D5 k5=>(hPv _ _ _).mpr ?_
       have U:=keep (ws:=ws) k5
       refine ⟨_,_,S5,U _ _ f3,U _ _ fa,e5,?_,hl4.tups U (dT_nl l),hr4.tups U (dT_nl r),rfl⟩
       have D4':=D4.tups U (by simp [D.nls,dP_nl])
       simpa [Function.comp_def] using D4'.append D5
     · cases ex
       walk_at "rd"
       refine ⟨ty_lst f2,_,items_t fa,_,atI_3,?_⟩
       refine turn r vr 1 H4 vs (fun _=>Pv 2 _) (by (clear n30 h32 ha2 f3 fa f2 b1 b2 lvs hi n1 e1 n2 e2 n0 n3 e3 hl ea; lia)) (by (clear n30 h32 ha2 f3 fa f2 b1 b2 lvs hi n1 e1 n2 e2 n0 n3 e3 hd ea; lia)) S4 f2 hr4 (by simp at lvs; (clear n1 e1 n2 e2 n0 n30 h32 ha2 f3 fa n3 e3 f2 hd ea b2 hi; lia)) fun H5 ws S5 e5 D5 k5=>(hPv _ _ _).mpr ?_
       have U:=keep (ws:=ws) k5
       refine ⟨_,_,S5,U _ _ f3,U _ _ fa,e5,?_,hl4.tups U (dT_nl l),hr4.tups U (dT_nl r),rfl⟩
       have nls : ∀ q : List (List Nat),D.nls (q.map dP) = true:=fun q=>by
        induction q with
        | nil=>rfl
        | cons a q ih=>simp only [List.map_cons,D.nls,dP_nl,ih,Bool.and_self]
       have D4':=D4.tups U (nls _)
       simpa [Function.comp_def] using D4'.append D5
   · intro σ H4 h
     obtain ⟨o2,vs,S4,f3,fa,f2,D4,hl4,hr4,rfl⟩:=(hPv _ _ _).mp h
     walk_at "rd"
     exact q p2 _ H4 S4 n0 f2 (by simpa [M.Tr.pl] using D4)
noncomputable def leafAt (t : L2.Tree) (p : List Nat) : Bool:=match t.sub p with | some s=>s.isL | none=>false
noncomputable def lvp (t : L2.Tree) : List (List Nat):=t.pl.filter (leafAt t)
theorem lvp_wk (t : L2.Tree) : lvp t = ((t.wk []).filter (fun q=>q.2.isL)).map (·.1):=M.pl_filter t _ fun q s h=>by unfold leafAt; rw [M.Tr.sub_mem h]
noncomputable def spLeaves (n : Nat) : Sp:=fun vs H Q _=>∃ (t : L2.Tree) (v : V),vs = [v] ∧ Dt H (dT t) v ∧ t.dp ≤ n ∧ t.lv.length ≤ 5000 ∧ RetL H ((lvp t).map dP) Q
theorem ok_leaves (T : Txt K mg) (n : Nat) : FnOk P w K mg base CX0 (n + 3) T.f_leaves T.d_leaves ["tree"] (spLeaves n):=by
 refine T.F_leaves.ok (k:=n + 2) sc_leaves (fun vs H Q E h=>?_) (fun cdv A outer s H vs Q E hr h=>?_)
 · obtain ⟨t,v,rfl,_⟩:=h
   rfl
 obtain ⟨t,v,rfl,ht,hd,hl,q⟩:=h
 have nd:=sc_leaves.nd
 have G_is_leaf:=(ok_leaf (P:=P) (w:=w) (base:=base) T).mono (k:=n + 2) (by lia)
 have G_part_at:=(ok_part (P:=P) (w:=w) (base:=base) T).mono (k:=n + 2) (by lia)
 have G_places:=ok_places (P:=P) (w:=w) (base:=base) T n
 refine ⟨_,(pss_one (ps_ret (pe_comp (N:=["place","tree"]) (caps:=[0]) rfl ⟨rfl,rfl,rfl,rfl,by decide +kernel,rfl,rfl,rfl,rfl⟩ (piL (pe_call G_places hr rfl T.m_places T.F_places.kp T.b_places .nil pass0 (pa_cons (pv 0) pa_nil))) (fun _ _ _ _=>pif_one (pt_val (pe_call G_is_leaf hr rfl T.m_is_leaf T.F_is_leaf.kp T.b_is_leaf .nil pass0 (pa_cons (pe_call G_part_at hr rfl T.m_part_at T.F_part_at.kp T.b_part_at .nil pass0 (pa_cons (pv 1) (pa_cons (pv 0) pa_nil))) pa_nil)))) (fun _ _ _ _=>(pv 0))))),?_⟩
 walk_at "rd"
 refine ⟨t,v,rfl,ht,hd,hl,fun p5 ys H5 S5 n5 e5 D5=>?_⟩
 have l5 : ys.length = t.pl.length:=by have:=D5.length; simpa using this
 have l6:=M.pl_len_le t
 refine WalkL.comp e5 (fun i zs H'=>H' = H5 ∧ zs.length ≤ i ∧ Dts H' (((t.pl.take i).filter (leafAt t)).map dP) zs) ⟨rfl,Nat.zero_le _,.nil⟩ (by (clear n5 e5 hd; lia)) (fun i zs H' h=>h.2.1) (fun i x zs H' ex S' h=>?_) (fun p7 zs H6 H7 S6 S7 h n7 e7=>?_)
 · obtain ⟨rfl,hz,D6⟩:=h
   have hi : i < t.pl.length:=by have:=(List.getElem?_eq_some_iff.mp ex).1; (clear hd hl n5 ex e5 l6 hz; lia)
   obtain ⟨v',hv',dv'⟩:=Dts.map_of D5 (List.getElem?_eq_getElem hi)
   rw [ex] at hv'; cases hv'
   obtain ⟨u,hu,_⟩:=M.pl_sub (List.getElem_mem hi)
   have hg : leafAt t t.pl[i] = u.isL:=by unfold leafAt; rw [hu]
   walk_at "rd"
   refine ⟨t,u,_,v,x,rfl,ht.same S5,dv',hu,fun w' hw'=>⟨u,w',rfl,hw',_,rfl,ite2 (fun c=>?_) (fun c=>?_)⟩⟩
   · refine ⟨S',rfl,by simp; omega,?_⟩
     rw [List.take_add_one,List.getElem?_eq_getElem hi,List.filter_append]
     simp only [Option.toList_some,List.filter_cons,List.filter_nil,hg,c,if_true,List.map_append,List.map_cons,List.map_nil]
     exact D6.append (.one dv')
   · have c : u.isL = false:=by simpa using c
     refine ⟨S',rfl,by (clear hd hl n5 l5 l6 ex hu hg c e5; lia),?_⟩
     rw [List.take_add_one,List.getElem?_eq_getElem hi,List.filter_append]
     simp only [Option.toList_some,List.filter_cons,List.filter_nil,hg,c,Bool.false_eq_true,if_false,List.append_nil]
     exact D6
 · obtain ⟨rfl,hz,D6⟩:=h
   rw [l5,List.take_length] at D6
   exact q p7 zs H7 (S5.trans S7) (S5.free n7) e7 (D6.same S7)
noncomputable def spPlaceOf (n : Nat) : Sp:=fun vs H Q _=>∃ (t : L2.Tree) (x : Str) (v : V),vs = [v,.str x] ∧ Dt H (dT t) v ∧ t.dp ≤ n ∧ t.lv.length ≤ 5000 ∧ RetD H (dO (M.firstOf x (t.wk []))) Q
theorem ok_placeof (T : Txt K mg) (n : Nat) : FnOk P w K mg base CX0 (n + 4) T.f_place_of T.d_place_of ["tree","x"] (spPlaceOf n):=by
 refine T.F_place_of.ok (k:=n + 3) sc_place_of (fun vs H Q E h=>?_) (fun cdv A outer s H vs Q E hr h=>?_)
 · obtain ⟨t,x,v,rfl,_⟩:=h
   rfl
 obtain ⟨t,x,v,rfl,ht,hd,hl,q⟩:=h
 have nd:=sc_place_of.nd
 have G_part_at:=(ok_part (P:=P) (w:=w) (base:=base) T).mono (k:=n + 3) (by lia)
 have G_leaves:=ok_leaves (P:=P) (w:=w) (base:=base) T n
 refine ⟨_,(pss_cons (ps_for PassesOwn.never rfl (piL (pe_call G_leaves hr rfl T.m_leaves T.F_leaves.kp T.b_leaves .nil pass0 (pa_cons (pv 0) pa_nil))) (pg_name (i:=2) nd rfl (Or.inl rfl)) (pss_one (ps_if (pt_cmpR op_eq (pe_ix ixF (pe_call G_part_at hr rfl T.m_part_at T.F_part_at.kp T.b_part_at .nil pass0 (pa_cons (pv 0) (pa_cons (pv 2) pa_nil))) pe_int (fun _ _=>rfl)) (pv 1) (nomark _)) (pss_one (ps_ret (pv 2))) pss_nil)))
  (pss_one (ps_ret pe_non))),?_⟩
 walk_at "rd"
 refine ⟨t,v,rfl,ht,hd,hl,fun p5 ys H5 S5 n5 e5 D5=>?_⟩
 rw [lvp_wk,List.map_map] at D5
 have l5:=D5.length
 have ht5:=ht.same S5
 obtain ⟨Pv,hPv⟩ : ∃ Pv : Nat → St → Hp → Prop,∀ i σ H',Pv i σ H' ↔ H' = H5 ∧ (∀ q ∈ ((t.wk []).filter (fun q=>q.2.isL)).take i,q.2.name ≠ x) ∧ ∃ o2 : Option V,σ = [some v,some (.str x),o2]:=⟨_,fun _ _ _=>Iff.rfl⟩
 refine WalkL.for e5 Pv ((hPv _ _ _).mpr ⟨rfl,by simp,none,rfl⟩) (fun i σ H' _ h=>((hPv _ _ _).mp h).1 ▸ e5) ?_ ?_
 · intro i y σ H' ey h
   obtain ⟨rfl,hn,o2,rfl⟩:=(hPv _ _ _).mp h
   have hi : i < ((t.wk []).filter (fun q=>q.2.isL)).length:=by have:=(List.getElem?_eq_some_iff.mp ey).1; simp at l5; (clear hd hl n5 ey e5; lia)
   obtain ⟨q0,hq0⟩ : ∃ q0,((t.wk []).filter (fun q=>q.2.isL))[i]? = some q0:=⟨_,List.getElem?_eq_getElem hi⟩
   obtain ⟨v',hv',dv'⟩:=Dts.map_of D5 hq0
   rw [ey] at hv'; cases hv'
   have hm:=List.mem_filter.mp (List.mem_of_getElem? hq0)
   obtain ⟨qp,qs⟩:=q0
   have hsub:=M.Tr.sub_mem hm.1
   walk_at "rd"
   refine ⟨t,qs,qp,v,y,rfl,ht5,dv',hsub,fun w' hw'=>?_⟩
   obtain ⟨a,r,rfl,ea⟩:=dT_any hw'
   walk_at "rd"
   refine ⟨_,items_t ea,_,atI_1,rfl,?_⟩
   refine ite2 (fun c=>?_) (fun c=>?_)
   · have c : qs.name = x:=by simpa using c
     refine q y _ S5 ?_
     rw [M.firstOf_filter,M.firstOf_hit hn hq0 hm.2 c]
     exact dv'
   · have c : ¬ qs.name = x:=by simpa using c
     refine (hPv _ _ _).mpr ⟨rfl,fun q hq=>?_,_,rfl⟩
     rw [List.take_add_one,hq0] at hq
     simp only [Option.toList_some,List.mem_append,List.mem_singleton] at hq
     rcases hq with hq | rfl
     · exact hn q hq
     · exact c
 · intro σ H' h
   obtain ⟨rfl,hn,o2,rfl⟩:=(hPv _ _ _).mp h
   walk_at "rd"
   refine q _ _ S5 ?_
   rw [M.firstOf_filter,M.firstOf_drop _ ys.length hn]
   simp at l5
   rw [l5,List.drop_length]
   exact isD_non.mpr rfl
noncomputable def spRank (n : Nat) : Sp:=fun vs H Q _=>∃ (t : L2.Tree) (v : V),vs = [v] ∧ Dt H (dT t) v ∧ t.dp ≤ n ∧ Q (.int t.rk) H
theorem ok_rank (T : Txt K mg) : ∀ n : Nat,FnOk P w K mg base CX0 (n + 2) T.f_rank T.d_rank ["tree"] (spRank n)
 | 0=>by
  refine T.F_rank.ok (k:=1) sc_rank (fun vs H Q E h=>?_) (fun cdv A outer s H vs Q E hr h=>?_)
  · obtain ⟨t,v,rfl,_⟩:=h
    rfl
  · obtain ⟨t,v,rfl,_,h,_⟩:=h
    have:=t.dp_pos
    omega
 | n + 1=>by
  refine T.F_rank.ok (k:=n + 2) sc_rank (fun vs H Q E h=>?_) (fun cdv A outer s H vs Q E hr h=>?_)
  · obtain ⟨t,v,rfl,_⟩:=h
    rfl
  obtain ⟨t,v,rfl,ht,hd,q⟩:=h
  have nd:=sc_rank.nd
  have G_is_leaf:=(ok_leaf (P:=P) (w:=w) (base:=base) T).mono (k:=n + 2) (by lia)
  have G_rank:=ok_rank T n
  refine ⟨_,(pss_cons (ps_if (pt_val (pe_call G_is_leaf hr rfl T.m_is_leaf T.F_is_leaf.kp T.b_is_leaf .nil pass0 (pa_cons (pv 0) pa_nil))) (pss_one (ps_ret pe_int)) pss_nil)
  (pss_cons (ps_let (i:=1) nd rfl (Or.inl rfl) (pe_call G_rank hr rfl T.m_rank T.F_rank.kp T.b_rank .nil pass0 (pa_cons (pe_ix ixF (pv 0) pe_int (fun _ _=>rfl)) pa_nil)))
  (pss_cons (ps_let (i:=2) nd rfl (Or.inl rfl) (pe_call G_rank hr rfl T.m_rank T.F_rank.kp T.b_rank .nil pass0 (pa_cons (pe_ix ixF (pv 0) pe_int (fun _ _=>rfl)) pa_nil)))
  (pss_cons (ps_if (pt_cmpR op_eq (pv 1) (pv 2) (nomark _)) (pss_one (ps_ret (pe_op op_add (pv 1) pe_int))) pss_nil)
  (pss_one (ps_ret (pe_callB (call_max2 rfl) rfl T.z_max bt_max (pa_cons (pv 1) (pa_cons (pv 2) pa_nil))))))))),?_⟩
  walk_at "rd"
  refine ⟨t,v,rfl,ht,_,rfl,?_⟩
  cases t with
  | leaf x=>exact iteT q
  | knot f l r =>
   obtain ⟨a,vl,vr,rfl,ea,hl',hr'⟩:=dT_knot ht
   simp only [M.Tr.dp] at hd
   refine iteF ⟨a,rfl,_,items_t ea,_,atI_2,l,vl,rfl,hl',by lia,?_⟩
   try (walk_at "rd")
   refine ⟨_,items_t ea,_,atI_3,r,vr,rfl,hr',by lia,?_⟩
   try (walk_at "rd")
   have hk : (M.Tr.knot f l r).rk = if l.rk = r.rk then l.rk + 1 else max l.rk r.rk:=rfl
   refine ite2 (fun c=>?_) (fun c=>⟨_,_,⟨rfl,rfl⟩,?_⟩)
   · have c : l.rk = r.rk:=by have:=of_decide_eq_true c; (clear hd ea hk c; lia)
     rw [hk,if_pos c] at q
     exact q
   · have c : ¬ l.rk = r.rk:=fun z=>c (decide_eq_true (by (clear hd ea hk c; lia)))
     rw [hk,if_neg c] at q
     have : ((max l.rk r.rk : Nat) : Int) = if (r.rk : Int) > l.rk then (r.rk : Int) else l.rk:=by split <;> (clear hd ea hk c; lia)
     rw [this] at q
     exact q
noncomputable def mnR : L2.Tree → Nat
 | .leaf _=>0
 | .knot _ l r=>min l.rk r.rk
noncomputable def dR (q : List Nat × L2.Tree) : D:=.tup [dP q.1,.int (q.2.rk : Int),.bl (isK q.2),.int (mnR q.2 : Int)]
theorem dR_of {H : Hp} {q : List Nat × L2.Tree} {v : V} (h : Dt H (dR q) v) : ∃ a v1,v = .ref a ∧ H a = some (.tup [v1,.int (q.2.rk : Int),.bl (isK q.2),.int (mnR q.2 : Int)]) ∧ Dt H (dP q.1) v1:=by
 obtain ⟨a,vs,rfl,e,h⟩:=isD_tup.mp h
 obtain ⟨v1,r,rfl,h1,h⟩:=isDs_cons.mp h
 obtain ⟨v2,r,rfl,h2,h⟩:=isDs_cons.mp h
 obtain ⟨v3,r,rfl,h3,h⟩:=isDs_cons.mp h
 obtain ⟨v4,r,rfl,h4,h⟩:=isDs_cons.mp h
 rw [isDs_nil.mp h,isD_int.mp h2,isD_bl.mp h3,isD_int.mp h4] at e
 exact ⟨a,v1,rfl,e,h1⟩
theorem wk_head (t : L2.Tree) (p : List Nat) : ∃ r,t.wk p = (p,t) :: r:=by cases t <;> exact ⟨_,rfl⟩
noncomputable def spRanks (n : Nat) : Sp:=fun vs H Q _=>∃ (t : L2.Tree) (p : List Nat) (v u : V),vs = [v,u] ∧ Dt H (dT t) v ∧ Dt H (dP p) u ∧ t.dp ≤ n ∧ t.lv.length ≤ 5000 ∧ p.length + n ≤ 1000 ∧ RetL H ((t.wk p).map dR) Q
theorem ok_ranks (T : Txt K mg) : ∀ n : Nat,FnOk P w K mg base CX0 (n + 1) T.f__law_ranks T.d__law_ranks ["tree","place"] (spRanks n)
 | 0=>by
  refine T.F__law_ranks.ok (k:=0) sc__law_ranks (fun vs H Q E h=>?_) (fun cdv A outer s H vs Q E hr h=>?_)
  · obtain ⟨t,p,v,u,rfl,_⟩:=h
    rfl
  · obtain ⟨t,p,v,u,rfl,_,_,h,_⟩:=h
    have:=t.dp_pos
    omega
 | n + 1=>by
  refine T.F__law_ranks.ok (k:=n + 1) sc__law_ranks (fun vs H Q E h=>?_) (fun cdv A outer s H vs Q E hr h=>?_)
  · obtain ⟨t,p,v,u,rfl,_⟩:=h
    rfl
  obtain ⟨t,p,v,u,rfl,ht,hp,hd,hl,hpl,q⟩:=h
  have nd:=sc__law_ranks.nd
  have G__law_ranks:=ok_ranks T n
  refine ⟨_,(pss_cons (ps_if (pt_cmpR op_eq (pe_ix ixF (pv 0) pe_int (fun _ _=>rfl)) pe_str (nomark _)) (pss_one (ps_ret (pe_lst (pa_cons (pe_tup (pa_cons (pv 1) (pa_cons pe_int (pa_cons pe_bl (pa_cons pe_int pa_nil))))) pa_nil)))) pss_nil)
  (pss_cons (ps_let (i:=2) nd rfl (Or.inl rfl) (pe_call G__law_ranks hr rfl T.m__law_ranks T.F__law_ranks.kp T.b__law_ranks .nil pass0 (pa_cons (pe_ix ixF (pv 0) pe_int (fun _ _=>rfl)) (pa_cons (pe_op op_catD (pv 1) (pe_tup (pa_cons pe_int pa_nil))) pa_nil))))
  (pss_cons (ps_let (i:=3) nd rfl (Or.inl rfl) (pe_call G__law_ranks hr rfl T.m__law_ranks T.F__law_ranks.kp T.b__law_ranks .nil pass0 (pa_cons (pe_ix ixF (pv 0) pe_int (fun _ _=>rfl)) (pa_cons (pe_op op_catD (pv 1) (pe_tup (pa_cons pe_int pa_nil))) pa_nil))))
  (pss_cons (ps_let (i:=4) nd rfl (Or.inl rfl) (pe_tup (pa_cons (pe_ix ixF (pe_ix ixF (pv 2) pe_int (fun _ _=>rfl)) pe_int (fun _ _=>rfl)) (pa_cons (pe_ix ixF (pe_ix ixF (pv 3) pe_int (fun _ _=>rfl)) pe_int (fun _ _=>rfl)) pa_nil))))
  (pss_one (ps_ret (pe_op op_cat (pe_op op_cat (pe_lst (pa_cons (pe_tup (pa_cons (pv 1) (pa_cons (pe_op op_add (pe_callB (call_maxS rfl) rfl T.z_max bt_max (pa_cons (pv 4) pa_nil)) (pe_callTy call_intB rfl T.z_int bt_int (pa_cons (pe_cmpR op_eq (pe_ix ixF (pv 4) pe_int (fun _ _=>rfl)) (pe_ix ixF (pv 4) pe_int (fun _ _=>rfl)) (nomark _)) pa_nil))) (pa_cons pe_bl (pa_cons (pe_callB (call_minS rfl) rfl T.z_min bt_min (pa_cons (pv 4) pa_nil)) pa_nil))))) pa_nil)) (pv 2)) (pv 3)))))))),?_⟩
  cases t with
  | leaf x =>
   obtain ⟨a,rfl,ea⟩:=dT_leaf ht
   walk_at "rd"
   refine ⟨_,items_t ea,_,atI_0,rfl,?_⟩
   rw [decide_eq_true rfl]
   refine iteT ⟨by decide,NewO.mk fun p1 H1 S1 n1 e1=>⟨by decide,NewO.mk fun p2 H2 S2 n2 e2=>?_⟩⟩
   refine q p2 _ H2 (S1.trans S2) (S1.free n2) e2 (.one (Dt.tup (S2 _ _ e1) (.cons (hp.same (S1.trans S2)) (.cons (isD_int.mpr rfl) (.cons (isD_bl.mpr rfl) (.cons (isD_int.mpr rfl) .nil))))))
  | knot f l r =>
   obtain ⟨a,vl,vr,rfl,ea,hl',hr'⟩:=dT_knot ht
   obtain ⟨b,rfl,eb⟩:=dP_of hp
   simp only [M.Tr.dp] at hd
   simp only [M.Tr.lv,List.length_append] at hl
   have b1:=l.wk_len (p ++ [0])
   have b2:=r.wk_len (p ++ [1])
   have vl_ : (vP p).length = p.length:=by simp [vP]
   walk_at "rd"
   refine ⟨_,items_t ea,_,atI_0,rfl,?_⟩
   rw [decide_eq_false (by simp only [V.str.injEq]; decide +kernel)]
   refine iteF ⟨_,items_t ea,_,atI_2,by decide,NewO.mk fun p3 H3 S3 n3 e3=>?_⟩
   try (walk_at "rd")
   refine ⟨_,S3 _ _ eb,_,e3,small_le (by simp; (clear eb hl b1 e3 ea b2 hd n3; lia)),fun p4 H4 S4 e4=>?_⟩
   have S04:=S3.trans S4
   have d4 : Dt H4 (dP (p ++ [0])) (.ref p4):=dP_mk (by rw [e4]; simp [vP])
   refine ⟨l,p ++ [0],vl,_,rfl,hl'.same S04,d4,by (clear b2 vl_ n3 e3 e4 eb hl b1 ea hpl; lia),by (clear hpl hd ea e3 e4 b1 b2 vl_ n3 eb; lia),by simp; (clear b2 vl_ n3 e3 e4 eb hl b1 ea hd; lia),fun p5 ys H5 S5 n5 e5 D5=>?_⟩
   have S05:=S04.trans S5
   try (walk_at "rd")
   refine ⟨_,items_t (S05 _ _ ea),_,atI_3,by decide,NewO.mk fun p6 H6 S6 n6 e6=>?_⟩
   try (walk_at "rd")
   refine ⟨_,S6 _ _ (S05 _ _ eb),_,e6,small_le (by simp; (clear n3 e3 e4 n5 e5 n6 e6 ea eb hl b1 hd b2; lia)),fun p7 H7 S7 e7=>?_⟩
   have S57:=S6.trans S7
   have d7 : Dt H7 (dP (p ++ [1])) (.ref p7):=dP_mk (by rw [e7]; simp [vP])
   refine ⟨r,p ++ [1],vr,_,rfl,hr'.same (S05.trans S57),d7,by (clear n3 e3 e4 n5 e5 n6 e6 e7 hl b1 b2 vl_ ea eb hpl; lia),by (clear n3 e3 e4 n5 e5 n6 e6 e7 hpl hd ea eb b1 b2 vl_; lia),by simp; (clear n3 e3 e4 n5 e5 n6 e6 e7 hl b1 b2 vl_ ea eb hd; lia),fun p8 zs H8 S8 n8 e8 D8=>?_⟩
   have S58:=S57.trans S8
   have S08:=S05.trans S58
   have l5:=D5.length
   have l8:=D8.length
   simp at l5 l8
   obtain ⟨rl,hwl⟩:=wk_head l (p ++ [0])
   obtain ⟨rr,hwr⟩:=wk_head r (p ++ [1])
   obtain ⟨y0,hy0,dy0⟩:=Dts.map_of (i:=0) (x:=(p ++ [0],l)) (D5.same S58) (by rw [hwl]; rfl)
   obtain ⟨z0,hz0,dz0⟩:=Dts.map_of (i:=0) (x:=(p ++ [1],r)) D8 (by rw [hwr]; rfl)
   obtain ⟨ay,wy,rfl,ey,_⟩:=dR_of dy0
   obtain ⟨az,wz,rfl,ez,_⟩:=dR_of dz0
   try (walk_at "rd")
   refine ⟨_,items_l (S58 _ _ e5),_,atI_int (by decide) hy0,?_⟩
   refine ⟨_,rfl,_,items_t ey,_,atI_1,_,items_l e8,_,atI_int (by decide) hz0,_,rfl,_,items_t ez,_,atI_1,by decide,NewO.mk fun p9 H9 S9 n9 e9=>?_⟩
   refine ⟨p9,rfl,[(l.rk : Int),(r.rk : Int)],by rw [items_t e9]; rfl,by simp,fun m hm hmx=>?_⟩
   try (walk_at "rd")
   have mx : m = max (l.rk : Int) (r.rk : Int):=by
    have h1:=hmx (l.rk : Int) (by simp)
    have h2:=hmx (r.rk : Int) (by simp)
    simp at hm
    (clear hpl hd ea eb hl b1 b2 vl_ n3 e3 e4 n5 e5 n6 e6 e7 n8 e8 l5 l8 hwl hwr hy0 ey hz0 ez n9 e9; lia)
   subst mx
   refine ⟨_,items_t e9,_,atI_0,_,items_t e9,_,atI_1,rfl,[(l.rk : Int),(r.rk : Int)],by rw [items_t e9]; rfl,by simp,fun m2 hm2 hmn=>⟨by decide,NewO.mk fun pA HA SA nA eA=>⟨by decide,NewO.mk fun pB HB SB nB eB=>?_⟩⟩⟩
   have mn : m2 = ((min l.rk r.rk : Nat) : Int):=by
    have h1:=hmn (l.rk : Int) (by simp)
    have h2:=hmn (r.rk : Int) (by simp)
    simp at hm2
    (clear hpl hd ea eb hl b1 b2 vl_ n3 e3 e4 n5 e5 n6 e6 e7 n8 e8 l5 l8 hwl hwr hy0 ey hz0 ez n9 e9 nA eA nB eB; lia)
   subst mn
   have mk : max (l.rk : Int) (r.rk : Int) + (if decide (V.int (l.rk : Int) = V.int (r.rk : Int)) = true then 1 else 0) = (((M.Tr.knot f l r).rk : Nat) : Int):=by
    simp only [M.Tr.rk,V.int.injEq,decide_eq_true_eq]
    split <;> split <;> (clear hpl hd ea eb hl b1 b2 vl_ n3 e3 e4 n5 e5 n6 e6 e7 n8 e8 l5 l8 hwl hwr hy0 ey hz0 ez n9 e9 nA nB eB eA; omega)
   rw [mk] at eA
   have S8B:=(S9.trans SA).trans SB
   have dN : Dt HB (dR (p,.knot f l r)) (.ref pA):=Dt.tup (SB _ _ eA) (.cons (hp.same (S08.trans S8B)) (.cons (isD_int.mpr rfl) (.cons (isD_bl.mpr rfl) (.cons (isD_int.mpr rfl) .nil))))
   refine ⟨pB,rfl,_,eB,_,(S58.trans S8B) _ _ e5,small_le (by simp; (clear e3 e4 n5 e5 n6 e6 e7 n8 e8 e9 nA nB eB eA mk l8 hwl hwr hy0 ey hz0 ez n9 hpl hd ea b2 vl_ n3 eb; lia)),NewO.mk fun pC HC SC nC eC=>⟨pC,rfl,_,eC,_,(S8B.trans SC) _ _ e8,small_le (by simp; (clear e3 e4 n5 e5 n6 e6 e7 n8 e8 e9 nA nB eB eA mk nC eC hz0 ez n9 hpl hd ea hwr hy0 ey vl_ n3 hwl eb; lia)),NewO.mk fun pD HD SD nD eD=>?_⟩⟩
   have SBD:=SC.trans SD
   refine q pD _ HD ((S08.trans S8B).trans SBD) ((S08.trans (S8B.trans SC)).free nD) eD ?_
   simp only [M.Tr.wk,List.map_cons,List.map_append]
   exact Dts.append (.cons (dN.same SBD) (D5.same (S58.trans (S8B.trans SBD)))) (D8.same (S8B.trans SBD))
noncomputable def mustQ (k : Int) (q : List Nat × L2.Tree) : Bool:=isK q.2 && decide (k ≤ (mnR q.2 : Int))
noncomputable def mustP (t : L2.Tree) (k : Int) : List (List Nat):=((t.wk []).filter (mustQ k)).map (·.1)
noncomputable def mustT (k : Int) (t : L2.Tree) : Bool:=isK t && decide (k ≤ (mnR t : Int))
noncomputable def spPuts (n : Nat) : Sp:=fun vs H Q _=>∃ (t : L2.Tree) (k : Int) (v : V),vs = [v,.int k] ∧ Dt H (dT t) v ∧ t.dp ≤ n ∧ Q (.bl (mustT k t)) H
theorem ok_puts (T : Txt K mg) (n : Nat) : FnOk P w K mg base CX0 (n + 3) T.f_puts T.d_puts ["tree","k"] (spPuts n):=by
 refine T.F_puts.ok (k:=n + 2) sc_puts (fun vs H Q E h=>?_) (fun cdv A outer s H vs Q E hr h=>?_)
 · obtain ⟨t,k,v,rfl,_⟩:=h
   rfl
 obtain ⟨t,k,v,rfl,ht,hd,q⟩:=h
 have nd:=sc_puts.nd
 have G_is_leaf:=(ok_leaf (P:=P) (w:=w) (base:=base) T).mono (k:=n + 2) (by lia)
 have G_rank:=ok_rank (P:=P) (w:=w) (base:=base) T n
 refine ⟨_,(pss_one (ps_ret (pe_and (pe_not (pe_call G_is_leaf hr rfl T.m_is_leaf T.F_is_leaf.kp T.b_is_leaf .nil pass0 (pa_cons (pv 0) pa_nil))) (pe_and (pe_cmpR op_ge (pe_call G_rank hr rfl T.m_rank T.F_rank.kp T.b_rank .nil pass0 (pa_cons (pe_ix ixF (pv 0) pe_int (fun _ _=>rfl)) pa_nil)) (pv 1) (nomark _)) (pe_one (pe_cmpR op_ge (pe_call G_rank hr rfl T.m_rank T.F_rank.kp T.b_rank .nil pass0 (pa_cons (pe_ix ixF (pv 0) pe_int (fun _ _=>rfl)) pa_nil)) (pv 1) (nomark _))))))),?_⟩
 walk_at "rd"
 refine ⟨t,v,rfl,ht,_,rfl,?_⟩
 cases t with
 | leaf x=>exact iteF q
 | knot f l r =>
  obtain ⟨a,vl,vr,rfl,ea,hl',hr'⟩:=dT_knot ht
  simp only [M.Tr.dp] at hd
  have e : mustT k (.knot f l r) = (decide (k ≤ (l.rk : Int)) && decide (k ≤ (r.rk : Int))):=by
   show (true && decide (k ≤ ((min l.rk r.rk : Nat) : Int))) = _
   rw [Bool.eq_iff_iff]; simp; (clear hd ea; lia)
  rw [e] at q
  refine iteT ⟨a,rfl,_,items_t ea,_,atI_2,l,vl,rfl,hl',by lia,_,rfl,ite2 (fun c=>?_) (fun c=>?_)⟩
  · rw [c] at q
    exact ⟨a,rfl,_,items_t ea,_,atI_3,r,vr,rfl,hr',by lia,_,rfl,q⟩
  · rw [Bool.not_eq_true] at c
    rw [c] at q
    exact q
noncomputable def atQ (t : L2.Tree) (k : Int) (p : List Nat) : Bool:=match t.sub p with | some u=>mustT k u | none=>false
theorem mustP_pl (t : L2.Tree) (k : Int) : t.pl.filter (atQ t k) = mustP t k:=by
 unfold mustP
 rw [M.Tr.pl_wk,List.filter_map]
 congr 1
 apply List.filter_congr
 intro q hq
 show atQ t k q.1 = _
 unfold atQ; rw [M.Tr.sub_mem hq]; rfl
noncomputable def spMust (n : Nat) : Sp:=fun vs H Q _=>∃ (t : L2.Tree) (k : Int) (v : V),vs = [v,.int k] ∧ Dt H (dT t) v ∧ t.dp ≤ n ∧ t.lv.length ≤ 5000 ∧ RetL H ((mustP t k).map dP) Q
theorem ok_must (T : Txt K mg) (n : Nat) : FnOk P w K mg base CX0 (n + 5) T.f_must_put T.d_must_put ["tree","k"] (spMust n):=by
 refine T.F_must_put.ok (k:=n + 4) sc_must_put (fun vs H Q E h=>?_) (fun cdv A outer s H vs Q E hr h=>?_)
 · obtain ⟨t,k,v,rfl,_⟩:=h
   rfl
 obtain ⟨t,k,v,rfl,ht,hd,hl,q⟩:=h
 have nd:=sc_must_put.nd
 have G_part_at:=(ok_part (P:=P) (w:=w) (base:=base) T).mono (k:=n + 4) (by lia)
 have G_puts:=(ok_puts (P:=P) (w:=w) (base:=base) T n).mono (k:=n + 4) (by lia)
 have G_places:=(ok_places (P:=P) (w:=w) (base:=base) T n).mono (k:=n + 4) (by lia)
 refine ⟨_,(pss_one (ps_ret (pe_comp (N:=["place","k","tree"]) (caps:=[1,0]) rfl ⟨rfl,rfl,rfl,rfl,by decide +kernel,rfl,rfl,rfl,rfl⟩ (piL (pe_call G_places hr rfl T.m_places T.F_places.kp T.b_places .nil pass0 (pa_cons (pv 0) pa_nil))) (fun _ _ _ _=>pif_one (pt_val (pe_call G_puts hr rfl T.m_puts T.F_puts.kp T.b_puts .nil pass0 (pa_cons (pe_call G_part_at hr rfl T.m_part_at T.F_part_at.kp T.b_part_at .nil pass0 (pa_cons (pv 2) (pa_cons (pv 0) pa_nil))) (pa_cons (pv 1) pa_nil))))) (fun _ _ _ _=>(pv 0))))),?_⟩
 walk_at "rd"
 refine ⟨t,v,rfl,ht,hd,hl,fun p5 ys H5 S5 n5 e5 D5=>?_⟩
 have l5 : ys.length = t.pl.length:=by have:=D5.length; simpa using this
 have l6:=M.pl_len_le t
 refine WalkL.comp e5 (fun i zs H'=>H' = H5 ∧ zs.length ≤ i ∧ Dts H' (((t.pl.take i).filter (atQ t k)).map dP) zs) ⟨rfl,Nat.zero_le _,.nil⟩ (by (clear n5 e5 hd; lia)) (fun i zs H' h=>h.2.1) (fun i x zs H' ex S' h=>?_) (fun p7 zs H6 H7 S6 S7 h n7 e7=>?_)
 · obtain ⟨rfl,hz,D6⟩:=h
   have hi : i < t.pl.length:=by have:=(List.getElem?_eq_some_iff.mp ex).1; (clear hd hl n5 ex e5 l6 hz; lia)
   obtain ⟨v',hv',dv'⟩:=Dts.map_of D5 (List.getElem?_eq_getElem hi)
   rw [ex] at hv'; cases hv'
   obtain ⟨u,hu,hud⟩:=M.pl_sub (List.getElem_mem hi)
   have hg : atQ t k t.pl[i] = mustT k u:=by unfold atQ; rw [hu]
   walk_at "rd"
   have hud:=M.Tr.wk_plen t _ _ _ hud
   simp at hud
   refine ⟨t,u,_,v,x,rfl,ht.same S5,dv',hu,fun w' hw'=>⟨u,k,w',rfl,hw',by (clear l5 l6 ex e5 hz n5 hu hl hg; lia),_,rfl,ite2 (fun c=>?_) (fun c=>?_)⟩⟩
   · refine ⟨S',rfl,by simp; omega,?_⟩
     rw [List.take_add_one,List.getElem?_eq_getElem hi,List.filter_append]
     simp only [Option.toList_some,List.filter_cons,List.filter_nil,hg,c,if_true,List.map_append,List.map_cons,List.map_nil]
     exact D6.append (.one dv')
   · have c : mustT k u = false:=by simpa using c
     refine ⟨S',rfl,by (clear hd hl n5 l5 l6 ex e5 hud c hu hg; lia),?_⟩
     rw [List.take_add_one,List.getElem?_eq_getElem hi,List.filter_append]
     simp only [Option.toList_some,List.filter_cons,List.filter_nil,hg,c,Bool.false_eq_true,if_false,List.append_nil]
     exact D6
 · obtain ⟨rfl,hz,D6⟩:=h
   rw [l5,List.take_length,mustP_pl] at D6
   exact q p7 zs H7 (S5.trans S7) (S5.free n7) e7 (D6.same S7)
noncomputable def nK (t : L2.Tree) : Nat:=((t.wk []).filter fun q=>isK q.2).length
theorem nK_lv (t : L2.Tree) : nK t + 1 = t.lv.length:=by
 have h1:=t.wk_len []
 have h2 : ((t.wk []).filter fun q=>q.2.isL).length = t.lv.length:=by rw [← M.Tr.wk_lv t [],List.length_map]
 have h3 : ((t.wk []).filter fun q=>q.2.isL).length + nK t = (t.wk []).length:=by
  unfold nK isK
  generalize t.wk [] = l
  induction l with
  | nil=>rfl
  | cons q l ih =>
   simp only [List.filter_cons,List.length_cons]
   cases q.2.isL <;> simp <;> (clear h1 h2; lia)
 lia
noncomputable def dFour (a b c d : Int) : D:=.tup [.int a,.int b,.int c,.int d]
noncomputable def few (t : L2.Tree) (k : Int) : Prop:=k < 1 ∨ k = 1 ∧ 0 < nK t
noncomputable def spLeast (T : Txt K mg) : Sp:=fun vs H Q E=>∃ (t : L2.Tree) (k : Int) (v : V),vs = [v,.int k] ∧ Dt H (dT t) v ∧ t.dp ≤ 24 ∧ t.lv.length ≤ 32 ∧ k.natAbs.log2 < 1900 ∧ (few t k → ∀ H',Same H H' → E (.ref T.C_TooFew) none H') ∧
 (¬ few t k → RetD H (dFour (nK t + 1 : Nat) (nK t) (mustP t k).length (mustP t k).length) Q)
theorem ok_least (T : Txt K mg) : FnOk P w K mg base (CXE P w) 33 T.f_least T.d_least ["tree","k"] (spLeast T):=by
 refine T.F_least.okE (k:=32) sc_least (fun vs H Q E h=>?_) (fun cdv A outer s H vs Q E hr h L=>?_)
 · obtain ⟨t,k,v,rfl,_⟩:=h
   rfl
 obtain ⟨t,k,v,rfl,ht,hd,hl,hk,hf,q⟩:=h
 have nd:=sc_least.nd
 have G_is_leaf:=(ok_leaf (P:=P) (w:=w) (base:=base) T).mono (k:=32) (by omega)
 have G_places:=(ok_places (P:=P) (w:=w) (base:=base) T 24).mono (k:=32) (by omega)
 have G_leaves:=(ok_leaves (P:=P) (w:=w) (base:=base) T 24).mono (k:=32) (by omega)
 have G_must_put:=(ok_must (P:=P) (w:=w) (base:=base) T 24).mono (k:=32) (by omega)
 refine ⟨_,(pss_cons (ps_if (PW.pt (pw_or (pt_cmpR op_lt (pv 1) pe_int (nomark _)) (pw_or1 (PW.pt (pw_and (pt_cmpR op_eq (pv 1) pe_int (nomark _)) (pw_and1 (pt_not (pt_val (pe_call G_is_leaf hr rfl T.m_is_leaf T.F_is_leaf.kp T.b_is_leaf .nil pass0 (pa_cons (pv 0) pa_nil)))))))))) (pss_one (ps_raise L rfl T.m_TooFew T.x_TooFew rfl (pa_cons (pe_js (.cons pe_str (.cons (pe_fmtI (pv 1)) .nil))) pa_nil))) pss_nil)
  (pss_cons (ps_let (i:=2) nd rfl (Or.inl rfl) (pe_callB lenG rfl T.z_len bt_len (pa_cons (pe_call G_leaves hr rfl T.m_leaves T.F_leaves.kp T.b_leaves .nil pass0 (pa_cons (pv 0) pa_nil)) pa_nil)))
  (pss_cons (ps_let (i:=3) nd rfl (Or.inl rfl) (pe_op op_sub (pe_callB lenG rfl T.z_len bt_len (pa_cons (pe_call G_places hr rfl T.m_places T.F_places.kp T.b_places .nil pass0 (pa_cons (pv 0) pa_nil)) pa_nil)) (pv 2)))
  (pss_cons (ps_let (i:=4) nd rfl (Or.inl rfl) (pe_callB lenG rfl T.z_len bt_len (pa_cons (pe_call G_must_put hr rfl T.m_must_put T.F_must_put.kp T.b_must_put .nil pass0 (pa_cons (pv 0) (pa_cons (pv 1) pa_nil))) pa_nil)))
  (pss_one (ps_ret (pe_tup (pa_cons (pv 2) (pa_cons (pv 3) (pa_cons (pv 4) (pa_cons (pv 4) pa_nil))))))))))),?_⟩
 walk_at "rd"
 have zl : ∀ y : Nat,y ≤ 50000 → y ≤ sizeLine:=fun y hy=>small_le (by (clear hd hl hk hf q; lia))
 have ln1 : (Str.ofString "so many boxes are too few: ").length = 27:=by decide +kernel
 have hkk : k.natAbs.log2 < 1920:=by (clear hf q ln1 hd hl; lia)
 have tail : ¬ few t k → ∀ R : V → Hp → Prop,(∀ v' H',Q v' H' → R v' H') → spLeaves 24 [v] H (fun x H1=>∃ p,x = V.ref p ∧ ∃ x,itemsOf (H1 p) = some x ∧ spPlaces 24 [v] H1 (fun x_1 H1=>∃ p,x_1 = V.ref p ∧ ∃ x_2,itemsOf (H1 p) = some x_2 ∧
  spMust 24 [v,V.int k] H1 (fun x_3 H1=>∃ p,x_3 = V.ref p ∧ ∃ x_4,itemsOf (H1 p) = some x_4 ∧ 4 ≤ sizeLine ∧ NewO H1 (HO.tup [V.int x.length,V.int (x_2.length - x.length),V.int x_4.length,V.int x_4.length]) R) E0) E0) E0:=by
  intro nf R hR
  refine ⟨t,v,rfl,ht,hd,by lia,fun p1 ys H1 S1 n1 e1 D1=>⟨p1,rfl,ys,items_l e1,?_⟩⟩
  refine ⟨t,v,rfl,ht.same S1,hd,by lia,fun p2 zs H2 S2 n2 e2 D2=>⟨p2,rfl,zs,items_l e2,?_⟩⟩
  refine ⟨t,k,v,rfl,ht.same (S1.trans S2),hd,by lia,fun p3 us H3 S3 n3 e3 D3=>⟨p3,rfl,us,items_l e3,by decide,NewO.mk fun p4 H4 S4 n4 e4=>hR _ _ ?_⟩⟩
  have l1:=D1.length
  have l2:=D2.length
  have l3:=D3.length
  have h1 : ys.length = t.lv.length:=by rw [l1,List.length_map,lvp_wk,List.length_map,← M.Tr.wk_lv t [],List.length_map]
  have h2 : zs.length = (t.wk []).length:=by rw [l2,List.length_map,M.Tr.pl_wk,List.length_map]
  have h3:=t.wk_len []
  have h4:=nK_lv t
  rw [List.length_map] at l3
  rw [h1,h2,l3] at e4
  refine q nf _ _ ((S1.trans S2).trans (S3.trans S4)) (Dt.tup e4 (.cons (isD_int.mpr ?_) (.cons (isD_int.mpr ?_) (.cons (isD_int.mpr rfl) (.cons (isD_int.mpr rfl) .nil)))))
  · rw [h4]
  · congr 1; (clear hd hl hk hf q ln1 hkk nf n1 e1 n2 e2 n3 e3 n4 e4 l1 l2 l3 h1 h2; lia)
 refine ite2 (fun c=>?_) (fun c=>ite2 (fun d=>?_) (fun d=>?_))
 · have c:=of_decide_eq_true c
   refine ⟨zl _ ?_,hkk,fun z hz=>⟨zl _ ?_,zl _ ?_,by decide,hf (.inl c) H (Same.refl _)⟩⟩
   all_goals (simp only [slen,len_nil,ln1]; (clear hd hl hk hf q ln1 hkk tail c; lia))
 · have c : ¬ k < 1:=fun z=>c (decide_eq_true z)
   have d:=of_decide_eq_true d
   refine ⟨t,v,rfl,ht,_,rfl,ite2 (fun b=>?_) (fun b=>?_)⟩
   · have b : 0 < nK t:=by
      have b : isK t = true:=b
      obtain ⟨r,hr⟩:=wk_head t []
      unfold nK
      rw [hr,List.filter_cons,if_pos b]
      simp
     refine ⟨zl _ ?_,hkk,fun z hz=>⟨zl _ ?_,zl _ ?_,by decide,hf (.inr ⟨d,b⟩) H (Same.refl _)⟩⟩
     all_goals (simp only [slen,len_nil,ln1]; (clear hd hl hk hf q ln1 hkk tail c d b; lia))
   · have b : t.isL = true:=by simpa using b
     refine tail ?_ _ (fun _ _ h=>h)
     rintro (z | ⟨_,z⟩)
     · exact c z
     · cases t with
       | leaf x=>exact absurd z (by simp [nK,M.Tr.wk,isK,M.Tr.isL])
       | knot f l r=>cases b
 · have c : ¬ k < 1:=fun z=>c (decide_eq_true z)
   have d : ¬ k = 1:=fun z=>d (decide_eq_true z)
   exact tail (fun z=>z.elim c fun z=>d z.1) _ (fun _ _ h=>h)
noncomputable def dK (q : List Nat × L2.Tree) : D:=.tup [dP q.1,.str q.2.name,.bl (isK q.2)]
theorem dK_of {H : Hp} {q : List Nat × L2.Tree} {v : V} (h : Dt H (dK q) v) : ∃ a v1,v = .ref a ∧ H a = some (.tup [v1,.str q.2.name,.bl (isK q.2)]) ∧ Dt H (dP q.1) v1:=by
 obtain ⟨a,vs,rfl,e,h⟩:=isD_tup.mp h
 obtain ⟨v1,r,rfl,h1,h⟩:=isDs_cons.mp h
 obtain ⟨v2,r,rfl,h2,h⟩:=isDs_cons.mp h
 obtain ⟨v3,r,rfl,h3,h⟩:=isDs_cons.mp h
 rw [isDs_nil.mp h,isD_str.mp h2,isD_bl.mp h3] at e
 exact ⟨a,v1,rfl,e,h1⟩
noncomputable def spKnots (n : Nat) : Sp:=fun vs H Q _=>∃ (t : L2.Tree) (p : List Nat) (v u : V),vs = [v,u] ∧ Dt H (dT t) v ∧ Dt H (dP p) u ∧ t.dp ≤ n ∧ t.lv.length ≤ 5000 ∧ p.length + n ≤ 1000 ∧ RetL H ((t.wk p).map dK) Q
theorem ok_knots (T : Txt K mg) : ∀ n : Nat,FnOk P w K mg base CX0 (n + 1) T.f__law_knots T.d__law_knots ["tree","place"] (spKnots n)
 | 0=>by
  refine T.F__law_knots.ok (k:=0) sc__law_knots (fun vs H Q E h=>?_) (fun cdv A outer s H vs Q E hr h=>?_)
  · obtain ⟨t,p,v,u,rfl,_⟩:=h
    rfl
  · obtain ⟨t,p,v,u,rfl,_,_,h,_⟩:=h
    have:=t.dp_pos
    omega
 | n + 1=>by
  refine T.F__law_knots.ok (k:=n + 1) sc__law_knots (fun vs H Q E h=>?_) (fun cdv A outer s H vs Q E hr h=>?_)
  · obtain ⟨t,p,v,u,rfl,_⟩:=h
    rfl
  obtain ⟨t,p,v,u,rfl,ht,hp,hd,hl,hpl,q⟩:=h
  have nd:=sc__law_knots.nd
  have G__law_knots:=ok_knots T n
  refine ⟨_,(pss_cons (ps_if (pt_cmpR op_eq (pe_ix ixF (pv 0) pe_int (fun _ _=>rfl)) pe_str (nomark _)) (pss_one (ps_ret (pe_lst (pa_cons (pe_tup (pa_cons (pv 1) (pa_cons (pe_ix ixF (pv 0) pe_int (fun _ _=>rfl)) (pa_cons pe_bl pa_nil)))) pa_nil)))) pss_nil)
  (pss_one (ps_ret (pe_op op_cat (pe_op op_cat (pe_lst (pa_cons (pe_tup (pa_cons (pv 1) (pa_cons (pe_ix ixF (pv 0) pe_int (fun _ _=>rfl)) (pa_cons pe_bl pa_nil)))) pa_nil)) (pe_call G__law_knots hr rfl T.m__law_knots T.F__law_knots.kp T.b__law_knots .nil pass0 (pa_cons (pe_ix ixF (pv 0) pe_int (fun _ _=>rfl)) (pa_cons (pe_op op_catD (pv 1) (pe_tup (pa_cons pe_int pa_nil))) pa_nil)))) (pe_call G__law_knots hr rfl T.m__law_knots T.F__law_knots.kp T.b__law_knots .nil pass0 (pa_cons (pe_ix ixF (pv 0) pe_int (fun _ _=>rfl)) (pa_cons (pe_op op_catD (pv 1) (pe_tup (pa_cons pe_int pa_nil))) pa_nil))))))),?_⟩
  cases t with
  | leaf x =>
   obtain ⟨a,rfl,ea⟩:=dT_leaf ht
   walk_at "rd"
   refine ⟨_,items_t ea,_,atI_0,rfl,?_⟩
   rw [decide_eq_true rfl]
   refine iteT ⟨_,items_t ea,_,atI_1,by decide,NewO.mk fun p1 H1 S1 n1 e1=>⟨by decide,NewO.mk fun p2 H2 S2 n2 e2=>?_⟩⟩
   exact q p2 _ H2 (S1.trans S2) (S1.free n2) e2 (.one (Dt.tup (S2 _ _ e1) (.cons (hp.same (S1.trans S2)) (.cons (isD_str.mpr rfl) (.cons (isD_bl.mpr rfl) .nil)))))
  | knot f l r =>
   obtain ⟨a,vl,vr,rfl,ea,hl',hr'⟩:=dT_knot ht
   obtain ⟨b,rfl,eb⟩:=dP_of hp
   simp only [M.Tr.dp] at hd
   simp only [M.Tr.lv,List.length_append] at hl
   have b1:=l.wk_len (p ++ [0])
   have b2:=r.wk_len (p ++ [1])
   have vl_ : (vP p).length = p.length:=by simp [vP]
   walk_at "rd"
   refine ⟨_,items_t ea,_,atI_0,rfl,?_⟩
   rw [decide_eq_false (by simp only [V.str.injEq]; decide +kernel)]
   refine iteF ⟨_,items_t ea,_,atI_1,by decide,NewO.mk fun p1 H1 S1 n1 e1=>⟨by decide,NewO.mk fun p2 H2 S2 n2 e2=>?_⟩⟩
   have S12:=S1.trans S2
   have d1 : Dt H2 (dK (p,.knot f l r)) (.ref p1):=Dt.tup (S2 _ _ e1) (.cons (hp.same S12) (.cons (isD_str.mpr rfl) (.cons (isD_bl.mpr rfl) .nil)))
   try (walk_at "rd")
   refine ⟨_,items_t (S12 _ _ ea),_,atI_2,by decide,NewO.mk fun p3 H3 S3 n3 e3=>?_⟩
   try (walk_at "rd")
   refine ⟨_,S3 _ _ (S12 _ _ eb),_,e3,small_le (by simp; (clear n1 e1 n2 e2 n3 e3 ea eb hl b1 hd b2; lia)),fun p4 H4 S4 e4=>?_⟩
   have S24:=S3.trans S4
   have d4 : Dt H4 (dP (p ++ [0])) (.ref p4):=dP_mk (by rw [e4]; simp [vP])
   refine ⟨l,p ++ [0],vl,_,rfl,hl'.same (S12.trans S24),d4,by (clear n1 e1 n2 e2 n3 e3 e4 hl b1 b2 vl_ ea eb hpl; lia),by (clear n1 e1 n2 e2 n3 e3 e4 hpl hd ea eb b1 b2 vl_; lia),by simp; (clear n1 e1 n2 e2 n3 e3 e4 hl b1 b2 vl_ ea eb hd; lia),fun p5 ys H5 S5 n5 e5 D5=>?_⟩
   have l5:=D5.length
   simp at l5
   have S25:=S24.trans S5
   try (walk_at "rd")
   refine ⟨_,S25 _ _ e2,_,e5,small_le (by simp; (clear n2 e2 n3 e3 e4 hpl hd ea b2 vl_ n1 e1 n5 e5 eb; lia)),NewO.mk fun p6 H6 S6 n6 e6=>?_⟩
   have S26:=S25.trans S6
   try (walk_at "rd")
   refine ⟨_,items_t ((S12.trans S26) _ _ ea),_,atI_3,by decide,NewO.mk fun p7 H7 S7 n7 e7=>?_⟩
   try (walk_at "rd")
   refine ⟨_,S7 _ _ ((S12.trans S26) _ _ eb),_,e7,small_le (by simp; (clear e2 n3 e3 e4 n5 e5 l5 n6 e6 n7 e7 eb hl b1 e1 n2 ea b2 hd n1; lia)),fun p8 H8 S8 e8=>?_⟩
   have S28:=(S26.trans S7).trans S8
   have d8 : Dt H8 (dP (p ++ [1])) (.ref p8):=dP_mk (by rw [e8]; simp [vP])
   refine ⟨r,p ++ [1],vr,_,rfl,hr'.same (S12.trans S28),d8,by (clear n3 e3 e4 n5 e5 l5 n6 e6 n7 e7 e8 b2 vl_ n1 e1 n2 e2 eb hl b1 ea hpl; lia),by (clear n3 e3 e4 n5 e5 l5 n6 e6 n7 e7 e8 hpl hd ea e1 n2 e2 b1 b2 vl_ n1 eb; lia),by simp; (clear b2 vl_ n1 e1 n2 e2 n3 e3 e4 n5 e5 l5 n6 e6 n7 e7 e8 eb hl b1 ea hd; lia),fun p9 zs H9 S9 n9 e9 D9=>?_⟩
   have l9:=D9.length
   simp at l9
   have S29:=S28.trans S9
   try (walk_at "rd")
   refine ⟨_,S9 _ _ (S8 _ _ (S7 _ _ e6)),_,e9,small_le (by simp; (clear vl_ n1 e1 n2 e2 n3 e3 hpl hd ea eb e6 n7 e7 e8 n5 e5 n9 e9 e4 n6; lia)),NewO.mk fun pA HA SA nA eA=>?_⟩
   try (walk_at "rd")
   refine q pA _ HA (S12.trans (S29.trans SA)) ((S12.trans S29).free nA) eA ?_
   have S6A:=((S7.trans S8).trans S9).trans SA
   have D5':=(D5.same S6).same S6A
   simp only [M.Tr.wk,List.map_cons,List.map_append]
   exact Dts.append (.cons (d1.same (S29.trans SA)) D5') (D9.same SA)
open M (inN)
noncomputable def okDeed (names deeds : List Str) (k m : Int) : Deed → Prop
 | .take x i=>x ∈ names ∧ inN k i
 | .join f i j h=>f ∈ deeds ∧ inN k i ∧ inN k j ∧ inN k h
 | .put i s=>inN k i ∧ inN m s
 | .fetch s i=>inN m s ∧ inN k i
theorem okd_ok {names deeds : List Str} {k m : Int} {d : L2.Deed} (h : okDeed names deeds k m d) : d.ok k m:=by
 cases d with
 | take x i=>exact ⟨fun z hz=>by simp [M.Deed.bn] at hz; rw [hz]; exact h.2,fun z hz=>by simp [M.Deed.sn] at hz⟩
 | join f i j l=>exact ⟨fun z hz=>by
  simp [M.Deed.bn] at hz
  rcases hz with rfl | rfl | rfl
  · exact h.2.1
  · exact h.2.2.1
  · exact h.2.2.2,fun z hz=>by simp [M.Deed.sn] at hz⟩
 | put i j=>exact ⟨fun z hz=>by simp [M.Deed.bn] at hz; rw [hz]; exact h.1,fun z hz=>by simp [M.Deed.sn] at hz; rw [hz]; exact h.2⟩
 | fetch j i=>exact ⟨fun z hz=>by simp [M.Deed.bn] at hz; rw [hz]; exact h.2,fun z hz=>by simp [M.Deed.sn] at hz; rw [hz]; exact h.1⟩
theorem inN_mod (z : Int) {k : Int} (h : 1 ≤ k) : inN k (z % k):=⟨Int.emod_nonneg _ (by omega),Int.emod_lt_of_pos _ (by omega)⟩
noncomputable def wordOf (z : Nat) : Str:=if z < 2 then Str.ofString "take" else if z < 5 then Str.ofString "join" else if z = 5 then Str.ofString "put" else Str.ofString "fetch"
theorem word_at (z : Int) (h0 : 0 ≤ z) (h : z < 7) : atI [V.str (Str.ofString "take"),V.str (Str.ofString "take"),V.str (Str.ofString "join"),V.str (Str.ofString "join"),V.str (Str.ofString "join"),V.str (Str.ofString "put"),V.str (Str.ofString "fetch")] z = some (.str (wordOf z.toNat)):=by
 rcases (show z = 0 ∨ z = 1 ∨ z = 2 ∨ z = 3 ∨ z = 4 ∨ z = 5 ∨ z = 6 by lia) with rfl | rfl | rfl | rfl | rfl | rfl | rfl <;> rfl
theorem word_cases (z : Nat) : wordOf z = Str.ofString "take" ∨ wordOf z = Str.ofString "join" ∨ wordOf z = Str.ofString "put" ∨ wordOf z = Str.ofString "fetch":=by
 unfold wordOf
 split
 · simp
 · split
   · simp
   · split <;> simp
noncomputable def spDeed (K : PySem.W.Frag) : Sp:=fun vs H Q _=>∃ (a pn pd : Addr) (ns : List Int) (n k m : Int) (names deeds : List Str),vs = [.ref a,.int n,.ref pn,.ref pd,.int k,.int m] ∧ SqL K H a (ns.map V.int) ∧ ns.length ≤ 63 ∧ 0 ≤ n ∧ n < 1000000 ∧
 H pn = some (.lst (names.map V.str)) ∧ names ≠ [] ∧ names.length ≤ 1000 ∧ H pd = some (.lst (deeds.map V.str)) ∧ deeds.length = 3 ∧ 1 ≤ k ∧ k ≤ 10000 ∧ 1 ≤ m ∧ m ≤ 10000 ∧ ∀ d v H',Same H H' → Dt H' (dDeed d) v → okDeed names deeds k m d → Q v H'
seal PSs PS PE PT PA PI PIfs in
theorem ok_deed (T : Txt K mg) : FnOk P w K mg base CX0 2 T.f__law_deed T.d__law_deed ["script","n","names","deeds","k","many"] (spDeed K):=by
 refine T.F__law_deed.ok (k:=1) sc__law_deed (fun vs H Q E h=>?_) (fun cdv A outer s H vs Q E hr h=>?_)
 · obtain ⟨a,pn,pd,ns,n,k,m,names,deeds,rfl,_⟩:=h
   rfl
 obtain ⟨a,pn,pd,ns,n,k,m,names,deeds,rfl,hS,h63,hn0,hn1,en,hne,hnl,ed,hdl,k1,k2,m1,m2,q⟩:=h
 have nd:=sc__law_deed.nd
 have G__law_at:=(ok_at (P:=P) (w:=w) (base:=base) T).mono (k:=1) (by omega)
 refine ⟨_,(pss_cons (ps_let (i:=6) nd rfl (Or.inl rfl) (pe_call G__law_at hr rfl T.m__law_at T.F__law_at.kp T.b__law_at .nil pass0 (pa_cons (pv 0) (pa_cons (pv 1) pa_nil))))
  (pss_cons (ps_let (i:=7) nd rfl (Or.inl rfl) (pe_ix ixF (pe_lst (pa_cons pe_str (pa_cons pe_str (pa_cons pe_str (pa_cons pe_str (pa_cons pe_str (pa_cons pe_str (pa_cons pe_str pa_nil)))))))) (pe_op op_mod (pv 6) pe_int) (fun _ _=>rfl)))
  (pss_cons (ps_let (i:=6) nd rfl (Or.inl rfl) (pe_op op_fdiv (pv 6) pe_int))
  (pss_cons (ps_if (pt_cmpR op_eq (pv 7) pe_str (nomark _)) (pss_one (ps_ret (pe_tup (pa_cons (pv 7) (pa_cons (pe_ix ixF (pv 2) (pe_op op_mod (pv 6) (pe_callB lenG rfl T.z_len bt_len (pa_cons (pv 2) pa_nil))) (fun _ _=>rfl)) (pa_cons (pe_op op_mod (pe_op op_fdiv (pv 6) (pe_callB lenG rfl T.z_len bt_len (pa_cons (pv 2) pa_nil))) (pv 4)) pa_nil)))))) pss_nil)
  (pss_cons (ps_if (pt_cmpR op_eq (pv 7) pe_str (nomark _)) (pss_one (ps_ret (pe_tup (pa_cons (pv 7) (pa_cons (pe_ix ixF (pv 3) (pe_op op_mod (pv 6) pe_int) (fun _ _=>rfl)) (pa_cons (pe_op op_mod (pe_op op_fdiv (pv 6) pe_int) (pv 4)) (pa_cons (pe_op op_mod (pe_op op_fdiv (pv 6) (pe_op op_mul pe_int (pv 4))) (pv 4)) (pa_cons (pe_op op_mod (pe_op op_fdiv (pv 6) (pe_op op_mul (pe_op op_mul pe_int (pv 4)) (pv 4))) (pv 4)) pa_nil)))))))) pss_nil)
  (pss_cons (ps_if (pt_cmpR op_eq (pv 7) pe_str (nomark _)) (pss_one (ps_ret (pe_tup (pa_cons (pv 7) (pa_cons (pe_op op_mod (pv 6) (pv 4)) (pa_cons (pe_op op_mod (pe_op op_fdiv (pv 6) (pv 4)) (pv 5)) pa_nil)))))) pss_nil)
  (pss_one (ps_ret (pe_tup (pa_cons (pv 7) (pa_cons (pe_op op_mod (pv 6) (pv 5)) (pa_cons (pe_op op_mod (pe_op op_fdiv (pv 6) (pv 5)) (pv 4)) pa_nil)))))))))))),?_⟩
 refine cutC3 fun C hC=>?_
 walk_at "rd"
 refine ⟨a,ns,n,rfl,hS,h63,hn0,hn1,?_⟩
 generalize lawAt ns n.toNat = cell
 try (walk_at "rd")
 refine ⟨by decide,NewO.mk fun p1 H1 S1 n1 e1=>⟨by decide,p1,rfl,_,items_l e1,_,word_at _ (by (clear h63 hn0 hn1 en hne hnl ed hdl k1 k2 m1 m2 hC n1 e1; lia)) (by (clear h63 hn0 hn1 en hne hnl ed hdl k1 k2 m1 m2 hC n1 e1; lia)),⟨by decide,by decide⟩,?_⟩⟩
 have hw:=word_cases (cell % 7).toNat
 generalize wordOf (cell % 7).toNat = word at hw
 generalize cell / 7 = c
 have dne : ∀ {x y : String},(Str.ofString x == Str.ofString y) = false → decide (V.str (Str.ofString x) = V.str (Str.ofString y)) = false:=fun {x y} h=>decide_eq_false (fun z=>by
  have:=V.str.inj z
  rw [this] at h
  simp at h)
 have len : 1 ≤ names.length:=by cases names with | nil=>exact absurd rfl hne | cons=>simp
 have sq : 3 * k * k ≤ 300000000:=by
  have h1 : 3 * k * k ≤ 3 * k * 10000:=Int.mul_le_mul_of_nonneg_left k2 (by (clear k2 m1 m2 hC n1 e1 hw len h63 hn0 hn1 en hne hnl ed hdl; lia))
  (clear h63 hn0 hn1 en hne hnl ed hdl k1 hC n1 e1 m2 hw m1 len; omega)
 have sq1 : 0 < 3 * k * k:=Int.mul_pos (by (clear k2 m1 m2 hC n1 e1 hw len sq h63 hn0 hn1 en hne hnl ed hdl; omega)) (by (clear k2 m1 m2 hC n1 e1 hw len sq h63 hn0 hn1 en hne hnl ed hdl; omega))
 rw [hC]
 clear hC C
 refine cutC1 fun C hC=>?_
 walk_at "rd"
 rcases hw with rfl | hw
 · rw [decide_eq_true rfl]
   have z0 : 0 ≤ c % (((names.map V.str).length : Nat) : Int):=Int.emod_nonneg _ (by rw [List.length_map]; (clear h63 hn0 hn1 en hne hnl ed hdl k1 k2 m1 m2 n1 e1 hC sq1 sq; omega))
   have z1 : c % (((names.map V.str).length : Nat) : Int) < names.length:=by
    have:=Int.emod_lt_of_pos c (show (0 : Int) < (((names.map V.str).length : Nat) : Int) by rw [List.length_map]; (clear h63 hn0 hn1 en hne hnl ed hdl k1 k2 sq sq1 hC z0 m1 m2 n1 e1; omega))
    simpa using this
   obtain ⟨y,hy⟩ : ∃ y,names[(c % (((names.map V.str).length : Nat) : Int)).toNat]? = some y:=⟨_,List.getElem?_eq_getElem (by (clear h63 hn0 hn1 en hne hnl ed hdl k1 k2 m1 m2 n1 e1 len sq sq1 hC; lia))⟩
   refine iteT ⟨_,items_l (S1 _ _ en),by rw [List.length_map]; (clear h63 hn0 hn1 en hne hnl ed hdl k1 k2 m1 hC z0 z1 hy m2 n1 e1 sq1 sq; omega),_,items_l (S1 _ _ en),.str y,atI_int z0 (by rw [List.getElem?_map,hy]; rfl),_,items_l (S1 _ _ en),⟨by rw [List.length_map]; (clear h63 hn0 hn1 en hne hnl ed hdl k1 k2 m1 hC z0 z1 hy m2 n1 e1 sq1 sq; omega),by rw [List.length_map]; (clear m2 n1 e1 len sq sq1 hC z0 z1 hy ed hdl k1 k2 m1 h63 hn0 hn1 en hne; omega)⟩,by (clear m2 n1 e1 len sq sq1 hC z0 z1 hy h63 hn0 hn1 en hne hnl k2 m1 ed hdl; omega),by decide,NewO.mk fun p2 H2 S2 n2 e2=>?_⟩
   exact q (.take y _) _ H2 (S1.trans S2) (Dt.tup e2 (.cons (isD_str.mpr rfl) (.cons (isD_str.mpr rfl) (.cons (isD_int.mpr rfl) .nil)))) ⟨List.mem_of_getElem? hy,inN_mod _ k1⟩
 have nt : decide (word = Str.ofString "take") = false:=decide_eq_false (by rcases hw with rfl | rfl | rfl <;> decide +kernel)
 rw [nt]
 refine iteF ?_
 rw [hC]
 clear hC C nt
 refine cutC1 fun C hC=>?_
 walk_at "rd"
 rcases hw with rfl | hw
 · rw [decide_eq_true rfl]
   obtain ⟨y,hy⟩ : ∃ y,deeds[(c % 3).toNat]? = some y:=⟨_,List.getElem?_eq_getElem (by (clear k2 m1 m2 n1 e1 len sq sq1 hC h63 hn0 hn1 en hne k1 hnl ed; lia))⟩
   refine iteT ⟨by decide,_,items_l (S1 _ _ ed),.str y,atI_int (by (clear h63 hn0 hn1 en hne hnl ed hdl k1 k2 m1 m2 n1 e1 len sq sq1 hC hy; lia)) (by rw [List.getElem?_map,hy]; rfl),⟨by decide,by decide⟩,by (clear m1 m2 n1 e1 len sq sq1 hC hy h63 hn0 hn1 en hne hnl ed hdl k2; omega),.inl ⟨by decide,by decide⟩,⟨by (clear h63 hn0 hn1 en hne m1 m2 n1 e1 len sq sq1 hC hy hnl ed hdl k2; omega),by (clear m1 m2 n1 e1 len sq sq1 hC hy h63 hn0 hn1 en hne hnl ed hdl k1; omega)⟩,by (clear m1 m2 n1 e1 len sq sq1 hC hy h63 hn0 hn1 en hne hnl ed hdl k2; omega),.inl ⟨by decide,by decide⟩,.inl ⟨by (clear m1 m2 n1 e1 len sq sq1 hC hy h63 hn0 hn1 en hne hnl ed hdl k2; omega),by (clear m1 m2 n1 e1 len sq sq1 hC hy h63 hn0 hn1 en hne hnl ed hdl k1; omega)⟩,⟨sq1,by (clear h63 hn0 hn1 en hne hnl ed hdl k1 k2 m1 m2 n1 e1 len hy hC sq1; omega)⟩,by (clear m1 m2 n1 e1 len sq sq1 hC hy h63 hn0 hn1 en hne hnl ed hdl k2; omega),by decide,NewO.mk fun p2 H2 S2 n2 e2=>?_⟩
   exact q (.join y _ _ _) _ H2 (S1.trans S2) (Dt.tup e2 (.cons (isD_str.mpr rfl) (.cons (isD_str.mpr rfl) (.cons (isD_int.mpr rfl) (.cons (isD_int.mpr rfl) (.cons (isD_int.mpr rfl) .nil)))))) ⟨List.mem_of_getElem? hy,inN_mod _ k1,inN_mod _ k1,inN_mod _ k1⟩
 have nt : decide (word = Str.ofString "join") = false:=decide_eq_false (by rcases hw with rfl | rfl <;> decide +kernel)
 rw [nt]
 refine iteF ?_
 rw [hC]
 clear hC C nt
 walk_at "rd"
 rcases hw with rfl | rfl
 · rw [decide_eq_true rfl]
   refine iteT ⟨by (clear k2 m1 m2 n1 e1 len sq sq1 h63 hn0 hn1 en hne hnl ed hdl; omega),⟨by (clear k2 m1 m2 n1 e1 len sq sq1 h63 hn0 hn1 en hne hnl ed hdl; omega),by (clear h63 hn0 hn1 en hne hnl ed hdl k1 len sq sq1 n1 e1 m2 m1; omega)⟩,by (clear h63 hn0 hn1 en hne hnl ed hdl k1 len sq sq1 n1 e1 m2 k2; omega),by decide,NewO.mk fun p2 H2 S2 n2 e2=>?_⟩
   exact q (.put _ _) _ H2 (S1.trans S2) (Dt.tup e2 (.cons (isD_str.mpr rfl) (.cons (isD_int.mpr rfl) (.cons (isD_int.mpr rfl) .nil)))) ⟨inN_mod _ k1,inN_mod _ m1⟩
 · rw [decide_eq_false (by decide +kernel)]
   refine iteF ⟨by (clear h63 hn0 hn1 en hne hnl ed hdl k1 len sq sq1 n1 e1 m2 k2; omega),⟨by (clear h63 hn0 hn1 en hne hnl ed hdl k1 len sq sq1 n1 e1 m2 k2; omega),by (clear h63 hn0 hn1 en hne hnl ed hdl k1 len sq sq1 n1 e1 k2 m1; omega)⟩,by (clear k2 m1 m2 n1 e1 len sq sq1 h63 hn0 hn1 en hne hnl ed hdl; omega),by decide,NewO.mk fun p2 H2 S2 n2 e2=>?_⟩
   exact q (.fetch _ _) _ H2 (S1.trans S2) (Dt.tup e2 (.cons (isD_str.mpr rfl) (.cons (isD_int.mpr rfl) (.cons (isD_int.mpr rfl) .nil)))) ⟨inN_mod _ m1,inN_mod _ k1⟩
theorem wF {x y : Str} {a b : Prop} (h : (x == y) = false) (q : b) : if decide (V.str x = V.str y) = true then a else b:=by rw [w_no h]; exact iteF q
theorem wT {x : Str} {a b : Prop} (q : a) : if decide (V.str x = V.str x) = true then a else b:=by rw [w_yes]; exact iteT q
theorem getD_map {α β : Type} (g : α → β) (l : List α) (i : Nat) (z : α) : (l.map g).getD i (g z) = g (l.getD i z):=by
 rw [List.getD_eq_getElem?_getD,List.getD_eq_getElem?_getD,List.getElem?_map]
 cases l[i]? <;> rfl
theorem nls_set {x : D} (hx : x.nl = true) : ∀ (B : List D) (n : Nat),D.nls B = true → D.nls (B.set n x) = true
 | [],_,h=>h
 | b :: B,0,h=>by
  simp only [D.nls,Bool.and_eq_true,List.set_cons_zero] at h ⊢
  exact ⟨hx,h.2⟩
 | b :: B,n + 1,h=>by
  simp only [D.nls,Bool.and_eq_true,List.set_cons_succ] at h ⊢
  exact ⟨h.1,nls_set hx B n h.2⟩
theorem dts_int {H : Hp} : ∀ is : List Int,Dts H (is.map D.int) (is.map V.int)
 | []=>.nil
 | i :: is=>.cons (isD_int.mpr rfl) (dts_int is)
noncomputable def spBoxN : Sp:=fun vs H Q _=>∃ (d : L2.Deed) (v : V),vs = [v] ∧ Dt H (dDeed d) v ∧ ∀ p H',Same H H' → H' p = some (.lst (d.bn.map V.int)) → Q (.ref p) H'
seal PSs PS PE PT PA PI PIfs in
theorem ok_boxn (T : Txt K mg) : FnOk P w K mg base CX0 1 T.f_box_numbers T.d_box_numbers ["deed"] spBoxN:=by
 refine T.F_box_numbers.ok (k:=0) sc_box_numbers (fun vs H Q E h=>?_) (fun cdv A outer s H vs Q E hr h=>?_)
 · obtain ⟨d,v,rfl,_⟩:=h
   rfl
 obtain ⟨d,v,rfl,hd,q⟩:=h
 obtain ⟨a,rfl,ea⟩:=deed_of hd
 have nd:=sc_box_numbers.nd
 refine ⟨_,(pss_cons (ps_if (pt_cmpR op_eq (pe_ix ixF (pv 0) pe_int (fun _ _=>rfl)) pe_str (nomark _)) (pss_one (ps_ret (pe_lst (pa_cons (pe_ix ixF (pv 0) pe_int (fun _ _=>rfl)) (pa_cons (pe_ix ixF (pv 0) pe_int (fun _ _=>rfl)) (pa_cons (pe_ix ixF (pv 0) pe_int (fun _ _=>rfl)) pa_nil)))))) pss_nil)
  (pss_cons (ps_if (pt_cmpR op_eq (pe_ix ixF (pv 0) pe_int (fun _ _=>rfl)) pe_str (nomark _)) (pss_one (ps_ret (pe_lst (pa_cons (pe_ix ixF (pv 0) pe_int (fun _ _=>rfl)) pa_nil)))) pss_nil)
  (pss_one (ps_ret (pe_lst (pa_cons (pe_ix ixF (pv 0) pe_int (fun _ _=>rfl)) pa_nil)))))),?_⟩
 walk_at "rd"
 cases d
 all_goals simp only [vDeed] at ea
 all_goals refine ⟨_,items_t ea,_,atI_0,rfl,?_⟩
 · exact wF w_tj ⟨_,items_t ea,_,atI_0,rfl,wF w_tp ⟨_,items_t ea,_,atI_2,by decide,NewO.mk fun p H' S n e=>q p H' S e⟩⟩
 · exact wT ⟨_,items_t ea,_,atI_2,_,items_t ea,_,atI_3,_,items_t ea,_,atI_4,by decide,NewO.mk fun p H' S n e=>q p H' S e⟩
 · exact wF w_pj ⟨_,items_t ea,_,atI_0,rfl,wT ⟨_,items_t ea,_,atI_1,by decide,NewO.mk fun p H' S n e=>q p H' S e⟩⟩
 · exact wF w_fj ⟨_,items_t ea,_,atI_0,rfl,wF w_fp ⟨_,items_t ea,_,atI_2,by decide,NewO.mk fun p H' S n e=>q p H' S e⟩⟩
noncomputable def spShelfN : Sp:=fun vs H Q _=>∃ (d : L2.Deed) (v : V),vs = [v] ∧ Dt H (dDeed d) v ∧ ∀ p H',Same H H' → H' p = some (.lst (d.sn.map V.int)) → Q (.ref p) H'
seal PSs PS PE PT PA PI PIfs in
theorem ok_shelfn (T : Txt K mg) : FnOk P w K mg base CX0 1 T.f_shelf_numbers T.d_shelf_numbers ["deed"] spShelfN:=by
 refine T.F_shelf_numbers.ok (k:=0) sc_shelf_numbers (fun vs H Q E h=>?_) (fun cdv A outer s H vs Q E hr h=>?_)
 · obtain ⟨d,v,rfl,_⟩:=h
   rfl
 obtain ⟨d,v,rfl,hd,q⟩:=h
 obtain ⟨a,rfl,ea⟩:=deed_of hd
 have nd:=sc_shelf_numbers.nd
 refine ⟨_,(pss_cons (ps_if (pt_cmpR op_eq (pe_ix ixF (pv 0) pe_int (fun _ _=>rfl)) pe_str (nomark _)) (pss_one (ps_ret (pe_lst (pa_cons (pe_ix ixF (pv 0) pe_int (fun _ _=>rfl)) pa_nil)))) pss_nil)
  (pss_cons (ps_if (pt_cmpR op_eq (pe_ix ixF (pv 0) pe_int (fun _ _=>rfl)) pe_str (nomark _)) (pss_one (ps_ret (pe_lst (pa_cons (pe_ix ixF (pv 0) pe_int (fun _ _=>rfl)) pa_nil)))) pss_nil)
  (pss_one (ps_ret (pe_lst pa_nil))))),?_⟩
 walk_at "rd"
 cases d
 all_goals simp only [vDeed] at ea
 all_goals refine ⟨_,items_t ea,_,atI_0,rfl,?_⟩
 · exact wF w_tp ⟨_,items_t ea,_,atI_0,rfl,wF w_tf ⟨by decide,NewO.mk fun p H' S n e=>q p H' S e⟩⟩
 · exact wF w_jp ⟨_,items_t ea,_,atI_0,rfl,wF w_jf ⟨by decide,NewO.mk fun p H' S n e=>q p H' S e⟩⟩
 · exact wT ⟨_,items_t ea,_,atI_2,by decide,NewO.mk fun p H' S n e=>q p H' S e⟩
 · exact wF w_fp ⟨_,items_t ea,_,atI_0,rfl,wT ⟨_,items_t ea,_,atI_1,by decide,NewO.mk fun p H' S n e=>q p H' S e⟩⟩
noncomputable def spChkN : Sp:=fun vs H Q _=>∃ (d : L2.Deed) (v : V) (p : Addr) (is : List Int) (n : Int),vs = [v,.ref p,.int n] ∧ Dt H (dDeed d) v ∧ H p = some (.lst (is.map V.int)) ∧ (∀ i ∈ is,M.inN n i) ∧ Q .non H
seal PSs PS PE PT PA PI PIfs in
theorem ok_chkn (T : Txt K mg) : FnOk P w K mg base CX0 1 T.f_check_numbers T.d_check_numbers ["deed","asked","there"] spChkN:=by
 refine T.F_check_numbers.ok (k:=0) sc_check_numbers (fun vs H Q E h=>?_) (fun cdv A outer s H vs Q E hr h=>?_)
 · obtain ⟨d,v,p,is,n,rfl,_⟩:=h
   rfl
 obtain ⟨d,v,p,is,n,rfl,hd,ep,hin,q⟩:=h
 obtain ⟨a,rfl,ea⟩:=deed_of hd
 have nd:=sc_check_numbers.nd
 refine ⟨_,(pss_one (ps_for PassesOwn.never rfl (piL (pv 1)) (pg_name (i:=3) nd rfl (Or.inl rfl)) (pss_one (ps_if (pt_not (pt_chain op_le op_lt pe_int (pv 3) (pv 2))) (pss_one ps_never) pss_nil)))),?_⟩
 walk_at "rd"
 obtain ⟨Pv,hPv⟩ : ∃ Pv : Nat → St → Hp → Prop,∀ i σ H',Pv i σ H' ↔ H' = H ∧ ∃ o3 : Option V,σ = [some (.ref a),some (.ref p),some (.int n),o3]:=⟨_,fun _ _ _=>Iff.rfl⟩
 refine WalkL.for ep Pv ((hPv _ _ _).mpr ⟨rfl,none,rfl⟩) (fun i σ H' _ h=>((hPv _ _ _).mp h).1 ▸ ep) ?_ ?_
 · intro i y σ H' ey h
   obtain ⟨rfl,o3,rfl⟩:=(hPv _ _ _).mp h
   obtain ⟨z,hz,rfl⟩ : ∃ z,z ∈ is ∧ V.int z = y:=List.mem_map.mp (List.mem_of_getElem? ey)
   obtain ⟨z1,z2⟩:=hin z hz
   walk_at "rd"
   rw [decide_eq_true z1]
   refine iteT ?_
   rw [decide_eq_true z2]
   exact iteF ((hPv _ _ _).mpr ⟨rfl,_,rfl⟩)
 · intro σ H' h
   obtain ⟨rfl,o3,rfl⟩:=(hPv _ _ _).mp h
   walk_at "rd"
   exact q
noncomputable def spChk : Sp:=fun vs H Q _=>∃ (d : L2.Deed) (B S : List D) (v u : V),vs = [v,u] ∧ Dt H (dDeed d) v ∧ Dt H (.tup [.lst B,.lst S]) u ∧ d.ok B.length S.length ∧ ∀ H',Same H H' → Q .non H'
seal PSs PS PE PT PA PI PIfs in
theorem ok_chk (T : Txt K mg) : FnOk P w K mg base CX0 2 T.f_check_deed T.d_check_deed ["deed","state"] spChk:=by
 refine T.F_check_deed.ok (k:=1) sc_check_deed (fun vs H Q E h=>?_) (fun cdv A outer s H vs Q E hr h=>?_)
 · obtain ⟨d,B,S,v,u,rfl,_⟩:=h
   rfl
 obtain ⟨d,B,S,v,u,rfl,hd,hu,ok,q⟩:=h
 obtain ⟨p,b,s',vs,us,rfl,ep,eb,es,db,ds⟩:=st_of hu
 have nd:=sc_check_deed.nd
 have G_box_numbers:=ok_boxn (P:=P) (w:=w) (base:=base) T
 have G_shelf_numbers:=ok_shelfn (P:=P) (w:=w) (base:=base) T
 have G_check_numbers:=ok_chkn (P:=P) (w:=w) (base:=base) T
 refine ⟨_,(pss_cons (ps_expr (pe_call G_check_numbers hr rfl T.m_check_numbers T.F_check_numbers.kp T.b_check_numbers .nil pass0 (pa_cons (pv 0) (pa_cons (pe_call G_box_numbers hr rfl T.m_box_numbers T.F_box_numbers.kp T.b_box_numbers .nil pass0 (pa_cons (pv 0) pa_nil)) (pa_cons (pe_callB lenG rfl T.z_len bt_len (pa_cons (pe_ix ixF (pv 1) pe_int (fun _ _=>rfl)) pa_nil)) pa_nil)))))
  (pss_one (ps_expr (pe_call G_check_numbers hr rfl T.m_check_numbers T.F_check_numbers.kp T.b_check_numbers .nil pass0 (pa_cons (pv 0) (pa_cons (pe_call G_shelf_numbers hr rfl T.m_shelf_numbers T.F_shelf_numbers.kp T.b_shelf_numbers .nil pass0 (pa_cons (pv 0) pa_nil)) (pa_cons (pe_callB lenG rfl T.z_len bt_len (pa_cons (pe_ix ixF (pv 1) pe_int (fun _ _=>rfl)) pa_nil)) pa_nil))))))),?_⟩
 walk_at "rd"
 refine ⟨d,v,rfl,hd,fun p1 H1 S1 e1=>?_⟩
 try (walk_at "rd")
 have lb:=db.length
 have ls:=ds.length
 refine ⟨_,items_t (S1 _ _ ep),_,atI_0,_,rfl,_,items_l (S1 _ _ eb),?_⟩
 refine ⟨d,v,p1,d.bn,(B.length : Int),by rw [lb],hd.same S1,e1,ok.1,?_⟩
 refine ⟨d,v,rfl,hd.same S1,fun p2 H2 S2 e2=>?_⟩
 have S02:=S1.trans S2
 refine ⟨_,items_t (S02 _ _ ep),_,atI_1,_,rfl,_,items_l (S02 _ _ es),?_⟩
 exact ⟨d,v,p2,d.sn,(S.length : Int),by rw [ls],hd.same S02,e2,ok.2,q H2 S02⟩
noncomputable def spMoved : Sp:=fun vs H Q _=>∃ (d : L2.Deed) (B S : List D) (v u : V),vs = [v,u] ∧ Dt H (dDeed d) v ∧ Dt H (.tup [.lst B,.lst S]) u ∧ d.ok B.length S.length ∧ (match d with | .put _ _=>True | .fetch _ _=>True | _=>False) ∧ ∀ x,Dt H (d.val D.non (fun _=>.non) (fun _ _ _=>.non) (B,S)) x → Q x H
seal PSs PS PE PT PA PI PIfs in
theorem ok_moved (T : Txt K mg) : FnOk P w K mg base CX0 1 T.f_moved_value T.d_moved_value ["deed","state"] spMoved:=by
 refine T.F_moved_value.ok (k:=0) sc_moved_value (fun vs H Q E h=>?_) (fun cdv A outer s H vs Q E hr h=>?_)
 · obtain ⟨d,B,S,v,u,rfl,_⟩:=h
   rfl
 obtain ⟨d,B,S,v,u,rfl,hd,hu,ok,hm,q⟩:=h
 obtain ⟨a,rfl,ea⟩:=deed_of hd
 obtain ⟨p,b,s',vs,us,rfl,ep,eb,es,db,ds⟩:=st_of hu
 have nd:=sc_moved_value.nd
 refine ⟨_,(pss_cons (ps_if (pt_cmpR op_eq (pe_ix ixF (pv 0) pe_int (fun _ _=>rfl)) pe_str (nomark _)) (pss_one (ps_ret (pe_ix ixF (pe_ix ixF (pv 1) pe_int (fun _ _=>rfl)) (pe_ix ixF (pv 0) pe_int (fun _ _=>rfl)) (fun _ _=>rfl)))) pss_nil)
  (pss_one (ps_ret (pe_ix ixF (pe_ix ixF (pv 1) pe_int (fun _ _=>rfl)) (pe_ix ixF (pv 0) pe_int (fun _ _=>rfl)) (fun _ _=>rfl))))),?_⟩
 walk_at "rd"
 cases d with
 | take=>exact hm.elim
 | join=>exact hm.elim
 | put i j =>
  obtain ⟨y,hy,dy⟩:=getD_at db (ok.1 i (by simp [M.Deed.bn]))
  refine ⟨_,items_t ea,_,atI_0,rfl,wT ?_⟩
  exact ⟨_,items_t ep,_,atI_0,_,items_t ea,_,atI_1,b,rfl,vs,i,rfl,items_l eb,y,hy,q y dy⟩
 | fetch j i =>
  obtain ⟨y,hy,dy⟩:=getD_at ds (ok.2 j (by simp [M.Deed.sn]))
  exact ⟨_,items_t ea,_,atI_0,rfl,wF w_fp ⟨_,items_t ep,_,atI_1,_,items_t ea,_,atI_1,s',rfl,us,j,rfl,items_l es,y,hy,q y dy⟩⟩
noncomputable def spBehind : Sp:=fun vs H Q _=>∃ (d : L2.Deed) (B S : List D) (x : D) (v u y : V),vs = [v,u,y] ∧ Dt H (dDeed d) v ∧ Dt H (.tup [.lst B,.lst S]) u ∧ d.ok B.length S.length ∧ D.nls B = true ∧ D.nls S = true ∧ x.nl = true ∧ Dt H x y ∧ RetS H (d.set x (B,S)) Q
seal PSs PS PE PT PA PI PIfs in
theorem ok_behind (T : Txt K mg) : FnOk P w K mg base CX0 1 T.f_state_behind T.d_state_behind ["deed","state","value"] spBehind:=by
 refine T.F_state_behind.ok (k:=0) sc_state_behind (fun vs H Q E h=>?_) (fun cdv A outer s H vs Q E hr h=>?_)
 · obtain ⟨d,B,S,x,v,u,y,rfl,_⟩:=h
   rfl
 obtain ⟨d,B,S,x,v,u,y,rfl,hd,hu,ok,nB,nS,nx,hy,q⟩:=h
 obtain ⟨a,rfl,ea⟩:=deed_of hd
 obtain ⟨p,b,s',vs,us,rfl,ep,eb,es,db,ds⟩:=st_of hu
 have nd:=sc_state_behind.nd
 refine ⟨_,(pss_cons (ps_let (i:=3) nd rfl (Or.inl rfl) (pe_callTy call_listF rfl T.z_list bt_list (pa_cons (pe_ix ixF (pv 1) pe_int (fun _ _=>rfl)) pa_nil)))
  (pss_cons (ps_let (i:=4) nd rfl (Or.inl rfl) (pe_callTy call_listF rfl T.z_list bt_list (pa_cons (pe_ix ixF (pv 1) pe_int (fun _ _=>rfl)) pa_nil)))
  (pss_cons (ps_if (pt_cmpR op_eq (pe_ix ixF (pv 0) pe_int (fun _ _=>rfl)) pe_str (nomark _)) (pss_one (ps_asg (pv 2) (pg_sub (pv 4) (pe_ix ixF (pv 0) (pe_un un_neg pe_int) (fun _ _=>rfl)) set_list))) (pss_one (ps_asg (pv 2) (pg_sub (pv 3) (pe_ix ixF (pv 0) (pe_un un_neg pe_int) (fun _ _=>rfl)) set_list))))
  (pss_one (ps_ret (pe_tup (pa_cons (pv 3) (pa_cons (pv 4) pa_nil)))))))),?_⟩
 walk_at "rd"
 refine ⟨_,items_t ep,_,atI_0,_,rfl,_,items_l eb,NewO.mk fun p1 H1 S1 n1 e1=>?_⟩
 refine ⟨_,items_t (S1 _ _ ep),_,atI_1,_,rfl,_,items_l (S1 _ _ es),NewO.mk fun p2 H2 S2 n2 e2=>?_⟩
 have S12:=S1.trans S2
 have ea2:=S12 _ _ ea
 have put : ∀ (l : Addr) (X : List D) (zs : List V) (i : Int),M.inN X.length i → H2 l = some (.lst zs) → Dts H X zs → D.nls X = true → H l = none → ∀ R : Hp → Prop,(∀ H3,Same H H3 → H3 l = some (.lst (zs.set i.toNat y)) → Dts H3 (X.set i.toNat x) (zs.set i.toNat y) → (∀ c,c ≠ l → H3 c = H2 c) → R H3) →
  ∃ p,V.ref l = V.ref p ∧ ∃ xs k,V.int i = V.int k ∧ H2 p = some (.lst xs) ∧ ∃ j,ixN xs.length k = some j ∧ PutO H2 p (.lst (xs.set j y)) R:=by
  intro l X zs i hi el dz nX nl R hR
  have ll:=dz.length
  refine ⟨l,rfl,zs,i,rfl,el,_,ixN_int hi.1 (by have:=hi.2; omega),PutO.mk fun H3 k3 e3=>hR H3 (Same.put_new S12 nl k3) e3 ?_ k3⟩
  exact (Dts.set (hy.same S12) i.toNat (dz.same S12)).of_put el k3 (nls_set nx _ _ nX)
 have h12 : p1 ≠ p2:=ne_of_none e1 n2
 cases d
 all_goals
  simp only [vDeed] at ea2
  refine ⟨_,items_t ea2,_,atI_0,rfl,?_⟩
 · exact wF w_tp ⟨_,items_t ea2,_,rfl,put p1 B vs _ (ok.1 _ (by simp [M.Deed.bn])) (S2 _ _ e1) db nB n1 _ fun H3 S3 e3 D3 k3=>⟨by decide,NewO.mk fun p4 H4 S4 n4 e4=>q p4 p1 p2 _ _ H4 (S3.trans S4) e4 n1 (S1.free n2) h12 (S4 _ _ e3) (S4 _ _ (by rw [k3 _ h12.symm]; exact e2)) (D3.same S4) (ds.same (S3.trans S4))⟩⟩
 · exact wF w_jp ⟨_,items_t ea2,_,rfl,put p1 B vs _ (ok.1 _ (by simp [M.Deed.bn])) (S2 _ _ e1) db nB n1 _ fun H3 S3 e3 D3 k3=>⟨by decide,NewO.mk fun p4 H4 S4 n4 e4=>q p4 p1 p2 _ _ H4 (S3.trans S4) e4 n1 (S1.free n2) h12 (S4 _ _ e3) (S4 _ _ (by rw [k3 _ h12.symm]; exact e2)) (D3.same S4) (ds.same (S3.trans S4))⟩⟩
 · exact wT ⟨_,items_t ea2,_,rfl,put p2 S us _ (ok.2 _ (by simp [M.Deed.sn])) e2 ds nS (S1.free n2) _ fun H3 S3 e3 D3 k3=>⟨by decide,NewO.mk fun p4 H4 S4 n4 e4=>q p4 p1 p2 _ _ H4 (S3.trans S4) e4 n1 (S1.free n2) h12 (S4 _ _ (by rw [k3 _ h12]; exact S2 _ _ e1)) (S4 _ _ e3) (db.same (S3.trans S4)) (D3.same S4)⟩⟩
 · exact wF w_fp ⟨_,items_t ea2,_,rfl,put p1 B vs _ (ok.1 _ (by simp [M.Deed.bn])) (S2 _ _ e1) db nB n1 _ fun H3 S3 e3 D3 k3=>⟨by decide,NewO.mk fun p4 H4 S4 n4 e4=>q p4 p1 p2 _ _ H4 (S3.trans S4) e4 n1 (S1.free n2) h12 (S4 _ _ e3) (S4 _ _ (by rw [k3 _ h12.symm]; exact e2)) (D3.same S4) (ds.same (S3.trans S4))⟩⟩
theorem lastOf_succ (x : Str) {l : List (List Nat × L2.Tree)} {n : Nat} {q : List Nat × L2.Tree} (e : l[n]? = some q) : M.lastOf x (l.take (n + 1)) = if q.2.isL = true ∧ q.2.name = x then some q.1 else M.lastOf x (l.take n):=by
 unfold M.lastOf
 rw [List.take_add_one,e,List.foldl_append]; rfl
theorem lawOver_succ (f : Str) (a b : Option (List Nat)) {l : List (List Nat × L2.Tree)} {n : Nat} {q : List Nat × L2.Tree} (e : l[n]? = some q) : M.lawOver f a b (l.take (n + 1)) = if q.2.isL = false ∧ q.2.name = f ∧ a = some (q.1 ++ [0]) ∧ b = some (q.1 ++ [1]) then some q.1 else M.lawOver f a b (l.take n):=by
 unfold M.lawOver
 rw [List.take_add_one,e,List.foldl_append]; rfl
noncomputable def spLMark : Sp:=fun vs H Q _=>∃ (t : L2.Tree) (d : L2.Deed) (st : List (Option (List Nat)) × List (Option (List Nat))) (pp : Addr) (ps : List V) (vd : V) (b s : Addr) (ws us : List V),vs = [.ref pp,vd,.ref b,.ref s] ∧ t.lv.Nodup ∧ t.dp ≤ 24 ∧ t.lv.length ≤ 32 ∧
 H pp = some (.lst ps) ∧ Dts H ((t.wk []).map dK) ps ∧ Dt H (dDeed d) vd ∧ H b = some (.lst ws) ∧ H s = some (.lst us) ∧ Dts H (st.1.map dO) ws ∧ Dts H (st.2.map dO) us ∧ d.ok st.1.length st.2.length ∧ RetS H ((M.mark t st d).1.map dO,(M.mark t st d).2.map dO) Q
theorem ok_lmark (T : Txt K mg) : FnOk P w K mg base CX0 1 T.f__law_marked T.d__law_marked ["parts","deed","boxes","shelf"] spLMark:=by
 refine T.F__law_marked.ok (k:=0) sc__law_marked (fun vs H Q E h=>?_) (fun cdv A outer s H vs Q E hr h=>?_)
 · obtain ⟨t,d,st,pp,ps,vd,b,s,ws,us,rfl,_⟩:=h
   rfl
 obtain ⟨t,d,st,pp,ps,vd,b,s',ws,us,rfl,nodup,hdp,hlv,epp,dps,hd,eb,es,db,ds,ok,q⟩:=h
 obtain ⟨a,rfl,ea⟩:=deed_of hd
 have nd:=sc__law_marked.nd
 refine ⟨_,(pss_cons (ps_let (i:=2) nd rfl (Or.inl rfl) (pe_callTy call_listF rfl T.z_list bt_list (pa_cons (pv 2) pa_nil)))
  (pss_cons (ps_let (i:=3) nd rfl (Or.inl rfl) (pe_callTy call_listF rfl T.z_list bt_list (pa_cons (pv 3) pa_nil)))
  (pss_cons (ps_if (pt_cmpR op_eq (pe_ix ixF (pv 1) pe_int (fun _ _=>rfl)) pe_str (nomark _)) (pss_cons (ps_asg pe_non (pg_sub (pv 2) (pe_ix ixF (pv 1) pe_int (fun _ _=>rfl)) set_list))
    (pss_one (ps_for PassesOwn.never rfl (piL (pv 0)) (pg_tup rfl (pgs_cons (pg_name (i:=4) nd rfl (Or.inl rfl)) (pgs_cons (pg_name (i:=5) nd rfl (Or.inl rfl)) (pgs_cons (pg_name (i:=6) nd rfl (Or.inl rfl)) pgs_nil)))) (pss_one (ps_if (PW.pt (pw_and (pt_not (pt_val (pv 6))) (pw_and1 (pt_cmpR (op_eqD hr) (pv 5) (pe_ix ixF (pv 1) pe_int (fun _ _=>rfl)) (nomark _))))) (pss_one (ps_asg (pv 4) (pg_sub (pv 2) (pe_ix ixF (pv 1) pe_int (fun _ _=>rfl)) set_list))) pss_nil))))) pss_nil)
  (pss_cons (ps_if (pt_cmpR op_eq (pe_ix ixF (pv 1) pe_int (fun _ _=>rfl)) pe_str (nomark _)) (pss_cons (ps_let (i:=7) nd rfl (Or.inl rfl) pe_non)
    (pss_cons (ps_for PassesOwn.never rfl (piL (pv 0)) (pg_tup rfl (pgs_cons (pg_name (i:=4) nd rfl (Or.inl rfl)) (pgs_cons (pg_name (i:=5) nd rfl (Or.inl rfl)) (pgs_cons (pg_name (i:=6) nd rfl (Or.inl rfl)) pgs_nil)))) (pss_cons (ps_let (i:=8) nd rfl (Or.inl rfl) (pe_tup (pa_cons (pe_ix ixF (pv 2) (pe_ix ixF (pv 1) pe_int (fun _ _=>rfl)) (fun _ _=>rfl)) (pa_cons (pe_ix ixF (pv 2) (pe_ix ixF (pv 1) pe_int (fun _ _=>rfl)) (fun _ _=>rfl)) pa_nil))))
      (pss_one (ps_if (PW.pt (pw_and (pt_val (pv 6)) (pw_and (pt_cmpR (op_eqD hr) (pv 5) (pe_ix ixF (pv 1) pe_int (fun _ _=>rfl)) (nomark _)) (pw_and1 (pt_cmpR (op_eqD hr) (pv 8) (pe_tup (pa_cons (pe_op op_catD (pv 4) (pe_tup (pa_cons pe_int pa_nil))) (pa_cons (pe_op op_catD (pv 4) (pe_tup (pa_cons pe_int pa_nil))) pa_nil))) (nomark _)))))) (pss_one (ps_let (i:=7) nd rfl (Or.inl rfl) (pv 4))) pss_nil))))
    (pss_one (ps_asg (pv 7) (pg_sub (pv 2) (pe_ix ixF (pv 1) pe_int (fun _ _=>rfl)) set_list))))) pss_nil)
  (pss_cons (ps_if (pt_cmpR op_eq (pe_ix ixF (pv 1) pe_int (fun _ _=>rfl)) pe_str (nomark _)) (pss_one (ps_asg (pe_ix ixF (pv 2) (pe_ix ixF (pv 1) pe_int (fun _ _=>rfl)) (fun _ _=>rfl)) (pg_sub (pv 3) (pe_ix ixF (pv 1) pe_int (fun _ _=>rfl)) set_list))) pss_nil)
  (pss_cons (ps_if (pt_cmpR op_eq (pe_ix ixF (pv 1) pe_int (fun _ _=>rfl)) pe_str (nomark _)) (pss_one (ps_asg (pe_ix ixF (pv 3) (pe_ix ixF (pv 1) pe_int (fun _ _=>rfl)) (fun _ _=>rfl)) (pg_sub (pv 2) (pe_ix ixF (pv 1) pe_int (fun _ _=>rfl)) set_list))) pss_nil)
  (pss_one (ps_ret (pe_tup (pa_cons (pv 2) (pa_cons (pv 3) pa_nil))))))))))),?_⟩
 walk_at "rd"
 refine ⟨_,items_l eb,NewO.mk fun p1 H1 S1 n1 e1=>⟨_,items_l (S1 _ _ es),NewO.mk fun p2 H2 S2 n2 e2=>?_⟩⟩
 have S12:=S1.trans S2
 have ea2:=S12 _ _ ea
 cases d with
 | take x i =>
  simp only [vDeed] at ea2
  refine ⟨_,items_t ea2,_,atI_0,rfl,wT ?_⟩
  have hi:=ok.1 i (by simp [M.Deed.bn])
  have lw:=db.length
  rw [List.length_map] at lw
  refine ⟨_,items_t ea2,_,atI_2,p1,rfl,ws,i,rfl,S2 _ _ e1,_,ixN_int hi.1 (by have:=hi.2; (clear hdp hlv epp eb es n1 e1 n2 e2 ea ea2; omega)),PutO.mk fun H3 k3 e3=>?_⟩
  have hpp1 : pp ≠ p1:=ne_of_none epp n1
  have ha1 : a ≠ p1:=ne_of_none ea n1
  have h21 : p2 ≠ p1:=(ne_of_none e1 n2).symm
  have epp3 : H3 pp = some (.lst ps):=by rw [k3 _ hpp1]; exact S12 _ _ epp
  obtain ⟨Pv,hPv⟩ : ∃ Pv : Nat → St → Hp → Prop,∀ n σ H',Pv n σ H' ↔ (∀ c,c ≠ p1 → H' c = H2 c) ∧ ∃ z,H' p1 = some (.lst (ws.set i.toNat z)) ∧ Dt H2 (dO (M.lastOf x ((t.wk []).take n))) z ∧ ∃ o4 o5 o6 : Option V,σ = [some (.ref pp),some (.ref a),some (.ref p1),some (.ref p2),o4,o5,o6,none,none]:=⟨_,fun _ _ _=>Iff.rfl⟩
  refine WalkL.for epp3 Pv ((hPv _ _ _).mpr ⟨k3,.non,e3,isD_non.mpr rfl,none,none,none,rfl⟩) (fun n σ H' _ h=>by rw [((hPv _ _ _).mp h).1 _ hpp1]; exact S12 _ _ epp) ?_ ?_
  · intro n y σ H' ey h
    obtain ⟨k',z,ez,dz,o4,o5,o6,rfl⟩:=(hPv _ _ _).mp h
    have lp:=dps.length
    rw [List.length_map] at lp
    have hn : n < (t.wk []).length:=by have:=(List.getElem?_eq_some_iff.mp ey).1; (clear hdp hlv epp eb es n1 e1 n2 e2 ea ea2 lw e3 hpp1 ha1 h21 epp3 ey ez; lia)
    obtain ⟨v',hv',dv'⟩:=Dts.map_of dps (List.getElem?_eq_getElem hn)
    rw [ey] at hv'; cases hv'
    generalize hq0 : (t.wk [])[n] = q0 at dv'
    obtain ⟨c,w1,rfl,ec,dw⟩:=dK_of dv'
    have e0 : (t.wk [])[n]? = some q0:=by rw [List.getElem?_eq_getElem hn,hq0]
    have ec' : H' c = some (.tup [w1,.str q0.2.name,.bl (isK q0.2)]):=by rw [k' c (ne_of_none ec n1)]; exact S12 _ _ ec
    have ea' : H' a = some (.tup [.str (Str.ofString "take"),.str x,.int i]):=by rw [k' a ha1]; exact ea2
    have hs:=lastOf_succ x e0
    walk_at "rd"
    refine ⟨_,.of ec',rfl,_,_,rfl,_,_,rfl,_,_,rfl,rfl,_,rfl,ite2 (fun c1=>⟨_,items_t ea',_,atI_1,_,isD_str.mpr rfl,_,isD_str.mpr rfl,Nat.zero_le _,ite2 (fun c2=>?_) (fun c2=>?_)⟩) (fun c1=>?_)⟩
    · refine ⟨_,items_t ea',_,atI_2,_,i,rfl,ez,_,ixN_int hi.1 (by simp; have:=hi.2; (clear hdp hlv epp eb es n1 e1 n2 epp3 ez lp hn hq0 ey ec e0 e3 hpp1 ha1 h21 ec' ea' hs c1 e2 ea ea2 c2; omega)),PutO.mk fun H5 k5 e5=>(hPv _ _ _).mpr ⟨fun c hc=>(k5 c hc).trans (k' c hc),w1,by rw [e5,List.set_set],?_,_,_,_,rfl⟩⟩
      rw [hs,if_pos ⟨by simpa [isK] using c1,by simpa [D.eq] using c2⟩]
      exact dw.same S12
    · rw [← hs.trans (if_neg fun h=>c2 (by simpa [D.eq] using h.2))] at dz
      exact (hPv _ _ _).mpr ⟨k',z,ez,dz,_,_,_,rfl⟩
    · rw [← hs.trans (if_neg fun h=>c1 (by simp [isK,h.1]))] at dz
      exact (hPv _ _ _).mpr ⟨k',z,ez,dz,_,_,_,rfl⟩
  · intro σ H' h
    obtain ⟨k',z,ez,dz,o4,o5,o6,rfl⟩:=(hPv _ _ _).mp h
    have ea' : H' a = some (.tup [.str (Str.ofString "take"),.str x,.int i]):=by rw [k' a ha1]; exact ea2
    have lp:=dps.length
    rw [List.length_map] at lp
    rw [lp,List.take_length,M.lastOf_first nodup] at dz
    have S' : Same H H':=Same.put_new S12 n1 k'
    walk_at "rd"
    refine ⟨_,items_t ea',_,atI_0,rfl,wF w_tj ⟨_,items_t ea',_,atI_0,rfl,wF w_tp ⟨_,items_t ea',_,atI_0,rfl,wF w_tf ⟨by decide,NewO.mk fun p4 H4 S4 n4 e4=>?_⟩⟩⟩⟩
    refine q p4 p1 p2 _ _ H4 (S'.trans S4) e4 n1 (S1.free n2) h21.symm (S4 _ _ ez) (S4 _ _ (by rw [k' _ h21]; exact e2)) ?_ (ds.same (S'.trans S4))
    have dz4 : Dt H4 (dO (M.firstOf x (t.wk []))) z:=(dz.tups (fun c xs e=>by rw [k' c (ne_of e (S2 _ _ e1) (by intro z; cases z))]; exact e) (dO_nl _)).same S4
    have:=Dts.set dz4 i.toNat (db.same (S'.trans S4))
    rw [← List.map_set] at this
    exact this
 | join f i j h =>
  simp only [vDeed] at ea2
  obtain ⟨y1,hy1,dy1⟩:=getD_at db (by rw [List.length_map]; exact ok.1 i (by simp [M.Deed.bn]))
  obtain ⟨y2,hy2,dy2⟩:=getD_at db (by rw [List.length_map]; exact ok.1 j (by simp [M.Deed.bn]))
  rw [show D.non = dO none from rfl,getD_map] at dy1 dy2
  have hh:=ok.1 h (by simp [M.Deed.bn])
  have lw:=db.length
  rw [List.length_map] at lw
  have h12 : p1 ≠ p2:=ne_of_none e1 n2
  have hn2 : H p2 = none:=S1.free n2
  refine ⟨_,items_t ea2,_,atI_0,rfl,wF w_jt ⟨_,items_t ea2,_,atI_0,rfl,wT ?_⟩⟩
  generalize hA : st.1.getD i.toNat none = oA at dy1
  generalize hB : st.1.getD j.toNat none = oB at dy2
  obtain ⟨Pv,hPv⟩ : ∃ Pv : Nat → St → Hp → Prop,∀ n σ H',Pv n σ H' ↔ Same H2 H' ∧ ∃ zf,Dt H' (dO (M.lawOver f oA oB ((t.wk []).take n))) zf ∧ ∃ o4 o5 o6 o8 : Option V,σ = [some (.ref pp),some (.ref a),some (.ref p1),some (.ref p2),o4,o5,o6,some zf,o8]:=⟨_,fun _ _ _=>Iff.rfl⟩
  refine WalkL.for (S12 _ _ epp) Pv ((hPv _ _ _).mpr ⟨Same.refl _,.non,isD_non.mpr rfl,none,none,none,none,rfl⟩) (fun n σ H' _ h=>((hPv _ _ _).mp h).1 _ _ (S12 _ _ epp)) ?_ ?_
  · intro n y σ H' ey g
    obtain ⟨S',zf,dz,o4,o5,o6,o8,rfl⟩:=(hPv _ _ _).mp g
    have lp:=dps.length
    rw [List.length_map] at lp
    have hn : n < (t.wk []).length:=by have:=(List.getElem?_eq_some_iff.mp ey).1; (clear hdp hlv epp eb es n1 e1 n2 e2 ea ea2 hy1 hy2 lw h12 hn2 hA hB ey; lia)
    obtain ⟨v',hv',dv'⟩:=Dts.map_of dps (List.getElem?_eq_getElem hn)
    rw [ey] at hv'; cases hv'
    generalize hq0 : (t.wk [])[n] = q0 at dv'
    obtain ⟨c,w1,rfl,ec,dw⟩:=dK_of dv'
    obtain ⟨cw,rfl,ecw⟩:=dP_of dw
    have e0 : (t.wk [])[n]? = some q0:=by rw [List.getElem?_eq_getElem hn,hq0]
    have S0':=S12.trans S'
    have ec':=S0' _ _ ec
    have ea':=S' _ _ ea2
    have hs:=lawOver_succ f oA oB e0
    walk_at "rd"
    refine ⟨_,.of ec',rfl,_,_,rfl,_,_,rfl,_,_,rfl,rfl,_,items_t ea',_,atI_2,_,i,rfl,items_l (S' _ _ (S2 _ _ e1)),y1,hy1,_,items_t ea',_,atI_3,_,j,rfl,items_l (S' _ _ (S2 _ _ e1)),y2,hy2,by decide,NewO.mk fun p4 H4 S4 n4 e4=>?_⟩
    refine ⟨_,rfl,?_⟩
    have q0l : q0.1.length ≤ 24:=by
     have:=M.Tr.wk_plen t [] _ _ (List.mem_of_getElem? e0)
     simp at this; (clear e2 ea ea2 hy1 hy2 lw h12 hn2 hA hB lp hn hq0 ey ecw ec es n1 e1 n2 e0 ec' ea' hs epp eb n4 e4 hlv; lia)
    refine ite2 (fun c1=>⟨_,items_t (S4 _ _ ea'),_,atI_1,_,isD_str.mpr rfl,_,isD_str.mpr rfl,Nat.zero_le _,ite2 (fun c2=>?_) (fun c2=>?_)⟩) (fun c1=>?_)
    · refine ⟨by decide,NewO.mk fun p5 H5 S5 n5 e5=>⟨cw,rfl,_,rfl,_,S5 _ _ (S4 _ _ (S0' _ _ ecw)),_,e5,small_le (by simp [vP]; (clear hdp hlv epp eb es n1 e1 n2 e2 ea ea2 hy1 hy2 lw h12 hn2 hA hB lp hn hq0 ey ecw ec e0 ec' ea' c2 n5 e5 hs n4 e4 c1; lia)),fun p6 H6 S6 e6=>⟨by decide,NewO.mk fun p7 H7 S7 n7 e7=>⟨cw,rfl,_,rfl,_,S7 _ _ (S6 _ _ (S5 _ _ (S4 _ _ (S0' _ _ ecw)))),_,e7,small_le (by simp [vP]; (clear hdp hlv epp eb es n1 e1 n2 e2 ea ea2 hy1 hy2 lw h12 hn2 hA hB lp hn hq0 ey ecw ec e0 ec' ea' hs n4 e5 e6 n7 e7 c2 n5 c1 e4; lia)),fun p8 H8 S8 e8=>?_⟩⟩⟩⟩
      have S48:=((S5.trans S6).trans S7).trans S8
      have S08:=(S0'.trans S4).trans S48
      have d6 : Dt H8 (dO (some (q0.1 ++ [0]))) (.ref p6):=dP_mk (by rw [S8 _ _ (S7 _ _ e6)]; simp [vP])
      have d8 : Dt H8 (dO (some (q0.1 ++ [1]))) (.ref p8):=dP_mk (by rw [e8]; simp [vP])
      refine ⟨by decide,NewO.mk fun p9 H9 S9 n9 e9=>⟨.tup [dO oA,dO oB],Dt.tup (S9 _ _ (S48 _ _ e4)) (.cons ((dy1.same S08).same S9) (.cons ((dy2.same S08).same S9) .nil)),.tup [dO (some (q0.1 ++ [0])),dO (some (q0.1 ++ [1]))],Dt.tup e9 (.cons (d6.same S9) (.cons (d8.same S9) .nil)),?_,ite2 (fun c3=>?_) (fun c3=>?_)⟩⟩
      · have:=dO_dp oA
        have:=dO_dp oB
        simp only [D.dp,D.dps]; (clear hdp hlv epp eb es n1 e1 n2 e2 ea ea2 hy1 hy2 lw h12 hn2 hA hB lp hn hq0 ey ecw ec e0 ec' ea' hs n4 e4 q0l c1 c2 n5 e5 e6 n7 e7 e8 n9 e9; lia)
      · have c3:=(D.eq_iff (by simp [D.cl,D.cls,dO_cl]) (by simp [D.cl,D.cls,dO_cl])).mp c3
        simp only [D.tup.injEq,List.cons.injEq,and_true] at c3
        have hp:=hs.trans (if_pos ⟨by simpa [isK] using c1,by simpa [D.eq] using c2,dO_inj c3.1,dO_inj c3.2⟩)
        refine (hPv _ _ _).mpr ⟨((S'.trans S4).trans S48).trans S9,.ref cw,?_,_,_,_,_,rfl⟩
        rw [hp]
        exact (dw.same S08).same S9
      · have c3 : ¬ (oA = some (q0.1 ++ [0]) ∧ oB = some (q0.1 ++ [1])):=fun z=>c3 ((D.eq_iff (by simp [D.cl,D.cls,dO_cl]) (by simp [D.cl,D.cls,dO_cl])).mpr (by rw [z.1,z.2]))
        rw [← hs.trans (if_neg fun h=>c3 h.2.2)] at dz
        exact (hPv _ _ _).mpr ⟨((S'.trans S4).trans S48).trans S9,zf,((dz.same S4).same S48).same S9,_,_,_,_,rfl⟩
    · rw [← hs.trans (if_neg fun h=>c2 (by simpa [D.eq] using h.2.1))] at dz
      exact (hPv _ _ _).mpr ⟨S'.trans S4,zf,dz.same S4,_,_,_,_,rfl⟩
    · rw [← hs.trans (if_neg fun h=>c1 (by simp [isK,h.1]))] at dz
      exact (hPv _ _ _).mpr ⟨S'.trans S4,zf,dz.same S4,_,_,_,_,rfl⟩
  · intro σ H' g
    obtain ⟨S',zf,dz,o4,o5,o6,o8,rfl⟩:=(hPv _ _ _).mp g
    have lp:=dps.length
    rw [List.length_map] at lp
    rw [lp,List.take_length,M.lawOver_over] at dz
    have ea':=S' _ _ ea2
    have e1':=S' _ _ (S2 _ _ e1)
    walk_at "rd"
    refine ⟨_,items_t ea',_,atI_4,_,h,rfl,e1',_,ixN_int hh.1 (by have:=hh.2; (clear hdp hlv epp eb es n1 e1 n2 e2 ea ea2 h12 hn2 hA hB lp ea' hy1 hy2 e1'; omega)),PutO.mk fun H5 k5 e5=>?_⟩
    have S5 : Same H H5:=Same.put_new (S12.trans S') n1 k5
    have ea5:=S5 _ _ ea
    simp only [vDeed] at ea5
    refine ⟨_,items_t ea5,_,atI_0,rfl,wF w_jp ⟨_,items_t ea5,_,atI_0,rfl,wF w_jf ⟨by decide,NewO.mk fun p4 H4 S4 n4 e4=>?_⟩⟩⟩
    refine q p4 p1 p2 _ _ H4 (S5.trans S4) e4 n1 hn2 h12 (S4 _ _ e5) (S4 _ _ (by rw [k5 _ h12.symm]; exact S' _ _ e2)) ?_ (ds.same (S5.trans S4))
    have dz4 : Dt H4 (dO (M.over t f oA oB)) zf:=(dz.tups (fun c xs e=>by rw [k5 c (ne_of e e1' (by intro z; cases z))]; exact e) (dO_nl _)).same S4
    have:=Dts.set dz4 h.toNat (db.same (S5.trans S4))
    rw [← List.map_set,← hA,← hB] at this
    exact this
 | put i j =>
  simp only [vDeed] at ea2
  obtain ⟨y,hy,dy⟩:=getD_at db (by rw [List.length_map]; exact ok.1 i (by simp [M.Deed.bn]))
  have hj:=ok.2 j (by simp [M.Deed.sn])
  have lu:=ds.length
  rw [List.length_map] at lu
  have h12 : p1 ≠ p2:=ne_of_none e1 n2
  have hn2 : H p2 = none:=S1.free n2
  have ha2 : a ≠ p2:=ne_of_none ea hn2
  refine ⟨_,items_t ea2,_,atI_0,rfl,wF w_pt ⟨_,items_t ea2,_,atI_0,rfl,wF w_pj ⟨_,items_t ea2,_,atI_0,rfl,wT ?_⟩⟩⟩
  refine ⟨_,items_t ea2,_,atI_1,p1,rfl,_,i,rfl,items_l (S2 _ _ e1),y,hy,_,items_t ea2,_,atI_2,p2,rfl,_,j,rfl,e2,_,ixN_int hj.1 (by have:=hj.2; (clear hdp hlv epp eb es n1 e1 n2 e2 ea ea2 hy hn2 ha2 h12; omega)),PutO.mk fun H5 k5 e5=>?_⟩
  have S' : Same H H5:=Same.put_new S12 hn2 k5
  refine ⟨_,items_t (S' _ _ ea),_,atI_0,rfl,wF w_pf ⟨by decide,NewO.mk fun p4 H4 S4 n4 e4=>?_⟩⟩
  refine q p4 p1 p2 _ _ H4 (S'.trans S4) e4 n1 hn2 h12 (S4 _ _ (by rw [k5 _ h12]; exact S2 _ _ e1)) (S4 _ _ e5) (db.same (S'.trans S4)) ?_
  have:=Dts.set (dy.same (S'.trans S4)) j.toNat (ds.same (S'.trans S4))
  rw [show D.non = dO none from rfl,getD_map,← List.map_set] at this
  exact this
 | fetch j i =>
  simp only [vDeed] at ea2
  obtain ⟨y,hy,dy⟩:=getD_at ds (by rw [List.length_map]; exact ok.2 j (by simp [M.Deed.sn]))
  have hi:=ok.1 i (by simp [M.Deed.bn])
  have lw:=db.length
  rw [List.length_map] at lw
  have h12 : p1 ≠ p2:=ne_of_none e1 n2
  have hn2 : H p2 = none:=S1.free n2
  refine ⟨_,items_t ea2,_,atI_0,rfl,wF w_ft ⟨_,items_t ea2,_,atI_0,rfl,wF w_fj ⟨_,items_t ea2,_,atI_0,rfl,wF w_fp ⟨_,items_t ea2,_,atI_0,rfl,wT ?_⟩⟩⟩⟩
  refine ⟨_,items_t ea2,_,atI_1,p2,rfl,_,j,rfl,items_l e2,y,hy,_,items_t ea2,_,atI_2,p1,rfl,_,i,rfl,S2 _ _ e1,_,ixN_int hi.1 (by have:=hi.2; (clear hdp hlv epp eb es n1 e1 n2 e2 ea ea2 hy h12 hn2; omega)),PutO.mk fun H5 k5 e5=>?_⟩
  have S' : Same H H5:=Same.put_new S12 n1 k5
  refine ⟨by decide,NewO.mk fun p4 H4 S4 n4 e4=>?_⟩
  refine q p4 p1 p2 _ _ H4 (S'.trans S4) e4 n1 hn2 h12 (S4 _ _ e5) (S4 _ _ (by rw [k5 _ h12.symm]; exact e2)) ?_ (ds.same (S'.trans S4))
  have:=Dts.set (dy.same (S'.trans S4)) i.toNat (db.same (S'.trans S4))
  rw [show D.non = dO none from rfl,getD_map,← List.map_set] at this
  exact this
noncomputable abbrev MS:=List (Option (List Nat)) × List (Option (List Nat))
theorem cut_last (xs : List V) : (cutV xs none (some (-1)) = xs.dropLast) ∧ (HT.sIx xs.length xs.length (some (-1)) = xs.length ↔ xs = []):=by
 have e : HT.sIx xs.length xs.length (some (-1)) = xs.length - 1:=by
  show (if (-1 : Int) < 0 then ((-1 : Int) + (xs.length : Int)).toNat else min (-1 : Int).toNat xs.length) = _
  rw [if_pos (by decide)]; lia
 refine ⟨?_,?_⟩
 · unfold cutV
   rw [e]
   show (xs.drop 0).take (xs.length - 1 - 0) = _
   rw [List.drop_zero,List.dropLast_eq_take]; rfl
 · rw [e]
   cases xs with
   | nil=>simp
   | cons a l=>simp
theorem vP_drop (p : List Nat) : (vP p).dropLast = vP p.dropLast:=by
 unfold vP; rw [List.map_dropLast]
theorem dO_eq (a b : Option (List Nat)) : D.eq (dO a) (dO b) = decide (a = b):=D.eq_dec (dO_cl a) (dO_cl b) ⟨dO_inj,fun h=>by rw [h]⟩
theorem dts_rep {H : Hp} (d : D) (v : V) (h : Dt H d v) : ∀ n,Dts H (List.replicate n d) (List.replicate n v)
 | 0=>.nil
 | n + 1=>.cons h (dts_rep d v h n)
theorem rep_flat {β : Type} (x : β) (n : Nat) : (List.replicate n [x]).flatten = List.replicate n x:=by
 induction n with
 | zero=>rfl
 | succ n ih=>simp only [List.replicate_succ,List.flatten_cons,ih]; rfl
noncomputable def spFresh : Sp:=fun vs H Q _=>∃ (k m : Nat),vs = [.int k,.int m] ∧ k ≤ 1000 ∧ m ≤ 1000 ∧ RetS H (List.replicate k .non,List.replicate m .non) Q
seal PSs PS PE PT PA PI PIfs in
theorem ok_fresh (T : Txt K mg) : FnOk P w K mg base CX0 1 T.f_fresh T.d_fresh ["k","many"] spFresh:=by
 refine T.F_fresh.ok (k:=0) sc_fresh (fun vs H Q E h=>?_) (fun cdv A outer s H vs Q E hr h=>?_)
 · obtain ⟨k,m,rfl,_⟩:=h
   rfl
 obtain ⟨k,m,rfl,hk,hm,q⟩:=h
 have nd:=sc_fresh.nd
 refine ⟨_,(pss_one (ps_ret (pe_tup (pa_cons (pe_op op_rep (pe_lst (pa_cons pe_non pa_nil)) (pv 0)) (pa_cons (pe_op op_rep (pe_lst (pa_cons pe_non pa_nil)) (pv 1)) pa_nil))))),?_⟩
 walk_at "rd"
 have hn : ∀ n : Nat,n ≤ 1000 → -(2 ^ 63) ≤ (n : Int) ∧ (n : Int) < 2 ^ 63 ∧ [V.non].length * (n : Int).toNat ≤ sizeLine:=fun n h=>⟨by (clear hk hm h; lia),by omega,small_le (by simp; lia)⟩
 refine ⟨by decide,NewO.mk fun p1 H1 S1 n1 e1=>⟨p1,rfl,_,e1,(hn k hk).1,(hn k hk).2.1,(hn k hk).2.2,NewO.mk fun p2 H2 S2 n2 e2=>⟨by decide,NewO.mk fun p3 H3 S3 n3 e3=>⟨p3,rfl,_,e3,(hn m hm).1,(hn m hm).2.1,(hn m hm).2.2,NewO.mk fun p4 H4 S4 n4 e4=>⟨by decide,NewO.mk fun p5 H5 S5 n5 e5=>?_⟩⟩⟩⟩⟩
 rw [rep_flat,Int.toNat_natCast] at e2 e4
 have S24:=S3.trans S4
 have S25:=S24.trans S5
 have n4' : H2 p4 = none:=S3.free n4
 refine q p5 p2 p4 _ _ H5 ((S1.trans S2).trans S25) e5 (S1.free n2) ((S1.trans S2).free n4') (ne_of_none e2 n4') (S25 _ _ e2) (S5 _ _ e4) (dts_rep _ _ (isD_non.mpr rfl) k) (dts_rep _ _ (isD_non.mpr rfl) m)
noncomputable def spOver : Sp:=fun vs H Q _=>∃ (t : L2.Tree) (f : Str) (a b : Option (List Nat)) (v va vb : V),vs = [v,.str f,va,vb] ∧ Dt H (dT t) v ∧ t.dp ≤ 1000 ∧ M.Vld t a ∧ Dt H (dO a) va ∧ Dt H (dO b) vb ∧ RetD H (dO (M.over t f a b)) Q
seal PSs PS PE PT PA PI PIfs in
theorem ok_over (T : Txt K mg) : FnOk P w K mg base CX0 2 T.f_knot_over T.d_knot_over ["tree","f","left","right"] spOver:=by
 refine T.F_knot_over.ok (k:=1) sc_knot_over (fun vs H Q E h=>?_) (fun cdv A outer s H vs Q E hr h=>?_)
 · obtain ⟨t,f,a,b,v,va,vb,rfl,_⟩:=h
   rfl
 obtain ⟨t,f,a,b,v,va,vb,rfl,ht,hdp,hv,ha,hb,q⟩:=h
 have nd:=sc_knot_over.nd
 have G_part_at:=ok_part (P:=P) (w:=w) (base:=base) T
 refine ⟨_,(pss_cons (ps_if (PW.pt (pw_or (pt_cmp (pc_isN (pv 2))) (pw_or1 (pt_cmp (pc_isN (pv 3)))))) (pss_one (ps_ret pe_non)) pss_nil)
  (pss_cons (ps_let (i:=4) nd rfl (Or.inl rfl) (pe_slice sl_tupU (pv 2) po_none (po_some (pe_un un_neg pe_int))))
  (pss_cons (ps_if (PW.pt (pw_or (pt_cmpR (op_neD hr) (pv 2) (pe_op op_catD (pv 4) (pe_tup (pa_cons pe_int pa_nil))) (nomark _)) (pw_or1 (pt_cmpR (op_neD hr) (pv 3) (pe_op op_catD (pv 4) (pe_tup (pa_cons pe_int pa_nil))) (nomark _))))) (pss_one (ps_ret pe_non)) pss_nil)
  (pss_one (ps_ret (pe_ifExp (pt_cmpR op_eq (pe_ix ixF (pe_call G_part_at hr rfl T.m_part_at T.F_part_at.kp T.b_part_at .nil pass0 (pa_cons (pv 0) (pa_cons (pv 4) pa_nil))) pe_int (fun _ _=>rfl)) (pv 1) (nomark _)) (pv 4) pe_non)))))),?_⟩
 walk_at "rd"
 cases a with
 | none =>
  cases isD_non.mp ha
  exact iteT (q _ _ (Same.refl _) (isD_non.mpr rfl))
 | some p =>
 obtain ⟨x1,rfl,ex1⟩:=dP_of ha
 cases b with
 | none =>
  cases isD_non.mp hb
  exact iteF (iteT (q _ _ (Same.refl _) (isD_non.mpr rfl)))
 | some r =>
 obtain ⟨x2,rfl,ex2⟩:=dP_of hb
 have hpl:=M.pl_dp (hv p rfl)
 have lvP : ∀ l : List Nat,(vP l).length = l.length:=fun l=>by simp [vP]
 obtain ⟨ct1,ct2⟩:=cut_last (vP p)
 refine iteF (iteF ⟨x1,rfl,_,ex1,fun h=>?_,fun h=>?_⟩)
 · have hp0 : p = []:=by have:=ct2.mp h.2; simpa [vP] using this
   subst hp0
   refine ⟨by decide,NewO.mk fun p1 H1 S1 n1 e1=>⟨_,rfl,_,S1 _ _ ex1,_,e1,small_le (by simp [vP]),fun p2 H2 S2 e2=>⟨dO (some []),ha.same (S1.trans S2),dO (some [0]),dP_mk (by rw [e2]; simp [vP]),by have:=dO_dp (some []); (clear hdp ex2 ex1 hpl ct1 ct2 h n1 e1 e2; lia),?_⟩⟩⟩
   rw [dO_eq,decide_eq_false (by decide)]
   exact iteT (q _ _ (S1.trans S2) (isD_non.mpr rfl))
 · refine NewO.mk fun p0 H0 S0 n0 e0=>⟨by decide,NewO.mk fun p1 H1 S1 n1 e1=>⟨p0,rfl,_,rfl,_,S1 _ _ e0,_,e1,small_le ?_,fun p2 H2 S2 e2=>⟨dO (some p),ha.same ((S0.trans S1).trans S2),dO (some (p.dropLast ++ [0])),dP_mk ?_,by have:=dO_dp (some p); lia,?_⟩⟩⟩
   · rw [ct1]; simp [vP]; lia
   · rw [e2,ct1,vP_drop]; simp [vP]
   rw [ct1,vP_drop] at e0
   have S02:=(S0.trans S1).trans S2
   have S12:=S1.trans S2
   rw [dO_eq]
   by_cases c1 : some p = some (p.dropLast ++ [0])
   · rw [decide_eq_true c1]
     have c1:=Option.some.inj c1
     refine iteF ⟨by decide,NewO.mk fun p3 H3 S3 n3 e3=>⟨p0,rfl,_,rfl,_,S3 _ _ (S12 _ _ e0),_,e3,small_le (by simp [vP]; lia),fun p4 H4 S4 e4=>⟨dO (some r),hb.same ((S02.trans S3).trans S4),dO (some (p.dropLast ++ [1])),dP_mk (by rw [e4]; simp [vP]),by have:=dO_dp (some r); (clear hdp ex1 ex2 hpl ct1 ct2 h n0 e0 n1 e1 e2 c1 n3 e3 e4; lia),?_⟩⟩⟩
     have S04:=(S02.trans S3).trans S4
     rw [dO_eq]
     by_cases c2 : some r = some (p.dropLast ++ [1])
     · rw [decide_eq_true c2]
       have c2:=Option.some.inj c2
       obtain ⟨s0,hs0,_⟩:=M.pl_sub (hv p rfl)
       rw [c1,M.Tr.sub_app] at hs0
       obtain ⟨u,hu,hu2⟩:=Option.bind_eq_some_iff.mp hs0
       cases u with
       | leaf x=>simp [M.Tr.sub] at hu2
       | knot g l r' =>
       have ep0 : H4 p0 = some (.tup (vP p.dropLast)):=S4 _ _ (S3 _ _ (S12 _ _ e0))
       refine iteF ⟨t,_,p.dropLast,v,.ref p0,rfl,ht.same S04,dP_mk ep0,hu,fun v' hv'=>?_⟩
       obtain ⟨a',vl,vr,rfl,ea',hl',hr'⟩:=dT_knot hv'
       refine ⟨a',rfl,_,items_t ea',_,atI_1,?_⟩
       rw [show M.over t f (some p) (some r) = if g = f then some p.dropLast else none from ?_] at q
       · refine ⟨rfl,ite2 (fun c3=>?_) (fun c3=>?_)⟩
         · rw [if_pos (V.str.inj (of_decide_eq_true c3))] at q
           exact q _ _ S04 (dP_mk ep0)
         · rw [if_neg fun z=>c3 (by rw [z]; exact decide_eq_true rfl)] at q
           exact q _ _ S04 (isD_non.mpr rfl)
       · show (if p = p.dropLast ++ [0] ∧ r = p.dropLast ++ [1] ∧ M.knotAt t f p.dropLast = true then some p.dropLast else none) = _
         have hk : M.knotAt t f p.dropLast = decide (g = f):=by unfold M.knotAt; rw [hu]
         rw [hk]
         by_cases c3 : g = f
         · rw [if_pos ⟨c1,c2,decide_eq_true c3⟩,if_pos c3]
         · rw [if_neg fun z=>c3 (of_decide_eq_true z.2.2),if_neg c3]
     · rw [decide_eq_false c2]
       rw [show M.over t f (some p) (some r) = none from if_neg fun z=>c2 (congrArg some z.2.1)] at q
       exact iteT (q _ _ S04 (isD_non.mpr rfl))
   · rw [decide_eq_false c1]
     rw [show M.over t f (some p) (some r) = none from if_neg fun z=>c1 (congrArg some z.1)] at q
     exact iteT (q _ _ S02 (isD_non.mpr rfl))
noncomputable def mval (t : L2.Tree) (d : L2.Deed) (st : MS) : Option (List Nat):=d.val none (fun x=>M.firstOf x (t.wk [])) (M.over t) st
noncomputable def spMBr : Sp:=fun vs H Q _=>∃ (t : L2.Tree) (d : L2.Deed) (st : MS) (v vd u : V),vs = [v,vd,u] ∧ Dt H (dT t) v ∧ t.dp ≤ 24 ∧ t.lv.length ≤ 32 ∧ Dt H (dDeed d) vd ∧ Dt H (.tup [.lst (st.1.map dO),.lst (st.2.map dO)]) u ∧ d.ok st.1.length st.2.length ∧ M.Deed.All2 (M.Vld t) st ∧ RetD H (dO (mval t d st)) Q
seal PSs PS PE PT PA PI PIfs in
theorem ok_mbr (T : Txt K mg) : FnOk P w K mg base CX0 29 T.f_mark_brought T.d_mark_brought ["tree","deed","state"] spMBr:=by
 refine T.F_mark_brought.ok (k:=28) sc_mark_brought (fun vs H Q E h=>?_) (fun cdv A outer s H vs Q E hr h=>?_)
 · obtain ⟨t,d,st,v,vd,u,rfl,_⟩:=h
   rfl
 obtain ⟨t,d,st,v,vd,u,rfl,ht,hdp,hlv,hd,hu,ok,vld,q⟩:=h
 obtain ⟨a,rfl,ea⟩:=deed_of hd
 obtain ⟨p,b,s',ws,us,rfl,ep,eb,es,db,ds⟩:=st_of hu
 have nd:=sc_mark_brought.nd
 have G_place_of:=(ok_placeof (P:=P) (w:=w) (base:=base) T 24).mono (k:=28) (by omega)
 have G_knot_over:=(ok_over (P:=P) (w:=w) (base:=base) T).mono (k:=28) (by omega)
 have G_moved_value:=(ok_moved (P:=P) (w:=w) (base:=base) T).mono (k:=28) (by omega)
 refine ⟨_,(pss_cons (ps_if (pt_cmpR op_eq (pe_ix ixF (pv 1) pe_int (fun _ _=>rfl)) pe_str (nomark _)) (pss_one (ps_ret (pe_call G_place_of hr rfl T.m_place_of T.F_place_of.kp T.b_place_of .nil pass0 (pa_cons (pv 0) (pa_cons (pe_ix ixF (pv 1) pe_int (fun _ _=>rfl)) pa_nil))))) pss_nil)
  (pss_cons (ps_if (pt_cmpR op_eq (pe_ix ixF (pv 1) pe_int (fun _ _=>rfl)) pe_str (nomark _)) (pss_one (ps_ret (pe_call G_knot_over hr rfl T.m_knot_over T.F_knot_over.kp T.b_knot_over .nil pass0 (pa_cons (pv 0) (pa_cons (pe_ix ixF (pv 1) pe_int (fun _ _=>rfl)) (pa_cons (pe_ix ixF (pe_ix ixF (pv 2) pe_int (fun _ _=>rfl)) (pe_ix ixF (pv 1) pe_int (fun _ _=>rfl)) (fun _ _=>rfl)) (pa_cons (pe_ix ixF (pe_ix ixF (pv 2) pe_int (fun _ _=>rfl)) (pe_ix ixF (pv 1) pe_int (fun _ _=>rfl)) (fun _ _=>rfl)) pa_nil))))))) pss_nil)
  (pss_one (ps_ret (pe_call G_moved_value hr rfl T.m_moved_value T.F_moved_value.kp T.b_moved_value .nil pass0 (pa_cons (pv 1) (pa_cons (pv 2) pa_nil))))))),?_⟩
 walk_at "rd"
 cases d with
 | take x i =>
  simp only [vDeed] at ea
  refine ⟨_,items_t ea,_,atI_0,rfl,wT ⟨_,items_t ea,_,atI_1,?_⟩⟩
  exact ⟨t,x,v,rfl,ht,hdp,by lia,fun v' H' S' d'=>q v' H' S' d'⟩
 | join f i j h =>
  simp only [vDeed] at ea
  obtain ⟨y1,hy1,dy1⟩:=getD_at db (by rw [List.length_map]; exact ok.1 i (by simp [M.Deed.bn]))
  obtain ⟨y2,hy2,dy2⟩:=getD_at db (by rw [List.length_map]; exact ok.1 j (by simp [M.Deed.bn]))
  rw [show D.non = dO none from rfl,getD_map] at dy1 dy2
  refine ⟨_,items_t ea,_,atI_0,rfl,wF w_jt ⟨_,items_t ea,_,atI_0,rfl,wT ?_⟩⟩
  exact ⟨_,items_t ea,_,atI_1,_,items_t ep,_,atI_0,_,items_t ea,_,atI_2,b,rfl,_,i,rfl,items_l eb,y1,hy1,_,items_t ep,_,atI_0,_,items_t ea,_,atI_3,b,rfl,_,j,rfl,items_l eb,y2,hy2,t,f,_,_,v,y1,y2,rfl,ht,by lia,M.Deed.getD_all (C:=M.Vld t) (show M.Vld t none from fun _ z=>nomatch z) vld.1 _,dy1,dy2,q⟩
 | put i j =>
  simp only [vDeed] at ea
  refine ⟨_,items_t ea,_,atI_0,rfl,wF w_pt ⟨_,items_t ea,_,atI_0,rfl,wF w_pj ?_⟩⟩
  refine ⟨.put i j,_,_,_,_,rfl,hd,hu,by simpa using ok,trivial,fun x hx=>q x H (Same.refl _) ?_⟩
  change Dt H ((st.1.map dO).getD i.toNat D.non) x at hx
  rw [show D.non = dO none from rfl,getD_map] at hx
  exact hx
 | fetch j i =>
  simp only [vDeed] at ea
  refine ⟨_,items_t ea,_,atI_0,rfl,wF w_ft ⟨_,items_t ea,_,atI_0,rfl,wF w_fj ?_⟩⟩
  refine ⟨.fetch j i,_,_,_,_,rfl,hd,hu,by simpa using ok,trivial,fun x hx=>q x H (Same.refl _) ?_⟩
  change Dt H ((st.2.map dO).getD j.toNat D.non) x at hx
  rw [show D.non = dO none from rfl,getD_map] at hx
  exact hx
noncomputable def dS (st : MS) : D:=.tup [.lst (st.1.map dO),.lst (st.2.map dO)]
noncomputable def spMarked : Sp:=fun vs H Q _=>∃ (t : L2.Tree) (d : L2.Deed) (st : MS) (v vd u : V),vs = [v,vd,u] ∧ Dt H (dT t) v ∧ t.dp ≤ 24 ∧ t.lv.length ≤ 32 ∧ Dt H (dDeed d) vd ∧ Dt H (dS st) u ∧ M.Deed.All2 (M.Vld t) st ∧
 d.ok st.1.length st.2.length ∧ RetS H ((M.mark t st d).1.map dO,(M.mark t st d).2.map dO) Q
theorem nls_map {α : Type} (g : α → D) (hg : ∀ x,(g x).nl = true) : ∀ l : List α,D.nls (l.map g) = true
 | []=>rfl
 | x :: l=>by simp only [List.map_cons,D.nls,hg x,nls_map g hg l,Bool.and_self]
seal PSs PS PE PT PA PI PIfs in
theorem ok_marked (T : Txt K mg) : FnOk P w K mg base CX0 30 T.f_marked T.d_marked ["tree","deed","state"] spMarked:=by
 refine T.F_marked.ok (k:=29) sc_marked (fun vs H Q E h=>?_) (fun cdv A outer s H vs Q E hr h=>?_)
 · obtain ⟨t,d,st,v,vd,u,rfl,_⟩:=h
   rfl
 obtain ⟨t,d,st,v,vd,u,rfl,ht,hdp,hlv,hd,hu,vld,ok,q⟩:=h
 have nd:=sc_marked.nd
 have G_check_deed:=(ok_chk (P:=P) (w:=w) (base:=base) T).mono (k:=29) (by omega)
 have G_mark_brought:=(ok_mbr (P:=P) (w:=w) (base:=base) T).mono (k:=29) (by omega)
 have G_state_behind:=(ok_behind (P:=P) (w:=w) (base:=base) T).mono (k:=29) (by omega)
 refine ⟨_,(pss_cons (ps_expr (pe_call G_check_deed hr rfl T.m_check_deed T.F_check_deed.kp T.b_check_deed .nil pass0 (pa_cons (pv 1) (pa_cons (pv 2) pa_nil))))
  (pss_one (ps_ret (pe_call G_state_behind hr rfl T.m_state_behind T.F_state_behind.kp T.b_state_behind .nil pass0 (pa_cons (pv 1) (pa_cons (pv 2) (pa_cons (pe_call G_mark_brought hr rfl T.m_mark_brought T.F_mark_brought.kp T.b_mark_brought .nil pass0 (pa_cons (pv 0) (pa_cons (pv 1) (pa_cons (pv 2) pa_nil)))) pa_nil))))))),?_⟩
 walk_at "rd"
 refine ⟨d,_,_,vd,u,rfl,hd,hu,by simpa using ok,fun H1 S1=>?_⟩
 refine ⟨t,d,st,v,vd,u,rfl,ht.same S1,hdp,hlv,hd.same S1,hu.same S1,ok,vld,fun x H2 S2 dx=>?_⟩
 have S12:=S1.trans S2
 refine ⟨d,_,_,_,vd,u,x,rfl,hd.same S12,hu.same S12,by simpa using ok,nls_map _ dO_nl _,nls_map _ dO_nl _,dO_nl _,dx,?_⟩
 have e:=M.Deed.set_map d dO (mval t d st) st
 rw [e]
 intro p b s vs us H' S e n1 n2 ne e1 e2 d1 d2
 exact q p b s vs us H' (S12.trans S) e (S12.free n1) (S12.free n2) ne e1 e2 d1 d2
noncomputable def moms (t : L2.Tree) (st : MS) : List L2.Deed → List MS
 | []=>[st]
 | d :: r=>st :: moms t (M.mark t st d) r
noncomputable def new2 (k m : Nat) : MS:=(List.replicate k none,List.replicate m none)
noncomputable def okRow (k m : Nat) (row : List L2.Deed) : Prop:=∀ d ∈ row,d.ok k m
noncomputable def RetM (H : Hp) (sts : List MS) (Q : VK) : Prop:=∀ p vs l b s ws us G H' (st : MS) (pre : List MS),sts = pre ++ [st] → Same H G → Same G H' → G p = none → H' p = some (.lst (vs ++ [.ref l])) → Dts G (pre.map dS) vs → H' l = some (.tup [.ref b,.ref s]) →
 G b = none → G s = none → b ≠ s → b ≠ p → s ≠ p → H' b = some (.lst ws) → H' s = some (.lst us) → Dts H' (st.1.map dO) ws → Dts H' (st.2.map dO) us → Q (.ref p) H'
theorem moms_ne (t : L2.Tree) (st : MS) (r : List L2.Deed) : moms t st r ≠ []:=by cases r <;> simp [moms]
theorem moms_snoc (t : L2.Tree) (d : L2.Deed) : ∀ (r : List L2.Deed) (st0 : MS) (pre : List MS) (st : MS),moms t st0 r = pre ++ [st] → moms t st0 (r ++ [d]) = (pre ++ [st]) ++ [M.mark t st d]
 | [],st0,pre,st,h=>by
  cases pre with
  | nil=>simp only [moms,List.nil_append,List.cons.injEq,and_true] at h; simp [moms,h]
  | cons a pre=>simp [moms] at h
 | e :: r,st0,pre,st,h=>by
  cases pre with
  | nil=>simp only [moms,List.nil_append,List.cons.injEq] at h; exact absurd h.2 (moms_ne _ _ _)
  | cons a pre =>
   simp only [moms,List.cons_append,List.cons.injEq] at h
   have:=moms_snoc t d r _ pre st h.2
   rw [List.cons_append,moms,this,h.1]; rfl
theorem dS_nl1 (st : MS) : D.nls (st.1.map dO) = true ∧ D.nls (st.2.map dO) = true:=⟨nls_map _ dO_nl _,nls_map _ dO_nl _⟩
theorem atI_last {β : Type} (xs : List β) (x : β) : atI (xs ++ [x]) (-1) = some x:=by
 unfold atI ixN
 rw [if_neg (by decide),if_pos (by simp; lia)]
 have : ((-1 : Int) + ((xs ++ [x]).length : Nat)).toNat = xs.length:=by simp; lia
 show (xs ++ [x])[((-1 : Int) + ((xs ++ [x]).length : Nat)).toNat]? = some x
 rw [this]; simp
noncomputable def spMom : Sp:=fun vs H Q _=>∃ (t : L2.Tree) (k m : Nat) (row : List L2.Deed) (v : V) (pr : Addr) (rs : List V),vs = [v,.int k,.int m,.ref pr] ∧ Dt H (dT t) v ∧ t.dp ≤ 24 ∧ t.lv.length ≤ 32 ∧ k ≤ 1000 ∧ m ≤ 1000 ∧ row.length ≤ 5000 ∧ H pr = some (.lst rs) ∧ Dts H (row.map dDeed) rs ∧
 okRow k m row ∧ RetM H (moms t (new2 k m) row) Q
seal PSs PS PE PT PA PI PIfs in
theorem ok_mom (T : Txt K mg) : FnOk P w K mg base CX0 31 T.f_moments T.d_moments ["tree","k","many","row"] spMom:=by
 refine T.F_moments.ok (k:=30) sc_moments (fun vs H Q E h=>?_) (fun cdv A outer s H vs Q E hr h=>?_)
 · obtain ⟨t,k,m,row,v,pr,rs,rfl,_⟩:=h
   rfl
 obtain ⟨t,k,m,row,v,pr,rs,rfl,ht,hdp,hlv,hk,hm,hrl,er,dr,okR,q⟩:=h
 have nd:=sc_moments.nd
 have G_fresh:=(ok_fresh (P:=P) (w:=w) (base:=base) T).mono (k:=30) (by omega)
 have G_marked:=(ok_marked (P:=P) (w:=w) (base:=base) T).mono (k:=30) (by omega)
 refine ⟨_,(pss_cons (ps_let (i:=4) nd rfl (Or.inl rfl) (pe_lst (pa_cons (pe_call G_fresh hr rfl T.m_fresh T.F_fresh.kp T.b_fresh .nil pass0 (pa_cons (pv 1) (pa_cons (pv 2) pa_nil))) pa_nil)))
  (pss_cons (ps_for PassesOwn.never rfl (piL (pv 3)) (pg_name (i:=5) nd rfl (Or.inl rfl)) (pss_one (ps_expr (pe_bm PySem.F.plainAttrs_list PySem.F.slot_list_append PySem.F.type_list_append mt_append (pv 4) (pa_cons (pe_call G_marked hr rfl T.m_marked T.F_marked.kp T.b_marked .nil pass0 (pa_cons (pv 0) (pa_cons (pv 5) (pa_cons (pe_ix ixF (pv 4) (pe_un un_neg pe_int) (fun _ _=>rfl)) pa_nil)))) pa_nil)))))
  (pss_one (ps_ret (pv 4))))),?_⟩
 walk_at "rd"
 refine ⟨k,m,rfl,hk,hm,fun l0 b0 s0 ws0 us0 H1 S1 el0 nb0 ns0 h0 eb0 es0 db0 ds0=>⟨by decide,NewO.mk fun p H2 S2 n2 e2=>?_⟩⟩
 have np : H p = none:=S1.free n2
 have S12:=S1.trans S2
 obtain ⟨Pv,hPv⟩ : ∃ Pv : Nat → St → Hp → Prop,∀ i σ H',Pv i σ H' ↔ (∃ vs l b s ws us G st pre,moms t (new2 k m) (row.take i) = pre ++ [st] ∧ st.1.length = k ∧ st.2.length = m ∧ M.Deed.All2 (M.Vld t) st ∧ Same H G ∧ Same G H' ∧ G p = none ∧ H' p = some (.lst (vs ++ [.ref l])) ∧ Dts G (pre.map dS) vs ∧ H' l = some (.tup [.ref b,.ref s]) ∧
  G b = none ∧ G s = none ∧ b ≠ s ∧ b ≠ p ∧ s ≠ p ∧ H' b = some (.lst ws) ∧ H' s = some (.lst us) ∧ Dts H' (st.1.map dO) ws ∧ Dts H' (st.2.map dO) us) ∧ ∃ o5 : Option V,σ = [some v,some (.int k),some (.int m),some (.ref pr),some (.ref p),o5]:=⟨_,fun _ _ _=>Iff.rfl⟩
 have cut : ∀ {H' G : Hp},Same H G → Same G H' → Same H H':=fun a b=>a.trans b
 refine WalkL.for (S12 _ _ er) Pv ((hPv _ _ _).mpr ⟨⟨[],l0,b0,s0,ws0,us0,H,new2 k m,[],rfl,by simp [new2],by simp [new2],M.Deed.all_new (show M.Vld t none from fun _ z=>nomatch z) k m,Same.refl _,S12,np,e2,.nil,S2 _ _ el0,nb0,ns0,h0,?_,?_,S2 _ _ eb0,S2 _ _ es0,?_,?_⟩,none,rfl⟩) (fun i σ H' _ h=>?_) ?_ ?_
 · exact ne_of_none eb0 n2
 · exact ne_of_none es0 n2
 · simp only [new2,List.map_replicate]; exact db0.same S2
 · simp only [new2,List.map_replicate]; exact ds0.same S2
 · obtain ⟨⟨vs,l,b,s,ws,us,G,st,pre,_,_,_,_,h1,h2,_⟩,_⟩:=(hPv _ _ _).mp h
   exact h2 _ _ (h1 _ _ er)
 · intro i y σ H' ey h
   obtain ⟨⟨vs,l,b,s1,ws,us,G,st,pre,hmo,hl1,hl2,vld,SG,SGH,gp,ep,dpre,el,gb,gs,hbs,hbp,hsp,eb,es,db,ds⟩,o5,rfl⟩:=(hPv _ _ _).mp h
   have lr:=dr.length
   rw [List.length_map] at lr
   have hi : i < row.length:=by have:=(List.getElem?_eq_some_iff.mp ey).1; (clear hdp hlv hk hm hrl er el0 nb0 ns0 h0 eb0 es0 n2 e2 np ey hmo hl1 hl2 gp ep el gb gs hbs hbp hsp eb es; lia)
   obtain ⟨y',hy',dy⟩:=Dts.map_of dr (List.getElem?_eq_getElem hi)
   rw [ey] at hy'; cases hy'
   have e0 : row[i]? = some row[i]:=List.getElem?_eq_getElem hi
   generalize row[i] = d at dy e0
   have S0:=SG.trans SGH
   have dst : Dt H' (dS st) (.ref l):=st_mk el eb es db ds
   walk_at "rd"
   refine ⟨ty_lst ep,_,items_l ep,_,atI_last vs _,?_⟩
   refine ⟨t,d,st,v,y,_,rfl,ht.same S0,hdp,hlv,dy.same S0,dst,vld,by rw [hl1,hl2]; exact okR d (List.mem_of_getElem? e0),?_⟩
   · skip
     intro l' b' s' ws' us' H1 S1' el' nb' ns' hbs' eb' es' db' ds'
     have lvs : vs.length ≤ 5000:=by
      have h1:=dpre.length
      have h2 : (moms t (new2 k m) (row.take i)).length = i + 1:=by
       have : ∀ (r : List L2.Deed) (st : MS),(moms t st r).length = r.length + 1:=by
        intro r; induction r with
        | nil=>intro st; rfl
        | cons e r ih=>intro st; simp [moms,ih]
       rw [this,List.length_take]; (clear hdp hlv hk hm hrl er el0 nb0 ns0 h0 eb0 es0 n2 e2 np ey hmo hl1 hl2 gp ep el gb gs hbs hbp hsp eb es lr hbs' eb' es' h1 nb' ns' el' e0; lia)
      rw [hmo,List.length_append] at h2
      rw [List.length_map] at h1
      simp at h2; (clear eb0 es0 n2 e2 np ey hmo hl1 hl2 gp ep el gb gs hbs hbp hsp eb es lr er el0 nb0 ns0 h0 hdp hlv hk e0 el' nb' ns' hbs' eb' hm es'; lia)
     refine ⟨_,S1' _ _ ep,small_size (by simp; (clear hdp hlv hk hm hrl er el0 nb0 ns0 h0 eb0 es0 n2 e2 np ey hmo hl1 hl2 gp ep el gb gs hbs hbp hsp eb es lr hi e0 el' nb' ns' hbs' eb' es'; lia)),PutO.mk fun H3 k3 e3=>(hPv _ _ _).mpr ⟨⟨vs ++ [.ref l],l',b',s',ws',us',fun a=>if a = p then none else H' a,M.mark t st d,pre ++ [st],?_,?_,?_,M.mark_vld vld d,?_,?_,by simp,e3,?_,?_,?_,?_,hbs',?_,?_,?_,?_,?_,?_⟩,_,rfl⟩⟩
     · rw [List.take_add_one,e0]
       exact moms_snoc t d _ _ _ _ hmo
     · exact (M.Deed.go_len st d).1.trans hl1
     · exact (M.Deed.go_len st d).2.trans hl2
     · intro a o e
       show (if a = p then none else H' a) = some o
       rw [if_neg (ne_of_none e np)]; exact S0 _ _ e
     · intro a o e
       change (if a = p then none else H' a) = some o at e
       by_cases c : a = p
       · rw [if_pos c] at e; cases e
       · rw [if_neg c] at e
         rw [k3 a c]; exact S1' _ _ e
     · have GG : Same G (fun a=>if a = p then none else H' a):=fun a o e=>by
        show (if a = p then none else H' a) = some o
        rw [if_neg (ne_of_none e gp)]; exact SGH _ _ e
       have TT : Tups H' (fun a=>if a = p then none else H' a):=fun a xs e=>by
        show (if a = p then none else H' a) = _
        rw [if_neg (ne_of e ep (by intro z; cases z))]; exact e
       rw [List.map_append]
       refine (dpre.same GG).append (.one (st_mk (b:=b) (s:=s1) (TT _ _ el) ?_ ?_ (db.tups TT (dS_nl1 st).1) (ds.tups TT (dS_nl1 st).2)))
       · show (if b = p then none else H' b) = _
         rw [if_neg hbp]; exact eb
       · show (if s1 = p then none else H' s1) = _
         rw [if_neg hsp]; exact es
     · rw [k3 l' (ne_of el' (S1' _ _ ep) (by intro z; cases z))]; exact el'
     · show (if b' = p then none else H' b') = none
       rw [nb']; simp
     · show (if s' = p then none else H' s') = none
       rw [ns']; simp
     · exact (ne_of_none ep nb').symm
     · exact (ne_of_none ep ns').symm
     · rw [k3 _ (ne_of_none ep nb').symm]; exact eb'
     · rw [k3 _ (ne_of_none ep ns').symm]; exact es'
     · exact db'.of_put (S1' _ _ ep) k3 (dS_nl1 _).1
     · exact ds'.of_put (S1' _ _ ep) k3 (dS_nl1 _).2
 · intro σ H' h
   obtain ⟨⟨vs,l,b,s1,ws,us,G,st,pre,hmo,hl1,hl2,vld,SG,SGH,gp,ep,dpre,el,gb,gs,hbs,hbp,hsp,eb,es,db,ds⟩,o5,rfl⟩:=(hPv _ _ _).mp h
   have lr:=dr.length
   rw [List.length_map] at lr
   rw [lr,List.take_length] at hmo
   walk_at "rd"
   exact q p vs l b s1 ws us G H' st pre hmo SG SGH gp ep dpre el gb gs hbs hbp hsp eb es db ds
noncomputable def isF : L2.Deed → Bool
 | .fetch _ _=>true
 | _=>false
noncomputable def usesL (s : Int) : List L2.Deed → Nat → Option Nat
 | [],_=>none
 | d :: r,i=>if s ∈ d.sn then (if isF d = true then some i else none) else usesL s r (i + 1)
noncomputable def vN : Option Nat → V
 | some m=>.int m
 | none=>.non
theorem any_int (s : Int) : ∀ is : List Int,((is.map D.int).any fun d=>D.eq d (.int s)) = decide (s ∈ is)
 | []=>by simp
 | i :: is=>by
  rw [List.map_cons,List.any_cons,any_int s is]
  by_cases h : s = i
  · simp [h,D.eq]
  · have h' : ¬ i = s:=fun e=>h e.symm
    simp [h,h',D.eq]
theorem dps_int : ∀ is : List Int,D.dps (is.map D.int) ≤ 0
 | []=>Nat.le_refl _
 | i :: is=>by
  have:=dps_int is
  simp only [List.map_cons,D.dps,D.dp]
  lia
noncomputable def spUsed : Sp:=fun vs H Q _=>∃ (p : Addr) (n : Nat) (us : List V) (row : List L2.Deed) (i s : Int),vs = [.ref p,.int n] ∧ H p = some (.lst us) ∧ Dts H (row.map dDeed) us ∧ row.length ≤ 100000 ∧ row[n]? = some (.put i s) ∧ ∀ H',Same H H' → Q (vN (usesL s (row.drop (n + 1)) (n + 1))) H'
theorem row_at {H : Hp} {row : List L2.Deed} {us : List V} (h : Dts H (row.map dDeed) us) {n : Nat} {d : L2.Deed} (e : row[n]? = some d) : ∃ a,us[n]? = some (.ref a) ∧ H a = some (.tup (vDeed d)):=by
 obtain ⟨v,e1,e2⟩:=Dts.map_of h e
 obtain ⟨a,rfl,ea⟩:=deed_of e2
 exact ⟨a,e1,ea⟩
theorem ok_used (T : Txt K mg) : FnOk P w K mg base CX0 2 T.f_used_by T.d_used_by ["row","n"] spUsed:=by
 refine T.F_used_by.ok (k:=1) sc_used_by (fun vs H Q E h=>?_) (fun cdv A outer s H vs Q E hr h=>?_)
 · obtain ⟨p,n,us,row,i,z,rfl,_⟩:=h
   rfl
 obtain ⟨p,n,us,row,i,z,rfl,ep,dr,hl,hn,q⟩:=h
 have nd:=sc_used_by.nd
 have G_shelf_numbers:=ok_shelfn (P:=P) (w:=w) (base:=base) T
 refine ⟨_,(pss_cons (ps_let (i:=2) nd rfl (Or.inl rfl) (pe_ix ixF (pe_ix ixF (pv 0) (pv 1) (fun _ _=>rfl)) pe_int (fun _ _=>rfl)))
  (pss_cons (ps_for PassesOwn.never rfl (pi_range2 rfl T.z_range (pa_cons (pe_op op_add (pv 1) pe_int) (pa_cons (pe_callB lenG rfl T.z_len bt_len (pa_cons (pv 0) pa_nil)) pa_nil))) (pg_name (i:=3) nd rfl (Or.inl rfl)) (pss_cons (ps_let (i:=4) nd rfl (Or.inl rfl) (pe_ix ixF (pv 0) (pv 3) (fun _ _=>rfl)))
    (pss_one (ps_if (pt_cmpR (op_inD hr) (pv 2) (pe_call G_shelf_numbers hr rfl T.m_shelf_numbers T.F_shelf_numbers.kp T.b_shelf_numbers .nil pass0 (pa_cons (pv 4) pa_nil)) (by with_unfolding_all rfl)) (pss_one (ps_ret (pe_ifExp (pt_cmpR op_eq (pe_ix ixF (pv 4) pe_int (fun _ _=>rfl)) pe_str (nomark _)) (pv 3) pe_non))) pss_nil))))
  (pss_one (ps_ret pe_non)))),?_⟩
 walk_at "rd"
 obtain ⟨a,e1,ea⟩:=row_at dr hn
 have hnl : n < row.length:=(List.getElem?_eq_some_iff.mp hn).1
 have lus:=dr.length
 rw [List.length_map] at lus
 refine ⟨_,items_l ep,_,atI_nat e1,_,rfl,_,items_t ea,_,atI_2,_,items_l ep,_,_,⟨rfl,rfl⟩,⟨by lia,by (clear hn e1 lus ep ea; lia),by (clear ep hl hn e1 ea hnl lus; lia),by lia⟩,?_⟩
 obtain ⟨Pv,hPv⟩ : ∃ Pv : Nat → St → Hp → Prop,∀ j σ H',Pv j σ H' ↔ Same H H' ∧ usesL z (row.drop (n + 1)) (n + 1) = usesL z (row.drop (n + 1 + j)) (n + 1 + j) ∧ ∃ o3 o4 : Option V,σ = [some (.ref p),some (.int n),some (.int z),o3,o4]:=⟨_,fun _ _ _=>Iff.rfl⟩
 refine forR Pv ((hPv _ _ _).mpr ⟨Same.refl _,rfl,none,none,rfl⟩) ?_ ?_
 · intro j σ H' hj h
   obtain ⟨S1,hu,o3,o4,rfl⟩:=(hPv _ _ _).mp h
   walk_at "rd"
   have hlt : n + 1 + j < row.length:=by omega
   have ed : row[n + 1 + j]? = some row[n + 1 + j]:=List.getElem?_eq_getElem hlt
   rw [List.drop_eq_getElem_cons hlt,usesL] at hu
   generalize row[n + 1 + j] = d at ed hu
   obtain ⟨b,e2,eb⟩:=row_at (dr.same S1) ed
   refine ⟨_,items_l (S1 _ _ ep),_,atI_int (by (clear ep hl hn e1 ea hnl lus hj hlt ed hu e2 eb; lia)) (by rw [show ((n : Int) + 1 + j).toNat = n + 1 + j by (clear ep hl hn e1 ea hnl lus hj hlt ed hu e2 eb; lia)]; exact e2),d,_,rfl,deed_mk eb,fun p2 H2 S2 e3=>⟨p2,rfl,_,.inl e3,_,dts_int _,.int z,isD_int.mpr rfl,Nat.le_trans (dps_int _) (by decide),?_⟩⟩
   have S02:=S1.trans S2
   rw [any_int]
   refine ite2 (fun c=>?_) (fun c=>(hPv _ _ _).mpr ⟨S02,?_,_,_,rfl⟩)
   · have c : z ∈ d.sn:=of_decide_eq_true c
     rw [if_pos c] at hu
     have q':=q H2 S02
     rw [hu] at q'
     have eb:=S2 _ _ eb
     cases d with
     | take x i=>simp [M.Deed.sn] at c
     | join f i j h=>simp [M.Deed.sn] at c
     | put i s =>
      simp only [vDeed] at eb
      rw [if_neg (by simp [isF])] at q'
      exact ⟨b,rfl,_,items_t eb,_,atI_0,rfl,wF w_pf q'⟩
     | fetch s i =>
      simp only [vDeed] at eb
      refine ⟨b,rfl,_,items_t eb,_,atI_0,rfl,wT ?_⟩
      rw [if_pos (by rfl)] at q'
      rw [show (n : Int) + 1 + j = ((n + 1 + j : Nat) : Int) by (clear ep hl hn e1 ea hnl lus hj hlt e2 ed hu e3 eb; lia)]
      exact q'
   · rw [if_neg fun h=>c (decide_eq_true h)] at hu
     rw [hu]; rfl
 · intro σ H' h
   obtain ⟨S1,hu,o3,o4,rfl⟩:=(hPv _ _ _).mp h
   walk_at "rd"
   have q':=q H' S1
   rw [hu,List.drop_eq_nil_of_le (by (clear ep hl hn e1 ea hnl hu; omega))] at q'
   exact q'
theorem momsL (t : L2.Tree) : ∀ (r : List L2.Deed) (st : MS),(moms t st r).length = r.length + 1
 | [],_=>rfl
 | d :: r,st=>by rw [moms,List.length_cons,momsL t r,List.length_cons]
theorem momsS (t : L2.Tree) : ∀ (r : List L2.Deed) (st s1 : MS),s1 ∈ moms t st r → s1.1.length = st.1.length ∧ s1.2.length = st.2.length
 | [],st,s1,h=>by rw [List.mem_singleton.mp h]; exact ⟨rfl,rfl⟩
 | d :: r,st,s1,h=>by
  rcases List.mem_cons.mp h with rfl | h
  · exact ⟨rfl,rfl⟩
  · have:=momsS t r _ s1 h
    have g:=M.Deed.go_len (z:=none) (tk:=fun x=>M.firstOf x (t.wk [])) (jn:=M.over t) st d
    exact ⟨this.1.trans g.1,this.2.trans g.2⟩
theorem anyH (hs : List (Option (List Nat))) (p : List Nat) : ((hs.map dO).any fun d=>D.eq d (dP p)) = M.held hs p:=by
 unfold M.held
 rw [List.any_map]
 congr 1
 funext o
 show D.eq (dO o) (dO (some p)) = _
 rw [dO_eq]
 cases o <;> (rw [Bool.eq_iff_iff]; simp)
theorem dpsM : ∀ l : List (Option (List Nat)),D.dps (l.map dO) ≤ 1
 | []=>Nat.zero_le _
 | o :: l=>by
  have:=dpsM l
  have:=dO_dp o
  simp only [List.map_cons,D.dps]
  lia
noncomputable def spHeldF : Sp:=fun vs H Q _=>∃ (st : MS) (v : V),vs = [v] ∧ Dt H (dS st) v ∧ ∀ H',Same H H' → Q (.bl (M.held st.1 [])) H'
seal PSs PS PE PT PA PI PIfs in
theorem ok_heldF (T : Txt K mg) : FnOk P w K mg base CX0 1 T.f_formula_held T.d_formula_held ["state"] spHeldF:=by
 refine T.F_formula_held.ok (k:=0) sc_formula_held (fun vs H Q E h=>?_) (fun cdv A outer s H vs Q E hr h=>?_)
 · obtain ⟨st,v,rfl,_⟩:=h
   rfl
 obtain ⟨st,v,rfl,dv,q⟩:=h
 obtain ⟨p,b,s',ws,us,rfl,ep,eb,es,db,ds⟩:=st_of dv
 have nd:=sc_formula_held.nd
 refine ⟨_,(pss_one (ps_ret (pe_cmpR (op_inD hr) (pe_tup pa_nil) (pe_ix ixF (pv 0) pe_int (fun _ _=>rfl)) (by with_unfolding_all rfl)))),?_⟩
 walk_at "rd"
 refine ⟨Nat.zero_le _,NewO.mk fun p1 H1 S1 n1 e1=>⟨_,items_t (S1 _ _ ep),_,atI_0,b,rfl,_,.inl (S1 _ _ eb),_,db.same S1,dP [],dP_mk e1,Nat.le_trans (dpsM _) (by decide),?_⟩⟩
 have:=q H1 S1
 rw [← anyH] at this
 exact this
noncomputable def dUse (u : M.Use) : D:=.tup [dP u.1,.int u.2.1,.int u.2.2]
noncomputable def dMat (c : List Nat × M.Use) : D:=.tup [dP c.1,.int c.2.2.1,.int c.2.2.2]
noncomputable def useOf (i : Nat) : Option (List Nat) → Option Nat → List M.Use
 | some q,some f=>[(q,i,f)]
 | _,_=>[]
noncomputable def useAt (row : List L2.Deed) (sts : List MS) (i : Nat) : List M.Use:=match row[i]?,sts[i]? with
 | some (.put b s),some st=>useOf i (st.1.getD b.toNat none) (usesL s (row.drop (i + 1)) (i + 1))
 | _,_=>[]
noncomputable def usedL (row : List L2.Deed) (sts : List MS) (n : Nat) : List M.Use:=(List.range n).flatMap (useAt row sts)
theorem usedL_succ (row : List L2.Deed) (sts : List MS) (n : Nat) : usedL row sts (n + 1) = usedL row sts n ++ useAt row sts n:=by
 unfold usedL
 rw [List.range_succ,List.flatMap_append]
 simp
theorem useOf_len (i : Nat) (o : Option (List Nat)) (f : Option Nat) : (useOf i o f).length ≤ 1:=by
 cases o <;> cases f <;> simp [useOf]
theorem useOf_mem {i : Nat} {o : Option (List Nat)} {f : Option Nat} {u : M.Use} (h : u ∈ useOf i o f) : o = some u.1 ∧ u.2.1 = i ∧ f = some u.2.2:=by
 cases o <;> cases f <;> simp [useOf] at h
 subst h
 exact ⟨rfl,rfl,rfl⟩
theorem useAt_mem {row : List L2.Deed} {sts : List MS} {i : Nat} {u : M.Use} (h : u ∈ useAt row sts i) : u.2.1 = i ∧ ∃ b s st,row[i]? = some (.put b s) ∧ sts[i]? = some st ∧ st.1.getD b.toNat none = some u.1 ∧ usesL s (row.drop (i + 1)) (i + 1) = some u.2.2:=by
 unfold useAt at h
 split at h
 · rename_i b s st e1 e2
   obtain ⟨h1,h2,h3⟩:=useOf_mem h
   exact ⟨h2,b,s,st,e1,e2,h1,h3⟩
 · cases h
theorem useAt_len (row : List L2.Deed) (sts : List MS) (i : Nat) : (useAt row sts i).length ≤ 1:=by
 unfold useAt
 split
 · exact useOf_len ..
 · exact Nat.zero_le _
theorem usedL_len (row : List L2.Deed) (sts : List MS) : ∀ n,(usedL row sts n).length ≤ n
 | 0=>Nat.le_refl _
 | n + 1=>by
  rw [usedL_succ,List.length_append]
  have:=usedL_len row sts n
  have:=useAt_len row sts n
  lia
theorem usedL_lt {row : List L2.Deed} {sts : List MS} : ∀ {n : Nat} {u : M.Use},u ∈ usedL row sts n → u.2.1 < n:=fun {n u} h=>by
 obtain ⟨i,hi,hu⟩:=List.mem_flatMap.mp h
 rw [(useAt_mem hu).1]
 exact List.mem_range.mp hi
theorem usedL_nd (row : List L2.Deed) (sts : List MS) : ∀ n,((usedL row sts n).map (·.2.1)).Nodup
 | 0=>List.nodup_nil
 | n + 1=>by
  rw [usedL_succ,List.map_append,List.nodup_append]
  refine ⟨usedL_nd row sts n,?_,fun a ha b hb=>?_⟩
  · have:=useAt_len row sts n
    cases e : useAt row sts n with
    | nil=>simp
    | cons u r =>
     rw [e,List.length_cons] at this
     have : r = []:=List.length_eq_zero_iff.mp (by lia)
     subst this
     simp
  · obtain ⟨u,hu,rfl⟩:=List.mem_map.mp ha
    obtain ⟨v,hv,rfl⟩:=List.mem_map.mp hb
    have h1:=usedL_lt hu
    have h2:=(useAt_mem hv).1
    lia
theorem dUse_nl (u : M.Use) : (dUse u).nl = true:=by simp [dUse,D.nl,D.nls,dP_nl]
theorem dMat_nl (c : List Nat × M.Use) : (dMat c).nl = true:=by simp [dMat,D.nl,D.nls,dP_nl]
theorem dUse_dp (u : M.Use) : (dUse u).dp ≤ 2:=by
 have:=dP_dp u.1
 simp only [dUse,D.dp,D.dps]
 lia
theorem dUses_dp (us : List M.Use) : D.dps (us.map dUse) ≤ 2:=dps_le fun d hd=>by
 obtain ⟨u,_,rfl⟩:=List.mem_map.mp hd
 exact dUse_dp u
noncomputable def spUsedP : Sp:=fun vs H Q _=>∃ (pr ps : Addr) (rs us : List V) (row : List L2.Deed) (sts : List MS),vs = [.ref pr,.ref ps] ∧ H pr = some (.lst rs) ∧ Dts H (row.map dDeed) rs ∧ row.length ≤ 5000 ∧ H ps = some (.lst us) ∧ Dts H (sts.map dS) us ∧ sts.length = row.length + 1 ∧ (∀ (i : Nat) d st,row[i]? = some d → sts[i]? = some st → d.ok st.1.length st.2.length) ∧
 RetL H ((usedL row sts row.length).map dUse) Q
seal PSs PS PE PT PA PI PIfs in
theorem ok_usedP (T : Txt K mg) : FnOk P w K mg base CX0 3 T.f_used_puts T.d_used_puts ["row","states"] spUsedP:=by
 refine T.F_used_puts.ok (k:=2) sc_used_puts (fun vs H Q E h=>?_) (fun cdv A outer s H vs Q E hr h=>?_)
 · obtain ⟨pr,ps,rs,us,row,sts,rfl,_⟩:=h
   rfl
 obtain ⟨pr,ps,rs,us,row,sts,rfl,er,dr,lr,es,ds,ls,hok,q⟩:=h
 have nd:=sc_used_puts.nd
 have G_moved_value:=(ok_moved (P:=P) (w:=w) (base:=base) T).mono (k:=2) (by omega)
 have G_used_by:=ok_used (P:=P) (w:=w) (base:=base) T
 refine ⟨_,(pss_cons (ps_let (i:=2) nd rfl (Or.inl rfl) (pe_lst pa_nil))
  (pss_cons (ps_for PassesOwn.never rfl (pi_enum rfl T.z_enumerate (pa_cons (pv 0) pa_nil)) (pg_tup rfl (pgs_cons (pg_name (i:=3) nd rfl (Or.inl rfl)) (pgs_cons (pg_name (i:=4) nd rfl (Or.inl rfl)) pgs_nil))) (pss_one (ps_if (pt_cmpR op_eq (pe_ix ixF (pv 4) pe_int (fun _ _=>rfl)) pe_str (nomark _)) (pss_cons (ps_let (i:=5) nd rfl (Or.inl rfl) (pe_call G_moved_value hr rfl T.m_moved_value T.F_moved_value.kp T.b_moved_value .nil pass0 (pa_cons (pv 4) (pa_cons (pe_ix ixF (pv 1) (pv 3) (fun _ _=>rfl)) pa_nil))))
    (pss_cons (ps_let (i:=6) nd rfl (Or.inl rfl) (pe_call G_used_by hr rfl T.m_used_by T.F_used_by.kp T.b_used_by .nil pass0 (pa_cons (pv 0) (pa_cons (pv 3) pa_nil))))
    (pss_one (ps_if (PW.pt (pw_and (pt_cmp (pc_notN (pv 5))) (pw_and1 (pt_cmp (pc_notN (pv 6)))))) (pss_one (ps_expr (pe_bm PySem.F.plainAttrs_list PySem.F.slot_list_append PySem.F.type_list_append mt_append (pv 2) (pa_cons (pe_tup (pa_cons (pv 5) (pa_cons (pv 3) (pa_cons (pv 6) pa_nil)))) pa_nil)))) pss_nil)))) pss_nil)))
  (pss_one (ps_ret (pv 2))))),?_⟩
 walk_at "rd"
 have lrs : rs.length = row.length:=by have:=dr.length; rw [List.length_map] at this; exact this
 have lus : us.length = sts.length:=by have:=ds.length; rw [List.length_map] at this; exact this
 refine ⟨Nat.zero_le _,NewO.mk fun pf H1 S1 n1 e1=>?_⟩
 obtain ⟨Pv,hPv⟩ : ∃ Pv : Nat → St → Hp → Prop,∀ i σ H',Pv i σ H' ↔ Same H H' ∧ (∃ xs : List V,H' pf = some (.lst xs) ∧ Dts H' ((usedL row sts i).map dUse) xs) ∧ ∃ o3 o4 o5 o6 : Option V,σ = [some (.ref pr),some (.ref ps),some (.ref pf),o3,o4,o5,o6]:=⟨_,fun _ _ _=>Iff.rfl⟩
 refine WalkE.for (S1 _ _ er) Pv ((hPv _ _ _).mpr ⟨S1,⟨[],e1,.nil⟩,none,none,none,none,rfl⟩) (fun i σ H' _ h=>((hPv _ _ _).mp h).1 _ _ er) ?_ ?_
 · intro i y σ K0 T0 K1 ey h W1 nT eT
   obtain ⟨U1,⟨xs,ex,dx⟩,o3,o4,o5,o6,rfl⟩:=(hPv _ _ _).mp h
   have hi : i < row.length:=by have:=(List.getElem?_eq_some_iff.mp ey).1; (clear er lr es ls ey nT eT ex n1 e1 lus; lia)
   have ed : row[i]? = some row[i]:=List.getElem?_eq_getElem hi
   have est : sts[i]? = some sts[i]:=List.getElem?_eq_getElem (by (clear lrs lus n1 e1 ey nT eT ex er lr es; lia))
   have U2:=U1.trans W1
   obtain ⟨b,e7,eb⟩:=row_at (dr.same U2) ed
   rw [ey] at e7
   cases e7
   have okd:=hok i _ _ ed est
   obtain ⟨vs',hvs,dvs⟩:=Dts.map_of ds est
   generalize row[i] = d at ed eb okd
   generalize sts[i] = st at est dvs okd
   have lxs : xs.length ≤ i:=by have h1:=dx.length; have h2:=usedL_len row sts i; rw [List.length_map] at h1; (clear er lr es ls lrs lus n1 e1 nT ex hi ey eT hvs ed eb est; lia)
   have ex1':=W1 _ _ ex
   have dx1:=dx.same W1
   have next : ∀ (H' : Hp) (o3 o4 o5 o6 : Option V),Same K1 H' → useAt row sts i = [] → Pv (i + 1) [some (.ref pr),some (.ref ps),some (.ref pf),o3,o4,o5,o6] H':=fun H' o3 o4 o5 o6 S e=>(hPv _ _ _).mpr ⟨U2.trans S,⟨xs,S _ _ ex1',by rw [usedL_succ,e,List.append_nil]; exact dx1.same S⟩,o3,o4,o5,o6,rfl⟩
   walk_at "rd"
   refine ⟨_,.of eT,rfl,_,_,rfl,_,_,rfl,rfl,?_⟩
   cases d with
   | put pi pj =>
    simp only [vDeed] at eb
    refine ⟨b,rfl,_,items_t eb,_,atI_0,rfl,wT ⟨_,i,rfl,items_l (U2 _ _ es),vs',atI_nat hvs,.put pi pj,_,_,_,_,rfl,deed_mk eb,dvs.same U2,by simpa using okd,trivial,fun x hx=>?_⟩⟩
    refine ⟨pr,i,rs,row,pi,pj,rfl,U2 _ _ er,dr.same U2,by (clear hi ey eT hvs est lxs ex1' ed eb lus n1 e1 nT ex ls lrs es er; lia),ed,fun K2 S2=>?_⟩
    have hu : useAt row sts i = useOf i (st.1.getD pi.toNat none) (usesL pj (row.drop (i + 1)) (i + 1)):=by
     unfold useAt; rw [ed,est]
    change Dt K1 ((st.1.map dO).getD pi.toNat D.non) x at hx
    rw [show D.non = dO none from rfl,getD_map] at hx
    generalize st.1.getD pi.toNat none = o at hx hu
    generalize usesL pj (row.drop (i + 1)) (i + 1) = f at hu
    cases o with
    | none =>
     cases isD_non.mp hx
     exact iteF (next K2 _ _ _ _ S2 (by rw [hu]; cases f <;> rfl))
    | some p =>
     obtain ⟨x1,rfl,ex1⟩:=dP_of hx
     refine iteT ?_
     cases f with
     | none=>exact iteF (next K2 _ _ _ _ S2 (by rw [hu]; rfl))
     | some f =>
      refine iteT ⟨ty_lst (S2 _ _ ex1'),by decide,NewO.mk fun p3 K3 S3 n3 e3=>⟨_,S3 _ _ (S2 _ _ ex1'),small_size (by (clear eb ex1 hu n3 e3 ls lrs lus n1 e1 nT eT hvs est es ex ed er ey ex1'; lia)),PutO.mk fun K4 k4 e4=>(hPv _ _ _).mpr ⟨Same.put_new ((U2.trans S2).trans S3) n1 k4,⟨_,e4,?_⟩,_,_,_,_,rfl⟩⟩⟩
      rw [usedL_succ,hu,List.map_append]
      have d3 : Dt K3 (dUse (p,i,f)) (.ref p3):=Dt.tup e3 (.cons (hx.same (S2.trans S3)) (.cons (isD_int.mpr rfl) (.cons (isD_int.mpr rfl) .nil)))
      refine Dts.of_put (S3 _ _ (S2 _ _ ex1')) k4 ?_ ((dx1.same (S2.trans S3)).append (.one d3))
      rw [← List.map_append]
      exact nls_map _ dUse_nl _
   | take x0 i0 =>
    simp only [vDeed] at eb
    exact ⟨b,rfl,_,items_t eb,_,atI_0,rfl,wF w_tp (next K1 _ _ _ _ (Same.refl _) (by unfold useAt; rw [ed]))⟩
   | join f0 i0 j0 h0 =>
    simp only [vDeed] at eb
    exact ⟨b,rfl,_,items_t eb,_,atI_0,rfl,wF w_jp (next K1 _ _ _ _ (Same.refl _) (by unfold useAt; rw [ed]))⟩
   | fetch s0 i0 =>
    simp only [vDeed] at eb
    exact ⟨b,rfl,_,items_t eb,_,atI_0,rfl,wF w_fp (next K1 _ _ _ _ (Same.refl _) (by unfold useAt; rw [ed]))⟩
 · intro σ H' h
   obtain ⟨S2,⟨xs,ex,dx⟩,o3,o4,o5,o6,rfl⟩:=(hPv _ _ _).mp h
   walk_at "rd"
   rw [lrs] at dx
   exact q pf xs H' S2 n1 ex dx
theorem cutP (p : List Nat) (n : Nat) (h : n ≤ p.length) : cutV (vP p) none (some (n : Int)) = vP (p.take n) ∧ (HT.sIx (vP p).length (vP p).length (some (n : Int)) = n):=by
 have lv : (vP p).length = p.length:=by unfold vP; simp
 have e : HT.sIx (vP p).length (vP p).length (some (n : Int)) = n:=by
  show (if (n : Int) < 0 then ((n : Int) + ((vP p).length : Int)).toNat else min (n : Int).toNat (vP p).length) = _
  rw [if_neg (by lia)]; lia
 refine ⟨?_,e⟩
 rw [cutV_to (by (clear e; lia))]
 unfold vP
 rw [List.map_take]
theorem inner_take {p r : List Nat} (h : r.length < p.length) : M.inner r p = decide (some (p.take r.length) = some r):=by
 rw [Bool.eq_iff_iff,M.inner_iff,decide_eq_true_iff,Option.some.injEq,List.prefix_iff_eq_take]
 exact ⟨fun z=>z.1.symm,fun z=>⟨z.symm,h⟩⟩
noncomputable def spLies : Sp:=fun vs H Q _=>∃ (p q : List Nat) (v u : V),vs = [v,u] ∧ Dt H (dP p) v ∧ Dt H (dP q) u ∧ ∀ H',Same H H' → Q (.bl (M.inner q p)) H'
seal PSs PS PE PT PA PI PIfs in
theorem ok_lies (T : Txt K mg) : FnOk P w K mg base CX0 1 T.f_lies_within T.d_lies_within ["place","knot"] spLies:=by
 refine T.F_lies_within.ok (k:=0) sc_lies_within (fun vs H Q E h=>?_) (fun cdv A outer s H vs Q E hr h=>?_)
 · obtain ⟨p,r,v,u,rfl,_⟩:=h
   rfl
 obtain ⟨p,r,v,u,rfl,hv,hu,q⟩:=h
 obtain ⟨a,rfl,ea⟩:=dP_of hv
 obtain ⟨b,rfl,eb⟩:=dP_of hu
 have nd:=sc_lies_within.nd
 refine ⟨_,(pss_one (ps_ret (pe_and (pe_cmpR op_gt (pe_callB lenG rfl T.z_len bt_len (pa_cons (pv 0) pa_nil)) (pe_callB lenG rfl T.z_len bt_len (pa_cons (pv 1) pa_nil)) (nomark _)) (pe_one (pe_cmpR (op_eqD hr) (pe_slice sl_tupU (pv 0) po_none (po_some (pe_callB lenG rfl T.z_len bt_len (pa_cons (pv 1) pa_nil)))) (pv 1) (nomark _)))))),?_⟩
 walk_at "rd"
 have lv : ∀ l : List Nat,(vP l).length = l.length:=fun l=>by unfold vP; simp
 refine ⟨_,items_t ea,_,items_t eb,ite2 (fun c=>?_) (fun c=>?_)⟩
 · have c : r.length < p.length:=by have:=of_decide_eq_true c; rw [lv,lv] at this; omega
   obtain ⟨c1,c2⟩:=cutP p r.length (by lia)
   rw [inner_take c] at q
   refine ⟨_,items_t eb,_,ea,fun hw=>?_,fun hw=>?_⟩
   · rw [lv r] at hw
     have:=hw.2
     rw [c2,lv] at this
     (clear ea eb c2 hw c1; lia)
   · rw [lv r,c1]
     refine NewO.mk fun p3 H3 S3 n3 e3=>⟨dO (some (p.take r.length)),dP_mk e3,dO (some r),hu.same S3,by have:=dO_dp (some (p.take r.length)); (clear ea eb c c1 c2 hw n3 e3; lia),?_⟩
     rw [dO_eq]
     exact q H3 S3
 · have c : ¬ r.length < p.length:=fun z=>c (decide_eq_true (by rw [lv,lv]; omega))
   have:=q H (Same.refl _)
   rw [show M.inner r p = false from by
    cases e : M.inner r p with
    | false=>rfl
    | true=>exact absurd (M.inner_iff.mp e).2 c] at this
   exact this
theorem dUse_eq (a b : M.Use) : (dUse a).eq (dUse b) = decide (a = b):=by
 refine D.eq_dec (by simp [dUse,D.cl,D.cls,dP_cl]) (by simp [dUse,D.cl,D.cls,dP_cl]) ⟨fun h=>?_,fun h=>by rw [h]⟩
 obtain ⟨a1,a2,a3⟩:=a
 obtain ⟨b1,b2,b3⟩:=b
 simp only [dUse,D.tup.injEq,List.cons.injEq,D.int.injEq,and_true] at h
 obtain ⟨h1,h2,h3⟩:=h
 rw [dP_inj h1,show a2 = b2 by lia,show a3 = b3 by (clear h1 h2; lia)]
theorem getD_mapU (us : List M.Use) (m : Nat) (h : m < us.length) : (us.map dUse).getD m .non = dUse us[m]:=by
 rw [List.getD_eq_getElem?_getD,List.getElem?_map,List.getElem?_eq_getElem h]; rfl
theorem Dts.erase {H : Hp} : ∀ {ds : List D} {vs : List V},Dts H ds vs → ∀ j,Dts H (ds.eraseIdx j) (vs.eraseIdx j)
 | [],vs,h,j=>by simp only [Dts] at h; subst h; cases j <;> exact .nil
 | d :: ds,vs,h,j=>by
  simp only [Dts] at h
  obtain ⟨v,vr,rfl,h1,h2⟩:=h
  cases j with
  | zero=>exact h2
  | succ j=>exact .cons h1 (Dts.erase h2 j)
theorem erase_map (us : List M.Use) (u : M.Use) : ((us.erase u).map dUse) = (us.map dUse).eraseIdx (us.idxOf u):=by
 induction us with
 | nil=>rfl
 | cons a us ih =>
  rw [List.erase_cons,List.idxOf_cons]
  cases a == u with
  | true=>rfl
  | false=>simp [ih]
theorem mem_idx {us : List M.Use} {u : M.Use} (h : u ∈ us) : us.idxOf u < us.length ∧ ∀ m,m ≤ us.idxOf u → ((us.map dUse).getD m .non).eq (dUse u) = (m == us.idxOf u):=by
 have hl:=List.idxOf_lt_length_iff.mpr h
 refine ⟨hl,fun m hm=>?_⟩
 rw [getD_mapU us m (by lia),dUse_eq]
 by_cases c : m = us.idxOf u
 · subst c
   simp
 · rw [decide_eq_false,beq_false_of_ne c]
   intro z
   have:=List.not_of_lt_findIdx (p:=(· == u)) (xs:=us) (i:=m) (show m < us.idxOf u by lia)
   rw [z,beq_self_eq_true] at this
   cases this
theorem use_of {H : Hp} {u : M.Use} {v : V} (h : Dt H (dUse u) v) : ∃ a vp,v = .ref a ∧ H a = some (.tup [vp,.int u.2.1,.int u.2.2]) ∧ Dt H (dP u.1) vp:=by
 obtain ⟨a,vs,rfl,e,h⟩:=isD_tup.mp h
 simp only [isDs_cons,isD_int,isDs_nil] at h
 obtain ⟨vp,_,rfl,hp,_,_,rfl,rfl,_,_,rfl,rfl,rfl⟩:=h
 exact ⟨a,vp,rfl,e,hp⟩
theorem Dts.rev {H : Hp} : ∀ {ds : List D} {vs : List V},Dts H ds vs → Dts H ds.reverse vs.reverse
 | [],vs,h=>by simp only [Dts] at h; subst h; exact .nil
 | d :: ds,vs,h=>by
  simp only [Dts] at h
  obtain ⟨v,vr,rfl,h1,h2⟩:=h
  rw [List.reverse_cons,List.reverse_cons]
  exact (Dts.rev h2).append (.one h1)
noncomputable def spMatch (T : Txt K mg) : Sp:=fun vs H Q E=>∃ (t : L2.Tree) (k m : Nat) (row : List L2.Deed) (v : V) (pr : Addr) (rs : List V),vs = [v,.int k,.int m,.ref pr] ∧ Dt H (dT t) v ∧ t.dp ≤ 24 ∧ t.lv.length ≤ 32 ∧ k ≤ 1000 ∧ m ≤ 1000 ∧ row.length ≤ 5000 ∧ H pr = some (.lst rs) ∧ Dts H (row.map dDeed) rs ∧ okRow k m row ∧
 ∀ st pre,moms t (new2 k m) row = pre ++ [st] → (M.held st.1 [] = false → ∀ H',Same H H' → E (.ref T.C_NotHeld) none H') ∧ (M.held st.1 [] = true → ∃ cs U,M.greedy (mustP t k).reverse (usedL row (moms t (new2 k m) row) row.length) = some (cs,U) ∧ RetL H (cs.reverse.map dMat) Q)
seal PSs PS PE PT PA PI PIfs in
theorem ok_match (T : Txt K mg) : FnOk P w K mg base (CXE P w) 40 T.f_matched T.d_matched ["tree","k","many","row"] (spMatch T):=by
 refine T.F_matched.okE (k:=39) sc_matched (fun vs H Q E h=>?_) (fun cdv A outer s H vs Q E hr h L=>?_)
 · obtain ⟨t,k,m,row,v,pr,rs,rfl,_⟩:=h
   rfl
 obtain ⟨t,k,m,row,v,pr,rs,rfl,ht,hd,hl,hk,hm,lrow,er,dr,okR,qq⟩:=h
 have nd:=sc_matched.nd
 have G_moments:=(ok_mom (P:=P) (w:=w) (base:=base) T).mono (k:=39) (by omega)
 have G_formula_held:=(ok_heldF (P:=P) (w:=w) (base:=base) T).mono (k:=39) (by omega)
 have G_used_puts:=(ok_usedP (P:=P) (w:=w) (base:=base) T).mono (k:=39) (by omega)
 have G_must_put:=(ok_must (P:=P) (w:=w) (base:=base) T 24).mono (k:=39) (by omega)
 have G_lies_within:=(ok_lies (P:=P) (w:=w) (base:=base) T).mono (k:=39) (by omega)
 refine ⟨_,(pss_cons (ps_let (i:=4) nd rfl (Or.inl rfl) (pe_call G_moments hr rfl T.m_moments T.F_moments.kp T.b_moments .nil pass0 (pa_cons (pv 0) (pa_cons (pv 1) (pa_cons (pv 2) (pa_cons (pv 3) pa_nil))))))
  (pss_cons (ps_if (pt_not (pt_val (pe_call G_formula_held hr rfl T.m_formula_held T.F_formula_held.kp T.b_formula_held .nil pass0 (pa_cons (pe_ix ixF (pv 4) (pe_un un_neg pe_int) (fun _ _=>rfl)) pa_nil)))) (pss_one (ps_raise L rfl T.m_NotHeld T.x_NotHeld rfl (pa_cons pe_str pa_nil))) pss_nil)
  (pss_cons (ps_let (i:=5) nd rfl (Or.inl rfl) (pe_call G_used_puts hr rfl T.m_used_puts T.F_used_puts.kp T.b_used_puts .nil pass0 (pa_cons (pv 3) (pa_cons (pv 4) pa_nil))))
  (pss_cons (ps_let (i:=6) nd rfl (Or.inl rfl) (pe_lst pa_nil))
  (pss_cons (ps_for PassesOwn.leaving rfl (pi_rev rfl T.z_reversed (pa_cons (pe_call G_must_put hr rfl T.m_must_put T.F_must_put.kp T.b_must_put .nil pass0 (pa_cons (pv 0) (pa_cons (pv 1) pa_nil))) pa_nil)) (pg_name (i:=7) nd rfl (Or.inr rfl)) (pss_cons (ps_let (i:=8) nd rfl (Or.inl rfl) (pe_ix ixF (pe_comp (N:=["used","knot"]) (caps:=[7]) rfl ⟨rfl,rfl,rfl,rfl,by decide +kernel,rfl,rfl,rfl,rfl⟩ (piL (pv 5)) (fun _ _ _ _=>pif_one (pt_val (pe_call G_lies_within hr rfl T.m_lies_within T.F_lies_within.kp T.b_lies_within .nil pass0 (pa_cons (pe_ix ixF (pv 0) pe_int (fun _ _=>rfl)) (pa_cons (pv 1) pa_nil))))) (fun _ _ _ _=>(pv 0))) pe_int (fun _ _=>rfl)))
    (pss_cons (ps_expr (pe_bm PySem.F.plainAttrs_list PySem.F.slot_list_remove PySem.F.type_list_remove (mt_remD hr) (pv 5) (pa_cons (pv 8) pa_nil)))
    (pss_one (ps_expr (pe_bm PySem.F.plainAttrs_list PySem.F.slot_list_append PySem.F.type_list_append mt_append (pv 6) (pa_cons (pe_tup (pa_cons (pv 7) (pa_cons (pe_ix ixF (pv 8) pe_int (fun _ _=>rfl)) (pa_cons (pe_ix ixF (pv 8) pe_int (fun _ _=>rfl)) pa_nil)))) pa_nil)))))))
  (pss_one (ps_ret (pe_listRev rfl rfl T.z_list rfl T.z_reversed (pv 6))))))))),?_⟩
 refine cutC2 fun C hC=>?_
 walk_at "rd"
 refine ⟨t,k,m,row,v,pr,rs,rfl,ht,hd,hl,hk,hm,lrow,er,dr,okR,?_⟩
 intro p vs l b s1 ws us2 G HB st pre hsts SG SGA gp ep dpre el gb gs hbs hbp hsp eb es db ds
 have S:=SG.trans SGA
 have dst:=st_mk el eb es db ds
 have lsts : (moms t (new2 k m) row).length = row.length + 1:=momsL t row _
 have dall : Dts HB ((moms t (new2 k m) row).map dS) (vs ++ [.ref l]):=by
  rw [hsts,List.map_append]
  exact (dpre.same SGA).append (.one dst)
 refine ⟨p,rfl,_,items_l ep,.ref l,atI_last vs _,st,.ref l,rfl,dst,fun H2 S2=>⟨_,rfl,?_⟩⟩
 obtain ⟨qa,qb⟩:=qq st pre hsts
 have S02:=S.trans S2
 cases hh : M.held st.1 [] with
 | false=>exact iteT ⟨by decide,qa hh H2 S02⟩
 | true =>
 obtain ⟨cs,U,hgr,q⟩:=qb hh
 refine iteF ?_
 rw [hC]
 clear hC C
 walk_at "rd"
 refine ⟨pr,p,rs,_,row,moms t (new2 k m) row,rfl,S02 _ _ er,dr.same S02,lrow,S2 _ _ ep,dall.same S2,lsts,fun i d s2 h1 h2=>?_,fun p2 xs H3 S3 n3 e3 d3=>⟨Nat.zero_le _,NewO.mk fun p4 H4 S4 n4 e4=>?_⟩⟩
 · have h3:=okR d (List.mem_of_getElem? h1)
   have h4:=momsS t row _ _ (List.mem_of_getElem? h2)
   simp only [new2,List.length_replicate] at h4
   rw [h4.1,h4.2]; exact h3
 have ul:=usedL_len row (moms t (new2 k m) row) row.length
 generalize usedL row (moms t (new2 k m) row) row.length = us at *
 have S04:=(S02.trans S3).trans S4
 refine ⟨t,k,v,rfl,ht.same S04,hd,by lia,fun p5 ys H5 S5 n5 e5 D5=>?_⟩
 have kl : (mustP t k).length ≤ 5000:=by
  have h1:=M.pl_len_le t
  have h2:=List.length_filter_le (atQ t k) t.pl
  rw [mustP_pl] at h2
  (clear ep el gb gs hbs hbp hsp eb es lsts qa hh n3 e3 n4 e4 qb hgr ul n5 hk hm lrow er hsts gp hd e5; lia)
 generalize mustP t k = ks at *
 try (walk_at "rd")
 refine ⟨_,e5,?_⟩
 have lys : ys.length = ks.length:=by have:=D5.length; rw [List.length_map] at this; exact this
 have n2 : H p2 = none:=S02.free n3
 have n4' : H p4 = none:=(S02.trans S3).free n4
 have ne24 : p2 ≠ p4:=ne_of_none e3 n4
 have e25 : H5 p2 = some (.lst xs):=S5 _ _ (S4 _ _ e3)
 have e45 : H5 p4 = some (.lst []):=S5 _ _ e4
 have ne52 : p5 ≠ p2:=fun z=>by rw [z,S4 _ _ e3] at n5; cases n5
 have ne54 : p5 ≠ p4:=fun z=>by rw [z,e4] at n5; cases n5
 obtain ⟨G0,hG0⟩ : ∃ G0 : Hp,∀ a,G0 a = if a = p2 ∨ a = p4 then none else H5 a:=⟨_,fun _=>rfl⟩
 have g5 : G0 p5 = some (.lst ys):=by rw [hG0,if_neg (by rintro (z | z); exact ne52 z; exact ne54 z)]; exact e5
 have SH : Same H G0:=fun a o e=>by
  rw [hG0,if_neg (by rintro (z | z); exact ne_of_none e n2 z; exact ne_of_none e n4' z)]
  exact S5 _ _ (S04 _ _ e)
 have S0G : Same G0 H5:=fun a o e=>by
  rw [hG0] at e
  split at e
  · cases e
  · exact e
 have TT : Tups H5 G0:=fun a zs e=>by
  rw [hG0,if_neg (by rintro (z | z); exact ne_of e e25 (by intro z; cases z) z; exact ne_of e e45 (by intro z; cases z) z)]
  exact e
 have D5:=D5.tups TT (nls_map _ dP_nl _)
 obtain ⟨Pv,hPv⟩ : ∃ Pv : Nat → St → Hp → Prop,∀ i σ H',Pv i σ H' ↔ Same G0 H' ∧ (∃ cs us' xs zs,M.greedy (ks.reverse.take i) us = some (cs,us') ∧ cs.length ≤ i ∧ us'.length ≤ 5000 ∧ H' p2 = some (.lst xs) ∧ Dts H' (us'.map dUse) xs ∧ H' p4 = some (.lst zs) ∧ Dts H' (cs.map dMat) zs) ∧
  ∃ o7 o8 : Option V,σ = [some v,some (.int k),some (.int m),some (.ref pr),some (.ref p),some (.ref p2),some (.ref p4),o7,o8]:=⟨_,fun _ _ _=>Iff.rfl⟩
 refine forV Pv ((hPv _ _ _).mpr ⟨S0G,⟨[],us,xs,[],rfl,Nat.le_refl _,by (clear gb gs hbs hbp hsp eb es lsts qa hh lys n2 n4' ne24 e25 e45 ne52 ne54 g5 er hsts gp ep el n5 e5 qb hgr kl hd hl hk e3 n4 e4 hm n3; lia),e25,d3.same (S4.trans S5),e45,.nil⟩,none,none,rfl⟩) (fun i σ H' _ h=>((hPv _ _ _).mp h).1 _ _ g5) ?_ ?_
 · intro i x σ H' hx hi h
   obtain ⟨SG,⟨ds,us',xs',zs,hg,lc,lu,ex,dx,ez,dz⟩,o7,o8,rfl⟩:=(hPv _ _ _).mp h
   obtain ⟨r,hr1,hr2⟩ : ∃ r,ks.reverse[i]? = some r ∧ Dt H' (dP r) x:=by
    have h1 : ks.length - 1 - i < ks.length:=by (clear hd hl hk hm lrow er hsts gp ep el gb gs hbs hbp hsp eb es lsts qa hh n3 e3 n4 e4 ul n5 e5 qb hgr hg lc lu ex ez n4' ne24 e25 e45 ne52 ne54 kl n2 g5 hx; omega)
    obtain ⟨v',hv',dv'⟩:=Dts.map_of D5 (List.getElem?_eq_getElem h1)
    rw [← lys,hx] at hv'; cases hv'
    refine ⟨ks[ks.length - 1 - i],?_,dv'.same SG⟩
    rw [List.getElem?_reverse (by (clear hd hl hk hm lrow er hsts gp ep el gb gs hbs hbp hsp eb es lsts qa hh n3 e3 n4 e4 ul n5 e5 qb hgr kl lc lu ex ez ne24 e25 e45 ne52 ne54 g5 n4' hx; lia))]
    exact List.getElem?_eq_getElem h1
   obtain ⟨u,hf,hg'⟩:=M.greedy_step hgr hr1 hg
   have lx : xs'.length = us'.length:=by have:=dx.length; rw [List.length_map] at this; exact this
   walk_at "rd"
   refine WalkL.comp ex (fun j es H''=>es.length ≤ j ∧ Dts H'' (((us'.take j).filter fun u=>M.inner r u.1).map dUse) es) ⟨Nat.le_refl _,.nil⟩ (by (clear hd hl hk hm lrow er hsts gp ep el gb gs hbs hbp hsp eb es lsts qa hh n3 e3 n4 e4 ul n5 e5 qb hgr kl lys n2 n4' ne24 e25 e45 ne52 ne54 g5 hx hi hg ex ez hr1 hf lc hg'; lia)) (fun j es H'' h=>h.1) (fun j y es H'' ey S'' h=>?_) (fun pc es K1 K2 W1 W2 h n6 e6=>?_)
   · obtain ⟨h1,h2⟩:=h
     have hj : j < us'.length:=by have:=(List.getElem?_eq_some_iff.mp ey).1; (clear hd hl hk hm lrow er hsts gp ep el gb gs hbs hbp hsp eb lsts qa hh n3 e3 n4 e4 ul n5 e5 qb hgr kl lys n2 n4' ne24 e25 e45 ne52 ne54 g5 hx hi hg lc lu ex ez hr1 hf hg' ey h1; lia)
     obtain ⟨v',hv',dv'⟩:=Dts.map_of (dx.same S'') (List.getElem?_eq_getElem hj)
     rw [ey] at hv'; cases hv'
     obtain ⟨a,vp,rfl,ea,dvp⟩:=use_of dv'
     have et : (us'.take (j + 1)).filter (fun u=>M.inner r u.1) = (us'.take j).filter (fun u=>M.inner r u.1) ++ if M.inner r us'[j].1 = true then [us'[j]] else []:=by
      rw [List.take_add_one,List.getElem?_eq_getElem hj,List.filter_append,Option.toList_some,List.filter_cons,List.filter_nil]
     walk_at "rd"
     refine ⟨_,items_t ea,_,atI_0,us'[j].1,r,vp,x,rfl,dvp,hr2.same S'',fun K1 W1=>⟨_,rfl,ite2 (fun c=>⟨S''.trans W1,by simp; omega,?_⟩) (fun c=>⟨S''.trans W1,by (clear hd hl hk hm lrow er hsts gp ep el gb gs hbs hbp hsp eb lsts qa hh n3 e3 n4 e4 ul n5 e5 qb hgr kl lys n2 n4' ne24 e25 e45 ne52 ne54 g5 hx hi hg lc lu ex ez hr1 hf hg' lx et c ey ea; lia),?_⟩)⟩⟩
     · rw [et,if_pos c,List.map_append]
       exact (h2.same W1).append (.one (dv'.same W1))
     · rw [et,if_neg c,List.append_nil]
       exact h2.same W1
   obtain ⟨h1,h2⟩:=h
   rw [lx,List.take_length] at h2
   have hh : (us'.filter fun u=>M.inner r u.1)[0]? = some u:=by
    rw [← List.head?_eq_getElem?,List.head?_filter]
    exact hf
   obtain ⟨y,hy,dy⟩:=Dts.map_of (h2.same W2) hh
   obtain ⟨a,vp,rfl,ea,dvp⟩:=use_of dy
   have W:=W1.trans W2
   have hm:=List.mem_of_find?_eq_some hf
   obtain ⟨m1,m2⟩:=mem_idx hm
   have ex2:=W _ _ ex
   have ez2:=W _ _ ez
   refine ⟨pc,rfl,_,items_l e6,_,atI_nat hy,ty_lst ex2,_,ex2,_,dx.same W,_,dy,by have:=dUses_dp us'; (clear hd hl hk lrow er hsts gp ep el gb gs hbs hbp hsp eb lsts qa n3 e3 n4 e4 ul n5 e5 qb hgr kl lys n2 n4' ne24 e25 e45 ne52 ne54 g5 hx hi hg lc lu ex ez hr1 hf hg' lx n6 e6 h1 hh hy ea m1 ex2 ez2; lia),us'.idxOf u,by simpa using m1,m2,PutO.mk fun K3 k3 e7=>?_⟩
   have lz : zs.length = ds.length:=by have:=dz.length; rw [List.length_map] at this; exact this
   have ez3 : K3 p4 = some (.lst zs):=by rw [k3 _ ne24.symm]; exact ez2
   have ea3 : K3 a = some (.tup [vp,.int u.2.1,.int u.2.2]):=by rw [k3 _ (ne_of ea ex2 (by intro z; cases z))]; exact ea
   have hr3 : Dt K3 (dP r) x:=(hr2.same W).of_put ex2 k3 (dP_nl _)
   have du3 : Dts K3 ((us'.erase u).map dUse) (xs'.eraseIdx (us'.idxOf u)):=by
    rw [erase_map]
    exact Dts.erase ((dx.same W).of_put ex2 k3 (nls_map _ dUse_nl _)) _
   have dz3 : Dts K3 (ds.map dMat) zs:=(dz.same W).of_put ex2 k3 (nls_map _ dMat_nl _)
   refine ⟨ty_lst ez3,a,rfl,_,items_t ea3,_,atI_1,a,rfl,_,items_t ea3,_,atI_2,by decide,NewO.mk fun p8 K4 S8 n8 e8=>⟨_,S8 _ _ ez3,small_size (by (clear hd hl hk lrow er hsts gp ep el gb gs hbs hbp hsp eb lsts qa n3 e3 n4 e4 ul n5 e5 lu ex ez hr1 hf hg' lx n6 e6 h1 hh hy ea m1 ex2 ez2 n2 n4' ne24 e25 e45 ne52 ne54 g5 n8 e8 qb hgr ez3 ea3 hx hg e7; lia)),PutO.mk fun K5 k5 e9=>?_⟩⟩
   have d8 : Dt K4 (dMat (r,u)) (.ref p8):=Dt.tup e8 (.cons (hr3.same S8) (.cons (isD_int.mpr rfl) (.cons (isD_int.mpr rfl) .nil)))
   refine (hPv _ _ _).mpr ⟨fun c o e=>?_,⟨ds ++ [(r,u)],us'.erase u,xs'.eraseIdx (us'.idxOf u),_,hg',by simp; omega,Nat.le_trans (List.length_erase_le) lu,?_,?_,e9,?_⟩,_,_,rfl⟩
   · rw [hG0] at e
     split at e
     · cases e
     · rename_i hc
       rw [k5 c (fun z=>hc (.inr z))]
       refine S8 _ _ ?_
       rw [k3 c (fun z=>hc (.inl z))]
       exact W _ _ (SG _ _ (by rw [hG0,if_neg hc]; exact e))
   · rw [k5 _ ne24]; exact S8 _ _ e7
   · exact (du3.same S8).of_put (S8 _ _ ez3) k5 (nls_map _ dUse_nl _)
   · rw [List.map_append]
     exact ((dz3.same S8).append (.one d8)).of_put (S8 _ _ ez3) k5 (by rw [← List.map_append]; exact nls_map _ dMat_nl _)
 · intro σ H' h
   obtain ⟨SG,⟨ds,us',xs',zs,hg,lc,lu,ex,dx,ez,dz⟩,o7,o8,rfl⟩:=(hPv _ _ _).mp h
   rw [lys,show ks.length = ks.reverse.length by simp,List.take_length,hgr] at hg
   cases hg
   walk_at "rd"
   refine ⟨_,ez,NewO.mk fun p6 H6 S6 n6 e6=>q p6 _ H6 ((SH.trans SG).trans S6) ((SH.trans SG).free n6) e6 ?_⟩
   rw [List.map_reverse]
   exact Dts.rev (dz.same S6)
noncomputable def rowInto (k : Int) : L2.Tree → Nat → Nat → List L2.Deed
 | .leaf x,box,_=>[.take x box]
 | .knot f l r,box,sh =>
  if mustT k (.knot f l r) = true then rowInto k r 0 sh ++ [.put 0 sh] ++ rowInto k l 0 (sh + 1) ++ [.fetch sh 1,.join f 0 1 0]
  else if r.rk ≤ l.rk then rowInto k l box sh ++ rowInto k r (box + 1) sh ++ [.join f box (box + 1 : Nat) box]
  else rowInto k r box sh ++ rowInto k l (box + 1) sh ++ [.join f (box + 1 : Nat) box box]
theorem rowInto_len (k : Int) : ∀ (t : L2.Tree) (b s : Nat),(rowInto k t b s).length + 3 ≤ 4 * t.lv.length
 | .leaf x,b,s=>by simp [rowInto,M.Tr.lv]
 | .knot f l r,b,s=>by
  have h1:=rowInto_len k r 0 s
  have h2:=rowInto_len k l 0 (s + 1)
  have h3:=rowInto_len k l b s
  have h4:=rowInto_len k r (b + 1) s
  have h5:=rowInto_len k r b s
  have h6:=rowInto_len k l (b + 1) s
  simp only [rowInto,M.Tr.lv,List.length_append]
  split
  · simp only [List.length_append,List.length_cons,List.length_nil]; lia
  · split <;> (simp only [List.length_append,List.length_cons,List.length_nil]; (clear h1 h2; lia))
noncomputable def spInto (n : Nat) : Sp:=fun vs H Q _=>∃ (t : L2.Tree) (k : Int) (b s : Nat) (v : V),vs = [v,.int k,.int b,.int s] ∧ Dt H (dT t) v ∧ t.dp ≤ n ∧ t.lv.length ≤ 5000 ∧ RetL H ((rowInto k t b s).map dDeed) Q
noncomputable def spShelf (n : Nat) : Sp:=fun vs H Q _=>∃ (f : Str) (l r : L2.Tree) (k : Int) (s : Nat) (v : V),vs = [v,.int k,.int s] ∧ Dt H (dT (.knot f l r)) v ∧ l.dp ≤ n ∧ r.dp ≤ n ∧ l.lv.length + r.lv.length ≤ 5000 ∧ RetL H ((rowInto k r 0 s ++ [(M.Deed.put 0 s : L2.Deed)] ++ rowInto k l 0 (s + 1) ++ [(M.Deed.fetch s 1 : L2.Deed),M.Deed.join f 0 1 0]).map dDeed) Q
theorem ok_bshelf (T : Txt K mg) {n c : Nat} (G_row_into : FnOk P w K mg base CX0 c T.f_row_into T.d_row_into ["tree","k","box","shelf"] (spInto n)) : FnOk P w K mg base CX0 (c + 1) T.f_row_by_shelf T.d_row_by_shelf ["tree","k","shelf"] (spShelf n):=by
 refine T.F_row_by_shelf.ok (k:=c) sc_row_by_shelf (fun vs H Q E h=>?_) (fun cdv A outer s H vs Q E hr h=>?_)
 · obtain ⟨f,l,r,k,s,v,rfl,_⟩:=h
   rfl
 obtain ⟨f,l,r,k,sh,v,rfl,ht,hl,hr',hlv,q⟩:=h
 obtain ⟨a,vl,vr,rfl,ea,dl,dr⟩:=dT_knot ht
 have nd:=sc_row_by_shelf.nd
 refine ⟨_,(pss_cons (ps_let (i:=3) nd rfl (Or.inl rfl) (pe_call G_row_into hr rfl T.m_row_into T.F_row_into.kp T.b_row_into .nil pass0 (pa_cons (pe_ix ixF (pv 0) pe_int (fun _ _=>rfl)) (pa_cons (pv 1) (pa_cons pe_int (pa_cons (pv 2) pa_nil))))))
  (pss_cons (ps_let (i:=4) nd rfl (Or.inl rfl) (pe_call G_row_into hr rfl T.m_row_into T.F_row_into.kp T.b_row_into .nil pass0 (pa_cons (pe_ix ixF (pv 0) pe_int (fun _ _=>rfl)) (pa_cons (pv 1) (pa_cons pe_int (pa_cons (pe_op op_add (pv 2) pe_int) pa_nil))))))
  (pss_one (ps_ret (pe_op op_cat (pe_op op_cat (pe_op op_cat (pv 3) (pe_lst (pa_cons (pe_tup (pa_cons pe_str (pa_cons pe_int (pa_cons (pv 2) pa_nil)))) pa_nil))) (pv 4)) (pe_lst (pa_cons (pe_tup (pa_cons pe_str (pa_cons (pv 2) (pa_cons pe_int pa_nil)))) (pa_cons (pe_tup (pa_cons pe_str (pa_cons (pe_ix ixF (pv 0) pe_int (fun _ _=>rfl)) (pa_cons pe_int (pa_cons pe_int (pa_cons pe_int pa_nil)))))) pa_nil)))))))),?_⟩
 walk_at "rd"
 have b1:=rowInto_len k r 0 sh
 have b2:=rowInto_len k l 0 (sh + 1)
 refine ⟨_,items_t ea,_,atI_3,r,k,0,sh,vr,rfl,dr,hr',by (clear ea b1 b2 hl hr'; lia),fun p1 xs H1 S1 n1 e1 D1=>?_⟩
 refine ⟨_,items_t (S1 _ _ ea),_,atI_2,l,k,0,sh + 1,vl,by simp,dl.same S1,hl,by (clear b1 b2 n1 e1 hl hr' ea; lia),fun p2 ys H2 S2 n2 e2 D2=>?_⟩
 have l1:=D1.length
 have l2:=D2.length
 rw [List.length_map] at l1 l2
 refine ⟨by decide,NewO.mk fun p3 H3 S3 n3 e3=>⟨by decide,NewO.mk fun p4 H4 S4 n4 e4=>⟨p1,rfl,_,rfl,_,S4 _ _ (S3 _ _ (S2 _ _ e1)),_,e4,small_le (by simp; lia),NewO.mk fun p5 H5 S5 n5 e5=>?_⟩⟩⟩
 have S25:=(S3.trans S4).trans S5
 refine ⟨p5,rfl,_,rfl,_,e5,_,S25 _ _ e2,small_le (by simp; (clear e4 n5 e5 n1 e1 n2 n3 e3 n4 hl hr' ea e2; lia)),NewO.mk fun p6 H6 S6 n6 e6=>?_⟩
 have S26:=S25.trans S6
 have S06:=(S1.trans S2).trans S26
 refine ⟨by decide,NewO.mk fun p7 H7 S7 n7 e7=>⟨_,items_t (S7 _ _ (S06 _ _ ea)),_,atI_1,by decide,NewO.mk fun p8 H8 S8 n8 e8=>⟨by decide,NewO.mk fun p9 H9 S9 n9 e9=>⟨p6,rfl,_,rfl,_,S9 _ _ (S8 _ _ (S7 _ _ e6)),_,e9,small_le (by simp; (clear e3 n4 e4 n5 e5 n6 e6 n7 e7 n8 e8 n9 e9 n3 hl hr' n1 e1 n2 e2 ea; lia)),NewO.mk fun pA HA SA nA eA=>?_⟩⟩⟩⟩
 have S6A:=((S7.trans S8).trans S9).trans SA
 have S2A:=S26.trans S6A
 have S0A:=(S1.trans S2).trans S2A
 refine q pA _ HA S0A (S06.free (((S7.trans S8).trans S9).free nA)) eA ?_
 have d3 : Dt HA (dDeed (M.Deed.put 0 sh)) (.ref p3):=deed_mk (S6A _ _ (S6 _ _ (S5 _ _ (S4 _ _ e3))))
 have d7 : Dt HA (dDeed (M.Deed.fetch sh 1)) (.ref p7):=deed_mk (SA _ _ (S9 _ _ (S8 _ _ e7)))
 have d8 : Dt HA (dDeed (M.Deed.join f 0 1 0)) (.ref p8):=deed_mk (SA _ _ (S9 _ _ e8))
 simp only [List.map_append,List.map_cons,List.map_nil]
 exact Dts.append (Dts.append (Dts.append (D1.same (S2.trans S2A)) (.one d3)) (D2.same S2A)) (.cons d7 (.one d8))
noncomputable def spBoxes (n : Nat) : Sp:=fun vs H Q _=>∃ (f : Str) (l r : L2.Tree) (k : Int) (b s : Nat) (v : V),vs = [v,.int k,.int b,.int s] ∧ Dt H (dT (.knot f l r)) v ∧ l.dp ≤ n ∧ r.dp ≤ n ∧ l.lv.length + r.lv.length ≤ 5000 ∧
 RetL H ((if r.rk ≤ l.rk then rowInto k l b s ++ rowInto k r (b + 1) s ++ [(M.Deed.join f b (b + 1 : Nat) b : L2.Deed)] else rowInto k r b s ++ rowInto k l (b + 1) s ++ [(M.Deed.join f (b + 1 : Nat) b b : L2.Deed)]).map dDeed) Q
theorem ok_bboxes (T : Txt K mg) {n c : Nat} (hc : n + 2 ≤ c) (G_row_into : FnOk P w K mg base CX0 c T.f_row_into T.d_row_into ["tree","k","box","shelf"] (spInto n)) : FnOk P w K mg base CX0 (c + 1) T.f_row_by_boxes T.d_row_by_boxes ["tree","k","box","shelf"] (spBoxes n):=by
 refine T.F_row_by_boxes.ok (k:=c) sc_row_by_boxes (fun vs H Q E h=>?_) (fun cdv A outer s H vs Q E hr h=>?_)
 · obtain ⟨f,l,r,k,b,s,v,rfl,_⟩:=h
   rfl
 obtain ⟨f,l,r,k,b,sh,v,rfl,ht,hl,hr',hlv,q⟩:=h
 obtain ⟨a,vl,vr,rfl,ea,dl,dr⟩:=dT_knot ht
 have nd:=sc_row_by_boxes.nd
 have G_rank:=(ok_rank (P:=P) (w:=w) (base:=base) T n).mono (k:=c) (by omega)
 refine ⟨_,(pss_cons (ps_if (pt_cmpR op_ge (pe_call G_rank hr rfl T.m_rank T.F_rank.kp T.b_rank .nil pass0 (pa_cons (pe_ix ixF (pv 0) pe_int (fun _ _=>rfl)) pa_nil)) (pe_call G_rank hr rfl T.m_rank T.F_rank.kp T.b_rank .nil pass0 (pa_cons (pe_ix ixF (pv 0) pe_int (fun _ _=>rfl)) pa_nil)) (nomark _)) (pss_cons (ps_let (i:=4) nd rfl (Or.inl rfl) (pe_op op_cat (pe_call G_row_into hr rfl T.m_row_into T.F_row_into.kp T.b_row_into .nil pass0 (pa_cons (pe_ix ixF (pv 0) pe_int (fun _ _=>rfl)) (pa_cons (pv 1) (pa_cons (pv 2) (pa_cons (pv 3) pa_nil))))) (pe_call G_row_into hr rfl T.m_row_into T.F_row_into.kp T.b_row_into .nil pass0 (pa_cons (pe_ix ixF (pv 0) pe_int (fun _ _=>rfl)) (pa_cons (pv 1) (pa_cons (pe_op op_add (pv 2) pe_int) (pa_cons (pv 3) pa_nil)))))))
  (pss_one (ps_ret (pe_op op_cat (pv 4) (pe_lst (pa_cons (pe_tup (pa_cons pe_str (pa_cons (pe_ix ixF (pv 0) pe_int (fun _ _=>rfl)) (pa_cons (pv 2) (pa_cons (pe_op op_add (pv 2) pe_int) (pa_cons (pv 2) pa_nil)))))) pa_nil)))))) pss_nil)
  (pss_cons (ps_let (i:=4) nd rfl (Or.inl rfl) (pe_op op_cat (pe_call G_row_into hr rfl T.m_row_into T.F_row_into.kp T.b_row_into .nil pass0 (pa_cons (pe_ix ixF (pv 0) pe_int (fun _ _=>rfl)) (pa_cons (pv 1) (pa_cons (pv 2) (pa_cons (pv 3) pa_nil))))) (pe_call G_row_into hr rfl T.m_row_into T.F_row_into.kp T.b_row_into .nil pass0 (pa_cons (pe_ix ixF (pv 0) pe_int (fun _ _=>rfl)) (pa_cons (pv 1) (pa_cons (pe_op op_add (pv 2) pe_int) (pa_cons (pv 3) pa_nil)))))))
  (pss_one (ps_ret (pe_op op_cat (pv 4) (pe_lst (pa_cons (pe_tup (pa_cons pe_str (pa_cons (pe_ix ixF (pv 0) pe_int (fun _ _=>rfl)) (pa_cons (pe_op op_add (pv 2) pe_int) (pa_cons (pv 2) (pa_cons (pv 2) pa_nil)))))) pa_nil))))))),?_⟩
 walk_at "rd"
 have b1:=rowInto_len k l b sh
 have b2:=rowInto_len k r (b + 1) sh
 have b3:=rowInto_len k r b sh
 have b4:=rowInto_len k l (b + 1) sh
 refine ⟨_,items_t ea,_,atI_2,l,vl,rfl,dl,hl,_,items_t ea,_,atI_3,r,vr,rfl,dr,hr',?_⟩
 refine ⟨_,rfl,_,rfl,ite2 (fun c=>?_) (fun c=>?_)⟩
 · have c : r.rk ≤ l.rk:=by have:=of_decide_eq_true c; (clear hc hl hr' hlv ea b1 b2 b3 b4 c; lia)
   rw [if_pos c] at q
   refine ⟨_,items_t ea,_,atI_2,l,k,b,sh,vl,rfl,dl,hl,by (clear b1 b2 b3 b4 c hc hl hr' ea; lia),fun p1 xs H1 S1 n1 e1 D1=>?_⟩
   refine ⟨_,items_t (S1 _ _ ea),_,atI_3,r,k,b + 1,sh,vr,rfl,dr.same S1,hr',by (clear hc hl hr' c n1 e1 b1 b2 b3 b4 ea; lia),fun p2 ys H2 S2 n2 e2 D2=>?_⟩
   have l1:=D1.length
   have l2:=D2.length
   rw [List.length_map] at l1 l2
   refine ⟨p1,rfl,_,rfl,_,S2 _ _ e1,_,e2,small_le (by (clear b4 c n1 e1 hc hl n2 e2 hr' ea b3; lia)),NewO.mk fun p3 H3 S3 n3 e3=>?_⟩
   have S03:=(S1.trans S2).trans S3
   refine ⟨_,items_t (S03 _ _ ea),_,atI_1,by decide,NewO.mk fun p4 H4 S4 n4 e4=>⟨by decide,NewO.mk fun p5 H5 S5 n5 e5=>⟨p3,rfl,_,rfl,_,S5 _ _ (S4 _ _ e3),_,e5,small_le (by simp; (clear n4 e4 n5 e5 hc hl hr' c n1 e1 b3 b4 n2 e2 n3 e3 ea; lia)),NewO.mk fun p6 H6 S6 n6 e6=>?_⟩⟩⟩
   have S36:=(S4.trans S5).trans S6
   refine q p6 _ H6 (S03.trans S36) (S03.free ((S4.trans S5).free n6)) e6 ?_
   have d4 : Dt H6 (dDeed (M.Deed.join f b (b + 1 : Nat) b)) (.ref p4):=deed_mk (S6 _ _ (S5 _ _ e4))
   simp only [List.map_append,List.map_cons,List.map_nil]
   exact Dts.append (Dts.append (D1.same ((S2.trans S3).trans S36)) (D2.same (S3.trans S36))) (.one d4)
 · have c : ¬ r.rk ≤ l.rk:=fun z=>c (decide_eq_true (by (clear hc hl hr' hlv ea b1 b2 b3 b4 c; lia)))
   rw [if_neg c] at q
   refine ⟨_,items_t ea,_,atI_3,r,k,b,sh,vr,rfl,dr,hr',by (clear b1 b2 b3 b4 c hc hl hr' ea; lia),fun p1 xs H1 S1 n1 e1 D1=>?_⟩
   refine ⟨_,items_t (S1 _ _ ea),_,atI_2,l,k,b + 1,sh,vl,rfl,dl.same S1,hl,by (clear b2 b3 b4 c n1 e1 hc hl hr' b1 ea; lia),fun p2 ys H2 S2 n2 e2 D2=>?_⟩
   have l1:=D1.length
   have l2:=D2.length
   rw [List.length_map] at l1 l2
   refine ⟨p1,rfl,_,rfl,_,S2 _ _ e1,_,e2,small_le (by (clear hc hl ea b1 n1 e1 n2 e2 hr' b2 c; lia)),NewO.mk fun p3 H3 S3 n3 e3=>?_⟩
   have S03:=(S1.trans S2).trans S3
   refine ⟨_,items_t (S03 _ _ ea),_,atI_1,by decide,NewO.mk fun p4 H4 S4 n4 e4=>⟨by decide,NewO.mk fun p5 H5 S5 n5 e5=>⟨p3,rfl,_,rfl,_,S5 _ _ (S4 _ _ e3),_,e5,small_le (by simp; (clear n4 e4 n5 e5 hc hl hr' c n1 e1 b1 b2 n2 e2 n3 e3 ea; lia)),NewO.mk fun p6 H6 S6 n6 e6=>?_⟩⟩⟩
   have S36:=(S4.trans S5).trans S6
   refine q p6 _ H6 (S03.trans S36) (S03.free ((S4.trans S5).free n6)) e6 ?_
   have d4 : Dt H6 (dDeed (M.Deed.join f (b + 1 : Nat) b b)) (.ref p4):=deed_mk (S6 _ _ (S5 _ _ e4))
   simp only [List.map_append,List.map_cons,List.map_nil]
   exact Dts.append (Dts.append (D1.same ((S2.trans S3).trans S36)) (D2.same (S3.trans S36))) (.one d4)
theorem ok_into (T : Txt K mg) : ∀ n : Nat,FnOk P w K mg base CX0 (2 * n + 5) T.f_row_into T.d_row_into ["tree","k","box","shelf"] (spInto n)
 | 0=>by
  refine T.F_row_into.ok (k:=4) sc_row_into (fun vs H Q E h=>?_) (fun cdv A outer s H vs Q E hr h=>?_)
  · obtain ⟨t,k,b,s,v,rfl,_⟩:=h
    rfl
  · obtain ⟨t,k,b,s,v,rfl,_,h,_⟩:=h
    have:=t.dp_pos
    omega
 | n + 1=>by
  refine T.F_row_into.ok (k:=2 * n + 6) sc_row_into (fun vs H Q E h=>?_) (fun cdv A outer s H vs Q E hr h=>?_)
  · obtain ⟨t,k,b,s,v,rfl,_⟩:=h
    rfl
  obtain ⟨t,k,b,sh,v,rfl,ht,hd,hlv,q⟩:=h
  have nd:=sc_row_into.nd
  have G_is_leaf:=(ok_leaf (P:=P) (w:=w) (base:=base) T).mono (k:=2 * n + 6) (by lia)
  have G_puts:=(ok_puts (P:=P) (w:=w) (base:=base) T (n + 1)).mono (k:=2 * n + 6) (by lia)
  have G_row_by_shelf:=ok_bshelf T (ok_into T n)
  have G_row_by_boxes:=ok_bboxes T (by lia) (ok_into T n)
  refine ⟨_,(pss_cons (ps_if (pt_val (pe_call G_is_leaf hr rfl T.m_is_leaf T.F_is_leaf.kp T.b_is_leaf .nil pass0 (pa_cons (pv 0) pa_nil))) (pss_one (ps_ret (pe_lst (pa_cons (pe_tup (pa_cons pe_str (pa_cons (pe_ix ixF (pv 0) pe_int (fun _ _=>rfl)) (pa_cons (pv 2) pa_nil)))) pa_nil)))) pss_nil)
  (pss_cons (ps_if (pt_val (pe_call G_puts hr rfl T.m_puts T.F_puts.kp T.b_puts .nil pass0 (pa_cons (pv 0) (pa_cons (pv 1) pa_nil)))) (pss_one (ps_ret (pe_call G_row_by_shelf hr rfl T.m_row_by_shelf T.F_row_by_shelf.kp T.b_row_by_shelf .nil pass0 (pa_cons (pv 0) (pa_cons (pv 1) (pa_cons (pv 3) pa_nil)))))) pss_nil)
  (pss_one (ps_ret (pe_call G_row_by_boxes hr rfl T.m_row_by_boxes T.F_row_by_boxes.kp T.b_row_by_boxes .nil pass0 (pa_cons (pv 0) (pa_cons (pv 1) (pa_cons (pv 2) (pa_cons (pv 3) pa_nil))))))))),?_⟩
  walk_at "rd"
  refine ⟨t,v,rfl,ht,_,rfl,?_⟩
  cases t with
  | leaf x =>
   obtain ⟨a,rfl,ea⟩:=dT_leaf ht
   refine iteT ⟨_,rfl,_,items_t ea,_,atI_1,by decide,NewO.mk fun p1 H1 S1 n1 e1=>⟨by decide,NewO.mk fun p2 H2 S2 n2 e2=>?_⟩⟩
   exact q p2 _ H2 (S1.trans S2) (S1.free n2) e2 (.one (deed_mk (d:=.take x b) (S2 _ _ e1)))
  | knot f l r =>
   simp only [M.Tr.dp] at hd
   simp only [M.Tr.lv,List.length_append] at hlv
   refine iteF ⟨_,k,v,rfl,ht,by simp only [M.Tr.dp]; omega,_,rfl,ite2 (fun c=>?_) (fun c=>?_)⟩
   · simp only [rowInto,if_pos c] at q
     exact ⟨f,l,r,k,sh,v,rfl,ht,by (clear c hlv; lia),by (clear c hlv; lia),hlv,q⟩
   · simp only [rowInto,if_neg c] at q
     exact ⟨f,l,r,k,b,sh,v,rfl,ht,by lia,by lia,hlv,q⟩
noncomputable def spFor (T : Txt K mg) : Sp:=fun vs H Q E=>∃ (t : L2.Tree) (k : Int) (v : V),vs = [v,.int k] ∧ Dt H (dT t) v ∧ t.dp ≤ 24 ∧ t.lv.length ≤ 32 ∧ k.natAbs.log2 < 1900 ∧ (few t k → ∀ H',Same H H' → E (.ref T.C_TooFew) none H') ∧
 (¬ few t k → RetL H ((rowInto k t 0 0).map dDeed) Q)
theorem ok_for (T : Txt K mg) : FnOk P w K mg base (CXE P w) 54 T.f_row_for T.d_row_for ["tree","k"] (spFor T):=by
 refine T.F_row_for.okE (k:=53) sc_row_for (fun vs H Q E h=>?_) (fun cdv A outer s H vs Q E hr h L=>?_)
 · obtain ⟨t,k,v,rfl,_⟩:=h
   rfl
 obtain ⟨t,k,v,rfl,ht,hd,hlv,hk,qe,q⟩:=h
 have nd:=sc_row_for.nd
 have G_least:=(ok_least (P:=P) (w:=w) (base:=base) T).mono (k:=53) (by omega)
 have G_row_into:=ok_into (P:=P) (w:=w) (base:=base) T 24
 refine ⟨_,(pss_cons (ps_expr (pe_call G_least hr rfl T.m_least T.F_least.kp T.b_least .nil (passE L) (pa_cons (pv 0) (pa_cons (pv 1) pa_nil))))
  (pss_one (ps_ret (pe_call G_row_into hr rfl T.m_row_into T.F_row_into.kp T.b_row_into .nil pass0 (pa_cons (pv 0) (pa_cons (pv 1) (pa_cons pe_int (pa_cons pe_int pa_nil)))))))),?_⟩
 walk_at "rd"
 refine ⟨t,k,v,rfl,ht,hd,hlv,hk,qe,fun nf v' H1 S1 d1=>?_⟩
 refine ⟨t,k,0,0,v,rfl,ht.same S1,hd,by lia,fun p xs H2 S2 n2 e2 D2=>?_⟩
 exact q nf p xs H2 (S1.trans S2) (S1.free n2) e2 D2
noncomputable def cM (k : Int) : L2.Tree → Nat
 | .leaf _=>0
 | .knot f l r=>(if mustT k (.knot f l r) = true then 1 else 0) + cM k l + cM k r
theorem getD_set {β : Type} (l : List β) (i j : Nat) (v z : β) : (l.set i v).getD j z = if j = i ∧ i < l.length then v else l.getD j z:=by
 rw [List.getD_eq_getElem?_getD,List.getD_eq_getElem?_getD,List.getElem?_set]
 by_cases c : i = j
 · subst c
   by_cases d : i < l.length
   · rw [if_pos rfl,if_pos d,if_pos ⟨rfl,d⟩]; rfl
   · rw [if_pos rfl,if_neg d,if_neg fun z=>d z.2,List.getElem?_eq_none (by lia)]
 · rw [if_neg c,if_neg fun z=>c z.1.symm]
theorem must_iff (k : Int) (f : Str) (l r : L2.Tree) : mustT k (.knot f l r) = true ↔ k ≤ l.rk ∧ k ≤ r.rk:=by
 show (true && decide (k ≤ ((min l.rk r.rk : Nat) : Int))) = true ↔ _
 simp; lia
section
variable {β : Type} {z : β} {tk : Str → β} {jn : Str → β → β → β}
theorem fold_len (row : List L2.Deed) (st : List β × List β) : (row.foldl (M.Deed.go z tk jn) st).1.length = st.1.length ∧ (row.foldl (M.Deed.go z tk jn) st).2.length = st.2.length:=M.Deed.rows_len row st
end
noncomputable def wordD : L2.Deed → Str
 | .take _ _=>Str.ofString "take"
 | .join _ _ _ _=>Str.ofString "join"
 | .put _ _=>Str.ofString "put"
 | .fetch _ _=>Str.ofString "fetch"
noncomputable def cnt (x : Str) (row : List L2.Deed) : Nat:=row.countP fun d=>decide (wordD d = x)
theorem ww : Str.ofString "take" ≠ Str.ofString "join" ∧ Str.ofString "take" ≠ Str.ofString "put" ∧ Str.ofString "take" ≠ Str.ofString "fetch" ∧ Str.ofString "join" ≠ Str.ofString "put" ∧ Str.ofString "join" ≠ Str.ofString "fetch" ∧ Str.ofString "put" ≠ Str.ofString "fetch":=by
 refine ⟨?_,?_,?_,?_,?_,?_⟩ <;> decide +kernel
theorem cnt_app (x : Str) (a b : List L2.Deed) : cnt x (a ++ b) = cnt x a + cnt x b:=List.countP_append
theorem cnt_cons (x : Str) (d : L2.Deed) (a : List L2.Deed) : cnt x (d :: a) = cnt x a + if wordD d = x then 1 else 0:=by
 unfold cnt; rw [List.countP_cons]; simp
theorem cnt_nil (x : Str) : cnt x [] = 0:=rfl
theorem cnt_row (k : Int) : ∀ (t : L2.Tree) (b s : Nat),cnt (Str.ofString "take") (rowInto k t b s) = t.lv.length ∧ cnt (Str.ofString "join") (rowInto k t b s) + 1 = t.lv.length ∧ cnt (Str.ofString "put") (rowInto k t b s) = cM k t ∧ cnt (Str.ofString "fetch") (rowInto k t b s) = cM k t
 | .leaf x,b,s=>by
  obtain ⟨h1,h2,h3,h4,h5,h6⟩:=ww
  simp only [rowInto,cnt_cons,cnt_nil,wordD,M.Tr.lv,cM,h1,h2,h3,if_true,if_false,List.length_cons,List.length_nil]
  decide
 | .knot f l r,b,s=>by
  obtain ⟨h1,h2,h3,h4,h5,h6⟩:=ww
  have a1:=cnt_row k r 0 s
  have a2:=cnt_row k l 0 (s + 1)
  have a3:=cnt_row k l b s
  have a4:=cnt_row k r (b + 1) s
  have a5:=cnt_row k r b s
  have a6:=cnt_row k l (b + 1) s
  have w : ∀ (x : Str) (d : L2.Deed) (n : Nat),(if wordD d = x then 1 else 0) = n → ∀ m,m + (if wordD d = x then 1 else 0) = m + n:=fun x d n h m=>by rw [h]
  simp only [rowInto,M.Tr.lv,List.length_append,cM]
  by_cases c : mustT k (.knot f l r) = true
  · simp only [if_pos c,cnt_app,cnt_cons,cnt_nil,wordD,h1,h2,h3,h4,h5,h6,h1.symm,h2.symm,h3.symm,h4.symm,h5.symm,h6.symm,if_true,if_false]
    (clear h1 h2 h3 h4 a3 a4 a5 a6 c h5 h6; lia)
  · simp only [if_neg c]
    by_cases c2 : r.rk ≤ l.rk
    · simp only [if_pos c2,cnt_app,cnt_cons,cnt_nil,wordD,h1,h2,h3,h4,h5,h6,h1.symm,h2.symm,h3.symm,h4.symm,h5.symm,h6.symm,if_true,if_false]
      (clear h1 h2 h3 h4 h5 h6 a1 a6 c c2 a2 a5; lia)
    · simp only [if_neg c2,cnt_app,cnt_cons,cnt_nil,wordD,h1,h2,h3,h4,h5,h6,h1.symm,h2.symm,h3.symm,h4.symm,h5.symm,h6.symm,if_true,if_false]
      (clear h1 h2 h3 h4 h5 h6 a1 a2 a3 c2 a4 c; lia)
theorem vDeed_0 (d : L2.Deed) : ∃ r,vDeed d = .str (wordD d) :: r:=by cases d <;> exact ⟨_,rfl⟩
noncomputable def wo (pp : Addr) (H : Hp) : Hp:=fun a=>if a = pp then none else H a
theorem wo_of {pp c : Addr} {H : Hp} (h : c ≠ pp) : wo pp H c = H c:=if_neg h
theorem wo_in {pp : Addr} {H : Hp} : Same (wo pp H) H:=fun c o e=>by
 by_cases y : c = pp
 · unfold wo at e; rw [if_pos y] at e; cases e
 · rw [wo_of y] at e; exact e
theorem wo_same {pp : Addr} {H H' : Hp} (S : Same H H') : Same (wo pp H) (wo pp H'):=fun c o e=>by
 by_cases y : c = pp
 · unfold wo at e; rw [if_pos y] at e; cases e
 · rw [wo_of y] at e ⊢; exact S _ _ e
theorem wo_put {pp : Addr} {H H' : Hp} (k : ∀ c,c ≠ pp → H' c = H c) : Same (wo pp H) (wo pp H'):=fun c o e=>by
 by_cases y : c = pp
 · unfold wo at e; rw [if_pos y] at e; cases e
 · rw [wo_of y] at e ⊢; rw [k c y]; exact e
theorem wo_ne {pp c : Addr} {H : Hp} {o : HO} (e : wo pp H c = some o) : c ≠ pp:=fun y=>by
 unfold wo at e; rw [if_pos y] at e; cases e
noncomputable def ndd (t : L2.Tree) : Nat:=2 * t.lv.length - 1
noncomputable def nk (t : L2.Tree) : Nat:=t.lv.length - 1
theorem two_mul (n u v : Nat) : n * (1 + u) + n * (1 + v) = n * (1 + (u + v + 1)):=by
 rw [← Nat.mul_add]; congr 1; lia
theorem sum_mul (n m e u v : Nat) : n * (1 + u) + m * (1 + v) + e ≤ (n + m + e) * (1 + (u + v)):=by
 have h1 : n * (1 + u) ≤ n * (1 + (u + v)):=Nat.mul_le_mul_left _ (by lia)
 have h2 : m * (1 + v) ≤ m * (1 + (u + v)):=Nat.mul_le_mul_left _ (by (clear h1; lia))
 have h3 : e * 1 ≤ e * (1 + (u + v)):=Nat.mul_le_mul_left _ (by (clear h1 h2; lia))
 rw [Nat.add_mul,Nat.add_mul]
 lia
theorem wo_free {pp p : Addr} {H H' : Hp} {o : HO} (W : Same (wo pp H) (wo pp H')) (e : H' pp = some o) (z : H' p = none) : H p = none:=by
 have hp : p ≠ pp:=fun y=>by rw [y,e] at z; cases z
 cases q : H p with
 | none=>rfl
 | some o' =>
  have:=W p o' (by rw [wo_of hp]; exact q)
  rw [wo_of hp,z] at this; cases this
theorem ok_mono {d : L2.Deed} {k : Int} {m m' : Nat} (h : d.ok k m) (l : m ≤ m') : d.ok k m':=⟨h.1,fun i hi=>⟨(h.2 i hi).1,by have:=(h.2 i hi).2; lia⟩⟩
theorem sm_mul {a b : Nat} (h1 : a ≤ 63) (h2 : b ≤ 3) : a * b ≤ 189:=Nat.mul_le_mul h1 h2
theorem ifand {r c : Bool} {X Y A B : Prop} (x : X) (y : Y) (hA : r = true → c = true → A) (hB : B) : if r = true then (X ∧ Y ∧ if c = true then A else B) else B:=by
 cases r
 · exact hB
 · refine ⟨x,y,?_⟩
   cases c
   · exact hB
   · exact hA rfl rfl
theorem cut_tail (x y : V) (l : List V) : cutV (x :: y :: l) (some 1) none = y :: l:=by
 unfold cutV
 have h1 : HT.sIx (x :: y :: l).length 0 (some 1) = 1:=by
  show (if (1 : Int) < 0 then ((1 : Int) + ((x :: y :: l).length : Int)).toNat else min (1 : Int).toNat (x :: y :: l).length) = 1
  rw [if_neg (by decide)]
  simp
 rw [h1]
 show ((x :: y :: l).drop 1).take ((x :: y :: l).length - 1) = _
 simp
noncomputable def namedT (t : L2.Tree) : L2.Deed → Prop
 | .take x _=>x ∈ t.lv
 | .join f _ _ _=>f ∈ t.kn
 | _=>True
theorem namedL {t u : L2.Tree} {d : L2.Deed} (h : namedT t d) (h1 : ∀ z ∈ t.lv,z ∈ u.lv) (h2 : ∀ z ∈ t.kn,z ∈ u.kn) : namedT u d:=by
 cases d with
 | take x i=>exact h1 _ h
 | join f i j l=>exact h2 _ h
 | put i j=>trivial
 | fetch j i=>trivial
noncomputable def spWaste (K : PySem.W.Frag) (n : Nat) : Sp:=fun vs H Q _=>∃ (a pp pf : Addr) (ns : List Int) (t : L2.Tree) (v : V) (fr : List Int) (k : Int) (c s ag : Nat) (md : Int),vs = [.ref a,.ref pp,v,.ref pf] ∧ SqL K (wo pp H) a (ns.map V.int) ∧ ns.length ≤ 63 ∧ Dt (wo pp H) (dT t) v ∧ wo pp H pf = some (.lst (fr.map V.int)) ∧
 H pp = some (.lst [.int c,.int s,.int ag,.int md]) ∧ (∀ i ∈ fr,M.inN k i) ∧ (t.isL = true ∨ 2 ≤ fr.length) ∧ 1 ≤ fr.length ∧ fr.length ≤ 10 ∧ t.dp ≤ n ∧ t.lv.length ≤ 32 ∧ ag ≤ 2 ∧ c + ndd t * (1 + ag) ≤ 900000 ∧
 ∀ (p : Addr) (xs : List V) (row : List L2.Deed) (c' s' ag' : Nat) (H' : Hp),Same (wo pp H) (wo pp H') → H p = none → H' p = some (.lst xs) → Dts (wo pp H') (row.map dDeed) xs → H' pp = some (.lst [.int (c' : Nat),.int (s' : Nat),.int (ag' : Nat),.int md]) → ag' ≤ ag → c' ≤ c + ndd t * (1 + (ag - ag')) → s' ≤ s + nk t * (1 + (ag - ag')) →
  (∀ d ∈ row,d.ok k (s + nk t * (1 + (ag - ag')) : Nat) ∧ namedT t d) → row.length ≤ 6 * (ndd t * (1 + (ag - ag'))) → Q (.ref p) H'
set_option pp.deepTerms true in
theorem ok_waste (T : Txt K mg) : ∀ n : Nat,FnOk P w K mg base CX0 (n + 2) T.f__law_wasted T.d__law_wasted ["script","pot","tree","free"] (spWaste K n)
 | 0=>by
  refine T.F__law_wasted.ok (k:=1) sc__law_wasted (fun vs H Q E h=>?_) (fun cdv A outer s H vs Q E hr h=>?_)
  · obtain ⟨a,pp,pf,ns,t,v,fr,k,c,s,ag,md,rfl,_⟩:=h
    rfl
  · obtain ⟨a,pp,pf,ns,t,v,fr,k,c,s,ag,md,rfl,_,_,_,_,_,_,_,_,_,h,_⟩:=h
    have:=t.dp_pos
    omega
 | n + 1=>by
  refine T.F__law_wasted.ok (k:=n + 2) sc__law_wasted (fun vs H Q E h=>?_) (fun cdv A outer s H vs Q E hr h=>?_)
  · obtain ⟨a,pp,pf,ns,t,v,fr,k,c,s,ag,md,rfl,_⟩:=h
    rfl
  obtain ⟨a,pp,pf,ns,t,v,fr,k,c,sh,ag,md,rfl,hS,h63,ht,ef,ep,hfr,hfk,hf1,hf10,hdp,hlv,hag,hc,q⟩:=h
  have nd':=sc__law_wasted.nd
  have nd:=nd'
  have G__law_at:=(ok_at (P:=P) (w:=w) (base:=base) T).mono (k:=n + 2) (by (clear h63 ef ep hfk hf1 hf10 hdp hlv hag hc; lia))
  have G__law_wasted:=ok_waste T n
  refine ⟨_,(pss_cons (ps_asg (pe_op op_add (pe_ix ixF (pv 1) pe_int (fun _ _=>rfl)) pe_int) (pg_sub (pv 1) pe_int set_list))
  (pss_cons (ps_let (i:=4) nd rfl (Or.inl rfl) (pe_call G__law_at hr rfl T.m__law_at T.F__law_at.kp T.b__law_at .nil pass0 (pa_cons (pv 0) (pa_cons (pe_ix ixF (pv 1) pe_int (fun _ _=>rfl)) pa_nil))))
  (pss_cons (ps_if (pt_cmpR op_eq (pe_ix ixF (pv 2) pe_int (fun _ _=>rfl)) pe_str (nomark _)) (pss_one (ps_ret (pe_lst (pa_cons (pe_tup (pa_cons pe_str (pa_cons (pe_ix ixF (pv 2) pe_int (fun _ _=>rfl)) (pa_cons (pe_ix ixF (pv 3) pe_int (fun _ _=>rfl)) pa_nil)))) pa_nil)))) pss_nil)
  (pss_cons (ps_let (i:=5) nd rfl (Or.inl rfl) (pe_op op_add pe_int (pe_op op_mod (pv 4) pe_int)))
  (pss_cons (ps_let (i:=6) nd rfl (Or.inl rfl) (pe_call G__law_wasted hr rfl T.m__law_wasted T.F__law_wasted.kp T.b__law_wasted .nil pass0 (pa_cons (pv 0) (pa_cons (pv 1) (pa_cons (pe_ix ixF (pv 2) (pv 5) (fun _ _=>rfl)) (pa_cons (pv 3) pa_nil))))))
  (pss_cons (ps_if (PW.pt (pw_and (pt_cmpR op_eq (pe_op op_mod (pe_op op_fdiv (pv 4) pe_int) pe_int) pe_int (nomark _)) (pw_and1 (pt_cmpR op_gt (pe_ix ixF (pv 1) pe_int (fun _ _=>rfl)) pe_int (nomark _))))) (pss_cons (ps_asg (pe_op op_sub (pe_ix ixF (pv 1) pe_int (fun _ _=>rfl)) pe_int) (pg_sub (pv 1) pe_int set_list))
    (pss_one (ps_let (i:=6) nd rfl (Or.inl rfl) (pe_op op_cat (pv 6) (pe_call G__law_wasted hr rfl T.m__law_wasted T.F__law_wasted.kp T.b__law_wasted .nil pass0 (pa_cons (pv 0) (pa_cons (pv 1) (pa_cons (pe_ix ixF (pv 2) (pv 5) (fun _ _=>rfl)) (pa_cons (pv 3) pa_nil))))))))) pss_nil)
  (pss_cons (ps_let (i:=7) nd rfl (Or.inl rfl) (pe_or (pe_cmpR op_gt (pe_callB lenG rfl T.z_len bt_len (pa_cons (pv 3) pa_nil)) pe_int (nomark _)) (pe_one (pe_and (pe_cmpR op_gt (pe_callB lenG rfl T.z_len bt_len (pa_cons (pv 3) pa_nil)) pe_int (nomark _)) (pe_one (pe_cmpR op_eq (pe_ix ixF (pe_ix ixF (pv 2) (pe_op op_sub pe_int (pv 5)) (fun _ _=>rfl)) pe_int (fun _ _=>rfl)) pe_str (nomark _)))))))
  (pss_cons (ps_let (i:=8) nd rfl (Or.inl rfl) (pe_lst (pa_cons (pe_ix ixF (pv 3) pe_int (fun _ _=>rfl)) (pa_cons (pe_ix ixF (pv 3) pe_int (fun _ _=>rfl)) pa_nil))))
  (pss_cons (ps_if (PW.pt (pw_and (pt_val (pv 7)) (pw_and1 (pt_cmpR op_gt (pe_op op_mod (pe_op op_fdiv (pv 4) pe_int) pe_int) pe_int (nomark _))))) (pss_one (ps_let (i:=6) nd rfl (Or.inl rfl) (pe_op op_cat (pv 6) (pe_call G__law_wasted hr rfl T.m__law_wasted T.F__law_wasted.kp T.b__law_wasted .nil pass0 (pa_cons (pv 0) (pa_cons (pv 1) (pa_cons (pe_ix ixF (pv 2) (pe_op op_sub pe_int (pv 5)) (fun _ _=>rfl)) (pa_cons (pe_slice slLG (pv 3) (po_some pe_int) po_none) pa_nil)))))))) (pss_cons (ps_let (i:=9) nd rfl (Or.inl rfl) (pe_ix ixF (pv 1) pe_int (fun _ _=>rfl)))
    (pss_cons (ps_asg (pe_op op_add (pv 9) pe_int) (pg_sub (pv 1) pe_int set_list))
    (pss_cons (ps_let (i:=6) nd rfl (Or.inl rfl) (pe_op op_cat (pe_op op_cat (pv 6) (pe_lst (pa_cons (pe_tup (pa_cons pe_str (pa_cons (pe_ix ixF (pv 3) pe_int (fun _ _=>rfl)) (pa_cons (pv 9) pa_nil)))) pa_nil))) (pe_op op_rep (pe_lst (pa_cons (pe_tup (pa_cons pe_str (pa_cons (pv 9) (pa_cons (pe_ix ixF (pv 3) pe_int (fun _ _=>rfl)) pa_nil)))) pa_nil)) (pe_op op_fdiv (pe_op op_mod (pe_op op_fdiv (pv 4) pe_int) pe_int) pe_int))))
    (pss_cons (ps_let (i:=6) nd rfl (Or.inl rfl) (pe_op op_cat (pe_op op_cat (pv 6) (pe_call G__law_wasted hr rfl T.m__law_wasted T.F__law_wasted.kp T.b__law_wasted .nil pass0 (pa_cons (pv 0) (pa_cons (pv 1) (pa_cons (pe_ix ixF (pv 2) (pe_op op_sub pe_int (pv 5)) (fun _ _=>rfl)) (pa_cons (pv 3) pa_nil)))))) (pe_lst (pa_cons (pe_tup (pa_cons pe_str (pa_cons (pv 9) (pa_cons (pe_ix ixF (pv 3) pe_int (fun _ _=>rfl)) pa_nil)))) pa_nil))))
    (pss_cons (ps_let (i:=8) nd rfl (Or.inl rfl) (pe_lst (pa_cons (pe_ix ixF (pv 3) pe_int (fun _ _=>rfl)) (pa_cons (pe_ix ixF (pv 3) pe_int (fun _ _=>rfl)) pa_nil))))
    (pss_one (ps_if (pt_cmpR op_eq (pe_ix ixF (pv 1) pe_int (fun _ _=>rfl)) pe_int (nomark _)) (pss_one (ps_asg (pv 9) (pg_sub (pv 1) pe_int set_list))) pss_nil))))))))
  (pss_cons (ps_if (pt_cmpR op_eq (pv 5) pe_int (nomark _)) (pss_one (ps_let (i:=8) nd rfl (Or.inl rfl) (pe_lst (pa_cons (pe_ix ixF (pv 8) pe_int (fun _ _=>rfl)) (pa_cons (pe_ix ixF (pv 8) pe_int (fun _ _=>rfl)) pa_nil))))) pss_nil)
  (pss_one (ps_ret (pe_op op_cat (pv 6) (pe_lst (pa_cons (pe_tup (pa_cons pe_str (pa_cons (pe_ix ixF (pv 2) pe_int (fun _ _=>rfl)) (pa_cons (pe_ix ixF (pv 8) pe_int (fun _ _=>rfl)) (pa_cons (pe_ix ixF (pv 8) pe_int (fun _ _=>rfl)) (pa_cons (pe_ix ixF (pv 3) pe_int (fun _ _=>rfl)) pa_nil)))))) pa_nil))))))))))))))),?_⟩
  refine cut3 fun B hB=>?_
  have lp:=t.lv_pos
  walk_at "rd"
  refine ⟨_,items_l ep,_,atI_0,_,rfl,_,ep,0,rfl,PutO.mk fun H3 k3 e3=>?_⟩
  have e3 : H3 pp = some (.lst [.int ((c + 1 : Nat) : Int),.int sh,.int ag,.int md]):=e3
  have W3 : Same (wo pp H) (wo pp H3):=wo_put k3
  have W3' : Same (wo pp H) H3:=W3.trans wo_in
  have old : ∀ {p : Addr},H3 p = none → H p = none:=fun {p} z=>by
   have hp : p ≠ pp:=fun y=>by rw [y,e3] at z; cases z
   rw [← k3 p hp]; exact z
  refine ⟨_,items_l e3,_,atI_0,a,ns,_,rfl,W3'.seq hS,h63,by (clear h63 ef ep hfk hf1 hf10 hdp hlv hag hc hB lp e3; lia),by (clear h63 ef ep hfk hf1 hf10 hdp lp e3 hlv hag hB; omega),?_⟩
  generalize lawAt ns ((c + 1 : Nat) : Int).toNat = cell
  have ef3:=W3' _ _ ef
  obtain ⟨f0,fr',rfl⟩ : ∃ f0 fr',fr = f0 :: fr':=by
   cases fr with
   | nil=>simp at hf1
   | cons f0 fr'=>exact ⟨f0,fr',rfl⟩
  have hf0:=hfr f0 (by simp)
  cases t with
  | leaf x =>
   obtain ⟨b,rfl,eb⟩:=dT_leaf ht
   have eb3:=W3' _ _ eb
   refine ⟨b,rfl,_,items_t eb3,_,atI_0,rfl,wT ⟨b,rfl,_,items_t eb3,_,atI_1,_,items_l ef3,_,atI_0,by decide,NewO.mk fun p1 H4 S4 n4 e4=>⟨by decide,NewO.mk fun p2 H5 S5 n5 e5=>?_⟩⟩⟩
   have e35:=S5 _ _ (S4 _ _ e3)
   have e45:=S5 _ _ e4
   refine q p2 [.ref p1] [.take x f0] (c + 1) sh ag H5 (W3.trans (wo_same (S4.trans S5))) (old (S4.free n5)) e5 (.one (deed_mk (d:=.take x f0) (by rw [wo_of (ne_of e45 e35 (by intro y; cases y))]; exact e45))) e35 (Nat.le_refl _) (by simp [ndd,M.Tr.lv]) (by (clear h63 ep hag hB e3 ef hf1 hf10 ef3 hdp hlv hc lp hfk eb eb3 n4 e4 n5 e5 e35 e45; lia)) (fun d hd=>?_) (by simp [ndd,M.Tr.lv])
   rw [List.mem_singleton.mp hd]
   refine ⟨⟨fun i hi=>?_,fun i hi=>by simp [M.Deed.sn] at hi⟩,by simp [namedT,M.Tr.lv]⟩
   simp only [M.Deed.bn,List.mem_singleton] at hi
   rw [hi]; exact hf0
  | knot f l r =>
  obtain ⟨b,vl,vr,rfl,eb,hl',hr'⟩:=dT_knot ht
  have eb3:=W3' _ _ eb
  have e1 : (Str.ofString "knot" == Str.ofString "leaf") = false:=by decide +kernel
  refine ⟨b,rfl,_,items_t eb3,_,atI_0,rfl,wF e1 ?_⟩
  have hf2 : 2 ≤ (f0 :: fr').length:=by rcases hfk with z | z; cases z; exact z
  obtain ⟨f1,fr2,rfl⟩ : ∃ f1 fr2,fr' = f1 :: fr2:=by
   cases fr' with
   | nil=>simp at hf2
   | cons f1 fr2=>exact ⟨f1,fr2,rfl⟩
  have hf1':=hfr f1 (by simp)
  simp only [M.Tr.dp] at hdp
  have lvk : (M.Tr.knot f l r).lv.length = l.lv.length + r.lv.length:=by simp [M.Tr.lv]
  have ll:=l.lv_pos
  have lr:=r.lv_pos
  rw [hB]
  refine cut1 fun B1 hB1=>?_
  have rest1 : ∀ (fi : Int) (x y : L2.Tree) (vx vy : V),atI [V.str (Str.ofString "knot"),V.str f,vl,vr] fi = some vx → atI [V.str (Str.ofString "knot"),V.str f,vl,vr] (5 - fi) = some vy → Dt (wo pp H) (dT x) vx → Dt (wo pp H) (dT y) vy → (fi = 2 ∨ fi = 3) → x.dp ≤ n → y.dp ≤ n → x.lv.length + y.lv.length = (M.Tr.knot f l r).lv.length → 1 ≤ x.lv.length → 1 ≤ y.lv.length → (∀ z,z ∈ x.lv ∨ z ∈ y.lv → z ∈ (M.Tr.knot f l r).lv) → (∀ z,z ∈ x.kn ∨ z ∈ y.kn → z ∈ (M.Tr.knot f l r).kn) →
   B1 { nx:=fun x H'=>Q V.non H',rt:=Q } [some (.ref a),some (.ref pp),some (.ref b),some (.ref pf),some (.int cell),some (.int fi),none,none,none,none] H3:=by
   intro fi x y vx vy hvx hvy dx dy hfi hx hy hxy px py hlvs hkns
   rw [hB1]
   have ndk : ndd (M.Tr.knot f l r) = ndd x + ndd y + 1:=by unfold ndd; (clear h63 ep hag hB e3 hdp hlv hc lp eb eb3 e1 ef hf1 hf10 ef3 hfk hf2 lvk ll lr hB1 hvx hvy hfi hx hy; lia)
   have nkk : nk (M.Tr.knot f l r) = nk x + nk y + 1:=by unfold nk; (clear h63 ep hag hB e3 hdp hlv hc lp eb eb3 e1 ef hf1 hf10 ef3 hfk hf2 lvk ll lr hB1 hvx hvy hfi hx ndk hy; lia)
   rw [ndk] at hc
   refine cut2 fun B2 hB2=>?_
   have rest2 : ∀ (p : Addr) (xs : List V) (row : List L2.Deed) (c1 s1 ag1 : Nat) (H4 : Hp),Same (wo pp H) (wo pp H4) → (∀ p,H4 p = none → H p = none) → wo pp H4 p = some (.lst xs) → Dts (wo pp H4) (row.map dDeed) xs → H4 pp = some (.lst [.int c1,.int s1,.int ag1,.int md]) → ag1 ≤ ag → c1 ≤ c + 1 + ndd x * (1 + (ag - ag1)) → s1 ≤ sh + nk x * (1 + (ag - ag1)) →
    (∀ d ∈ row,d.ok k (sh + nk x * (1 + (ag - ag1)) : Nat) ∧ namedT x d) → row.length ≤ 6 * (ndd x * (1 + (ag - ag1))) →
    B2 { nx:=fun x H'=>Q V.non H',rt:=Q } [some (.ref a),some (.ref pp),some (.ref b),some (.ref pf),some (.int cell),some (.int fi),some (.ref p),none,none,none] H4:=by
    intro p xs row c1 s1 ag1 H4 W4 old4 ep4 dp4 epp4 hag1 hc1 hs1 hrow hlen
    rw [hB2]
    refine cut1 fun B3 hB3=>?_
    have W4' : Same (wo pp H) H4:=W4.trans wo_in
    have ef4:=W4' _ _ ef
    have rest3 : ∀ rm : Bool,(rm = true → y.isL = true ∨ 2 ≤ (f1 :: fr2).length) → B3 { nx:=fun x H'=>Q V.non H',rt:=Q } [some (.ref a),some (.ref pp),some (.ref b),some (.ref pf),some (.int cell),some (.int fi),some (.ref p),some (.bl rm),none,none] H4:=by
     intro rm hrm
     rw [hB3]
     refine cut2 fun B4 hB4=>?_
     have rest4 : ∀ (p2 pe : Addr) (xs2 : List V) (row2 : List L2.Deed) (i j : Int) (c2 s2 ag2 : Nat) (H5 : Hp) (o9 : Option V),Same (wo pp H) (wo pp H5) → wo pp H5 p2 = some (.lst xs2) → Dts (wo pp H5) (row2.map dDeed) xs2 → H5 pp = some (.lst [.int c2,.int s2,.int ag2,.int md]) → H5 pe = some (.lst [.int i,.int j]) → M.inN k i → M.inN k j → ag2 ≤ ag → c2 ≤ c + ndd (M.Tr.knot f l r) * (1 + (ag - ag2)) → s2 ≤ sh + nk (M.Tr.knot f l r) * (1 + (ag - ag2)) →
      (∀ d ∈ row2,d.ok k (sh + nk (M.Tr.knot f l r) * (1 + (ag - ag2)) : Nat) ∧ namedT (M.Tr.knot f l r) d) → row2.length + 1 ≤ 6 * (ndd (M.Tr.knot f l r) * (1 + (ag - ag2))) →
      B4 { nx:=fun x H'=>Q V.non H',rt:=Q } [some (.ref a),some (.ref pp),some (.ref b),some (.ref pf),some (.int cell),some (.int fi),some (.ref p2),some (.bl rm),some (.ref pe),o9] H5:=by
      intro p2 pe xs2 row2 i j c2 s2 ag2 H5 o9 W5 e2 D2 epp5 epe hi hj hag2 hc2 hs2 hrow2 hlen2
      have l2 : xs2.length = row2.length:=by have:=D2.length; rw [List.length_map] at this; exact this
      have W5' : Same (wo pp H) H5:=W5.trans wo_in
      have sm:=sm_mul (show ndd (M.Tr.knot f l r) ≤ 63 by unfold ndd; (clear hy hxy px py ndk nkk hB2 ep4 epp4 hag1 hc1 hs1 hlen hB3 ef4 hrm hB4 e2 epp5 epe hag2 hc2 hs2 hlen2 l2 hf10 ef3 hfk hf2 lvk ll lr hB1 hc hvx hvy hfi hx lp eb eb3 e1 ef hf1 h63 ep hag hB e3 hdp; omega)) (show 1 + (ag - ag2) ≤ 3 by (clear hy hxy px py ndk nkk hB2 ep4 epp4 hag1 hc1 hs1 hlen hB3 ef4 hrm hB4 e2 epp5 epe hag2 hc2 hs2 hlen2 l2 hf10 ef3 hfk hf2 lvk ll lr hB1 hc hvx hvy hfi hx lp eb eb3 e1 ef hf1 e3 hdp hlv h63 ep hB; lia))
      rw [hB4]
      have last : ∀ (pe' : Addr) (i j : Int) (H6 : Hp),Same H5 H6 → H6 pe' = some (.lst [.int i,.int j]) → M.inN k i → M.inN k j →
       ∃ x,itemsOf (H6 b) = some x ∧ ∃ x_1,atI x 1 = some x_1 ∧ ∃ x,itemsOf (H6 pe') = some x ∧ ∃ x_2,atI x 0 = some x_2 ∧ ∃ x,itemsOf (H6 pe') = some x ∧ ∃ x_3,atI x 1 = some x_3 ∧ ∃ x,itemsOf (H6 pf) = some x ∧ ∃ x_4,atI x 0 = some x_4 ∧ 5 ≤ sizeLine ∧ NewO H6 (HO.tup [V.str (Str.ofString "join"),x_1,x_2,x_3,x_4]) fun x H1=>1 ≤ sizeLine ∧ NewO H1 (HO.lst [x]) fun y H2=>∃ x,y = V.ref x ∧ ∃ x_5,H2 p2 = some (HO.lst x_5) ∧ ∃ x_6,H2 x = some (HO.lst x_6) ∧ x_5.length + x_6.length ≤ sizeLine ∧ NewO H2 (HO.lst (x_5 ++ x_6)) Q:=by
       intro pe' i j H6 S6 epe6 hi hj
       refine ⟨_,items_t (S6 _ _ (W5' _ _ eb)),_,atI_1,_,items_l epe6,_,atI_0,_,items_l epe6,_,atI_1,_,items_l (S6 _ _ (W5' _ _ ef)),_,atI_0,by decide,NewO.mk fun p7 H7 S7 n7 e7=>⟨by decide,NewO.mk fun p8 H8 S8 n8 e8=>⟨p8,rfl,_,S8 _ _ (S7 _ _ (S6 _ _ (wo_in _ _ e2))),_,e8,small_le (by simp; (clear h63 ep hag hB e3 hdp hlv lp eb eb3 e1 ef hf1 hf10 ef3 hfk hf2 lvk ll lr hB1 hc hvx hvy hfi hx hy hxy px py ndk nkk hB2 ep4 epp4 hag1 hc1 hs1 hlen hB3 ef4 hrm hB4 e2 epe6 n7 e7 n8 e8 epp5 epe hag2 hc2 hs2; lia)),NewO.mk fun p9 H9 S9 n9 e9=>?_⟩⟩⟩
       have S59:=((S6.trans S7).trans S8).trans S9
       have epp9:=S59 _ _ epp5
       have W59 : Same (wo pp H) (wo pp H9):=W5.trans (wo_same S59)
       have e79:=S9 _ _ (S8 _ _ e7)
       refine q p9 _ (row2 ++ [.join f i j f0]) c2 s2 ag2 H9 W59 (wo_free (W5.trans (wo_same ((S6.trans S7).trans S8))) (((S6.trans S7).trans S8) _ _ epp5) n9) e9 ?_ epp9 hag2 hc2 hs2 (fun d hd=>?_) (by rw [List.length_append]; exact hlen2)
       · rw [List.map_append]
         exact (D2.same (wo_same S59)).append (.one (deed_mk (d:=.join f i j f0) (by rw [wo_of (ne_of e79 epp9 (by intro y; cases y))]; exact e79)))
       · rcases List.mem_append.mp hd with hd | hd
         · exact hrow2 d hd
         · rw [List.mem_singleton.mp hd]
           refine ⟨⟨fun z hz=>?_,fun z hz=>by simp [M.Deed.sn] at hz⟩,by simp [namedT,M.Tr.kn]⟩
           simp only [M.Deed.bn,List.mem_cons,List.not_mem_nil,or_false] at hz
           rcases hz with rfl | rfl | rfl
           · exact hi
           · exact hj
           · exact hf0
      walk_at "rd"
      refine ite2 (fun g=>?_) (fun g=>last pe i j H5 (Same.refl _) epe hi hj)
      exact ⟨_,items_l epe,_,atI_1,_,items_l epe,_,atI_0,by decide,NewO.mk fun p6 H6 S6 n6 e6=>by
       walk_at "rd"
       exact last p6 j i H6 S6 e6 hj hi⟩
     rw [a_tSeq]
     simp only [a_iRev,a_tListRev,a_rRemD,a_tFor,a_tSet,a_tSetC,a_tVar,a_tC,a_tIsN,a_tNotN,a_tB,a_tAnd,a_tOr,a_tNot,a_tAndV,a_tOrV,a_tNotV,a_tIf,a_tNext,a_tDrop,a_tRet,a_tIfS,a_tNever,a_gName,a_gNil,a_gCons,a_gTup,a_gSub,a_tAsg,a_tPar,a_iRng1,a_iRng2,a_tOp,a_tUn,a_rI,a_rI0,a_rU,a_rEq,a_rNe,a_tTest,a_tChain,a_tNil,a_tCons,b_tTup,b_tLst,a_tCall,a_tCB,a_tNoPart,a_tPart,a_tSl,b_rSlT,a_rIxL,a_rIxS,b_rSetL,a_tBM,b_rAppend,b_rExtend,b_rCat,b_rRep,a_tYes,a_tComp,a_rJoin,a_rEqD,a_rNeD,a_rInD,a_rIsi,a_tChain3,a_rCatD,a_rIxF,a_rSlLF,a_rLenF,a_rIntB,ty_str,tJs,a_tFmtI,a_tRaise,a_tTry,a_tCallJ,a_rMaxS,a_rMinS,a_rListF,a_rSlU,a_iEnum,a_iL,a_iT,L2.start,blkSt,cxOf_K,blk_K,List.getElem?_cons_zero,List.getElem?_cons_succ,Option.some.injEq,Option.join_some,exists_eq_left',exists_eq_left,exists_eq_right,V.int.injEq,V.ref.injEq,V.str.injEq,V.bl.injEq,V.ty.injEq,and_true,true_and,List.set_cons_zero,List.set_cons_succ,List.cons.injEq,List.cons_append,List.nil_append,List.append_nil,List.map_cons,List.map_nil,List.length_cons,List.length_nil,List.replicate,exists_and_left,exists_and_right,Nat.reduceAdd,Nat.reduceSub,atI_0,atI_1,atI_2,atI_3,atI_4,if_true,if_false,Bool.false_eq_true,scal_ii,scal_ss,scal_bb]
     have exp : (ndd x + ndd y + 1) * (1 + ag) = ndd x * (1 + ag) + ndd y * (1 + ag) + (1 + ag):=by rw [Nat.add_mul,Nat.add_mul,Nat.one_mul]
     have mx : ndd x * (1 + (ag - ag1)) ≤ ndd x * (1 + ag):=Nat.mul_le_mul_left _ (by (clear h63 ep hag hB e3 hdp hlv lp eb eb3 e1 ef hf1 hf10 ef3 hfk hf2 lvk ll lr hB1 hc hvx hvy hfi hx hy hxy px py ndk nkk hB2 ep4 epp4 hag1 hc1 hs1 hlen hB3 ef4 hrm hB4 exp; omega))
     have my : ndd y * (1 + ag1) ≤ ndd y * (1 + ag):=Nat.mul_le_mul_left _ (by (clear h63 ep hag hB e3 hdp hlv lp eb eb3 e1 ef hf1 hf10 ef3 hfk hf2 lvk ll lr hB1 hc hvx hvy hfi hx hy hxy px py ndk nkk hB2 ep4 epp4 hrm hB4 exp mx hlen hB3 ef4 hs1 hc1; lia))
     have l1 : xs.length = row.length:=by have:=dp4.length; rw [List.length_map] at this; exact this
     have hpp:=wo_ne ep4
     refine ⟨_,items_l ef4,_,atI_0,_,items_l ef4,_,atI_1,by decide,NewO.mk fun pe H5 S5 n5 e5=>?_⟩
     rw [a_tSeq]
     simp only [a_iRev,a_tListRev,a_rRemD,a_tFor,a_tSet,a_tSetC,a_tVar,a_tC,a_tIsN,a_tNotN,a_tB,a_tAnd,a_tOr,a_tNot,a_tAndV,a_tOrV,a_tNotV,a_tIf,a_tNext,a_tDrop,a_tRet,a_tIfS,a_tNever,a_gName,a_gNil,a_gCons,a_gTup,a_gSub,a_tAsg,a_tPar,a_iRng1,a_iRng2,a_tOp,a_tUn,a_rI,a_rI0,a_rU,a_rEq,a_rNe,a_tTest,a_tChain,a_tNil,a_tCons,b_tTup,b_tLst,a_tCall,a_tCB,a_tNoPart,a_tPart,a_tSl,b_rSlT,a_rIxL,a_rIxS,b_rSetL,a_tBM,b_rAppend,b_rExtend,b_rCat,b_rRep,a_tYes,a_tComp,a_rJoin,a_rEqD,a_rNeD,a_rInD,a_rIsi,a_tChain3,a_rCatD,a_rIxF,a_rSlLF,a_rLenF,a_rIntB,ty_str,tJs,a_tFmtI,a_tRaise,a_tTry,a_tCallJ,a_rMaxS,a_rMinS,a_rListF,a_rSlU,a_iEnum,a_iL,a_iT,L2.start,blkSt,cxOf_K,blk_K,List.getElem?_cons_zero,List.getElem?_cons_succ,Option.some.injEq,Option.join_some,exists_eq_left',exists_eq_left,exists_eq_right,V.int.injEq,V.ref.injEq,V.str.injEq,V.bl.injEq,V.ty.injEq,and_true,true_and,List.set_cons_zero,List.set_cons_succ,List.cons.injEq,List.cons_append,List.nil_append,List.append_nil,List.map_cons,List.map_nil,List.length_cons,List.length_nil,List.replicate,exists_and_left,exists_and_right,Nat.reduceAdd,Nat.reduceSub,atI_0,atI_1,atI_2,atI_3,atI_4,if_true,if_false,Bool.false_eq_true,scal_ii,scal_ss,scal_bb]
     refine ifand ⟨by decide,by decide⟩ (by decide) (fun g g2=>?rm) ?b1
     case rm =>
      refine ⟨_,items_t (S5 _ _ (W4' _ _ eb)),vy,hvy,_,S5 _ _ ef4,NewO.mk fun pt H6 S6 n6 e6=>?_⟩
      have e6 : H6 pt = some (.lst ((f1 :: fr2).map V.int)):=by rw [e6]; congr 2; exact cut_tail _ _ _
      have W46 : Same (wo pp H4) (wo pp H6):=wo_same (S5.trans S6)
      have W6:=W4.trans W46
      have epp6:=S6 _ _ (S5 _ _ epp4)
      have hpt : pt ≠ pp:=fun y=>by rw [y,S5 _ _ epp4] at n6; cases n6
      have hrm':=hrm g
      have hf10' : (f1 :: fr2).length ≤ 10:=by simp at hf10 ⊢; (clear h63 ep hag hB e3 hdp hlv lp eb eb3 e1 ef hf1 ef3 hfk hf2 lvk ll lr hB1 hc hvx hvy hfi hx hy hxy px py ndk nkk hB2 ep4 epp4 hag1 hc1 hs1 hlen hB3 ef4 hrm hB4 exp mx my l1 hpp n5 e5 g g2 n6 e6 epp6 hpt hrm'; lia)
      refine ⟨a,pp,pt,ns,y,vy,f1 :: fr2,k,c1,s1,ag1,md,rfl,W6.seq hS,h63,dy.same W6,by rw [wo_of hpt]; exact e6,epp6,fun i hi=>hfr i (List.mem_cons_of_mem _ hi),hrm',by simp,hf10',hy,by (clear py ndk nkk hB2 ep4 epp4 hag1 hc1 hs1 hlen hB3 ef4 hrm hB4 exp mx my l1 hpp n5 e5 g g2 n6 e6 epp6 hpt hrm' hf10' eb eb3 e1 ef hf1 hf10 ef3 hfk hf2 lvk ll lr hB1 hc hvx hvy h63 ep hag hB px e3 hdp hfi hx lp hy; lia),by (clear hfk hf2 lvk ll lr hB1 hc hvx hvy hfi hx hy hxy px py my l1 hpp n5 e5 g g2 n6 e6 epp6 hpt hrm' hf10' eb eb3 e1 ef hf1 hf10 ef3 ndk hB3 ef4 hrm hB4 exp mx e3 hdp hlv lp nkk hB2 ep4 epp4 h63 ep hs1 hlen hB hc1; lia),by (clear h63 ep hag hB e3 hdp hlv lp eb eb3 e1 ef hf1 hf10 ef3 hvy hfi hx hy hxy px py ndk hpp n5 e5 g g2 n6 e6 epp6 hpt hrm' hf10' hfk hf2 lvk ll nkk hB2 ep4 epp4 hB3 ef4 hrm hB4 lr hB1 hs1 hlen hvx hag1 l1; lia),fun p2 xs2 row2 c2 s2 ag2 H7 W7 n7 e7 D7 epp7 hag2 hc2 hs2 hrow2 hlen2=>?_⟩
      have l2 : xs2.length = row2.length:=by have:=D7.length; rw [List.length_map] at this; exact this
      have W47:=W46.trans W7
      have su1:=sum_mul (ndd x) (ndd y) 1 (ag - ag1) (ag1 - ag2)
      have su2:=sum_mul (nk x) (nk y) 1 (ag - ag1) (ag1 - ag2)
      rw [show ag - ag1 + (ag1 - ag2) = ag - ag2 by (clear h63 ep hag hB e3 hdp hlv lp eb eb3 e1 ef hf1 hf10 ef3 hfk hf2 lvk ll lr hB1 hc hvx hvy hfi hx hy hxy px py ndk nkk hB2 ep4 exp mx my l1 hpp n5 e5 g g2 n6 e6 epp6 hpt hrm' hf10' n7 e7 epp7 hc2 hs2 hlen2 l2 su1 su2 hs1 hlen hB3 ef4 hrm hB4 hc1; lia)] at su1 su2
      rw [← ndk] at su1
      rw [← nkk] at su2
      have sm:=sm_mul (show ndd (M.Tr.knot f l r) ≤ 63 by unfold ndd; (clear epp4 hag1 hc1 hs1 hlen hB3 ef4 hrm hB4 exp mx my l1 hpp n5 e5 g g2 n6 e6 epp6 hpt hrm' hf10' n7 e7 epp7 hag2 hc2 hs2 hlen2 l2 su1 su2 lvk ll lr hB1 hc hvx hvy hfi hx hy hxy px py ndk nkk hB2 ep4 eb3 e1 ef hf1 hf10 ef3 hfk hf2 h63 ep hag hB e3 eb lp hdp; omega)) (show 1 + (ag - ag2) ≤ 3 by (clear epp4 hag1 hc1 hs1 hlen hB3 ef4 hrm hB4 exp mx my l1 hpp n5 e5 g g2 n6 e6 epp6 hpt hrm' hf10' n7 e7 epp7 hag2 hc2 hs2 hlen2 l2 su1 su2 lvk ll lr hB1 hc hvx hvy hfi hx hy hxy px py ndk nkk hB2 ep4 eb3 e1 ef hf1 hf10 ef3 hfk hf2 hdp hlv lp eb hB e3 h63 ep; lia))
      refine ⟨p2,rfl,_,(W47.trans wo_in) _ _ ep4,_,e7,small_le (by (clear h63 ep hag hB e3 hdp hlv lp eb eb3 e1 ef hf1 hf10 ef3 hfk hf2 lvk ll lr hB1 hc hvx hvy hfi hx hy hxy px py ndk nkk hB2 ep4 epp4 e6 epp6 hpt hrm' hf10' n7 e7 epp7 hag2 ef4 hrm hB4 exp mx g g2 n6 hc2 hs2 hag1 hc1 hs1 hpp n5 hB3 my e5 su2; lia)),NewO.mk fun p3 H8 S8 n8 e8=>?_⟩
      have hp3 : p3 ≠ pp:=fun y=>by rw [y,epp7] at n8; cases n8
      have W48:=W47.trans (wo_same S8)
      have hpe : H8 pe = some (.lst [.int f0,.int f1]):=by
       have hpe' : pe ≠ pp:=fun y=>by rw [y,epp4] at n5; cases n5
       have : wo pp H8 pe = some (.lst [.int f0,.int f1]):=((wo_same S6).trans (W7.trans (wo_same S8))) _ _ (by rw [wo_of hpe']; exact e5)
       rw [wo_of hpe'] at this; exact this
      refine rest4 p3 pe _ (row ++ row2) f0 f1 c2 s2 ag2 H8 none (W4.trans W48) (by rw [wo_of hp3]; exact e8) ?_ (S8 _ _ epp7) hpe hf0 hf1' (by (clear h63 ep hag hB e3 hdp hlv lp eb eb3 e1 ef hf1 hf10 ef3 hfk hf2 lvk ll hlen hB3 ef4 hrm hB4 exp mx my l1 hpp n5 e5 g g2 n6 e6 epp6 hpt hrm' lr hB1 hc hvx hvy hfi hx hy hxy px sm n8 e8 hp3 hpe py ndk nkk hB2 ep4 hs2 hlen2 l2 su1 su2 hs1 hf10' n7 hc2 hc1 e7 epp4 epp7; lia)) (by (clear h63 ep hag hB e3 hdp hlv lp eb eb3 e1 ef hf1 hf10 ef3 hfk hf2 lvk ll hlen hB3 ef4 hrm hB4 exp mx my l1 hpp n5 e5 g g2 n6 e6 epp6 hpt hrm' lr hB1 hc hvx hvy hfi hx hy hxy px sm n8 e8 hp3 hpe py ndk nkk hB2 ep4 hs1 hf10' n7 e7 epp7 hag2 epp4 hag1 hs2 hlen2 su2 l2; omega)) (by (clear h63 ep hag hB e3 hdp hlv lp eb eb3 e1 ef hf1 hf10 ef3 hfk hf2 lvk ll lr hB1 hc hvx hvy hfi hx hy hxy px py ndk nkk hB2 ep4 epp4 hag1 hc1 hpp n5 e5 g g2 n6 e6 epp6 hpt hrm' hB4 exp mx my l1 hf10' n7 e7 epp7 hag2 hpe ef4 hrm hc2 n8 e8 hp3 hlen2 l2 sm hlen hB3 su1; omega)) (fun d hd=>?_) (by rw [List.length_append]; (clear h63 ep hag hB e3 hdp hlv lp eb eb3 e1 ef hf1 hf10 ef3 hfk hf2 lvk ll lr hB1 hc hvx hvy hfi hx hy hxy px py ndk nkk hB2 ep4 epp4 hag1 hc1 hpp n5 e5 g g2 n6 e6 epp6 hpt hrm' su2 sm n8 e8 hp3 hpe hB4 exp mx my l1 hf10' n7 e7 epp7 hag2 ef4 hrm hc2 hB3 hs2 hs1 l2; omega))
      · rw [List.map_append]
        exact (dp4.same W48).append (D7.same (wo_same S8))
      · rcases List.mem_append.mp hd with hd | hd
        · exact ⟨ok_mono (hrow d hd).1 (by (clear h63 ep hag hB e3 hdp hlv lp eb eb3 e1 ef hf1 hf10 ef3 hfk hf2 lvk ll lr hB1 hc hvx hvy hfi hx hy hxy px py ndk nkk hB2 ep4 epp4 hag1 hc1 hs1 hlen hB3 ef4 hrm hB4 exp mx my l1 hpp n5 e5 g g2 n6 e6 epp6 hpt hrm' hf10' n7 e7 epp7 hag2 hc2 hs2 hlen2 l2 hp3 hpe n8 e8 sm su1; omega)),namedL (hrow d hd).2 (fun z hz=>hlvs z (.inl hz)) (fun z hz=>hkns z (.inl hz))⟩
        · exact ⟨ok_mono (hrow2 d hd).1 (by (clear h63 ep hag hB e3 hdp hlv lp eb eb3 e1 ef hf1 hf10 ef3 hfk hf2 lvk ll lr hB1 hc hvx hvy hfi hx hy hxy px py ndk nkk hB2 ep4 epp4 hag1 hc1 hpp n5 e5 g g2 n6 e6 epp6 hpt hrm' hf10' n7 e7 epp7 hag2 hc2 hs2 hlen2 l2 su1 hB4 exp mx my l1 hpe sm n8 e8 hp3 hB3 ef4 hlen hrm; omega)),namedL (hrow2 d hd).2 (fun z hz=>hlvs z (.inr hz)) (fun z hz=>hkns z (.inr hz))⟩
     case b1 =>
      refine cutC3 fun C hC=>?_
      walk_at "rd"
      refine ⟨_,items_l (S5 _ _ epp4),_,atI_1,_,rfl,_,S5 _ _ epp4,1,rfl,PutO.mk fun H6 k6 e6=>?_⟩
      have e6 : H6 pp = some (.lst [.int c1,.int ((s1 + 1 : Nat) : Int),.int ag1,.int md]):=e6
      have W46 : Same (wo pp H4) (wo pp H6):=(wo_same S5).trans (wo_put k6)
      have W46' : Same (wo pp H4) H6:=W46.trans wo_in
      have W6' : Same (wo pp H) H6:=W4.trans W46'
      refine ⟨_,items_l (W6' _ _ ef),_,atI_0,by decide,NewO.mk fun q1 J1 R1 m1 g1=>⟨by decide,NewO.mk fun q2 J2 R2 m2 g2'=>?_⟩⟩
      have R62 : Same H6 J2:=R1.trans R2
      have smx:=sm_mul (show ndd x ≤ 63 by unfold ndd; (clear px py ndk nkk hB2 ep4 epp4 hag1 hc1 hs1 hlen hB3 ef4 hrm hB4 exp mx my l1 hpp n5 e5 hC e6 m1 g1 m2 g2' lp eb eb3 e1 ef hf1 hf10 ef3 hfk hf2 lvk ll lr hB1 h63 ep hag hB hvx hvy hfi hx e3 hdp hc hy; lia)) (show 1 + (ag - ag1) ≤ 3 by (clear px py ndk nkk hB2 ep4 epp4 hag1 hc1 hs1 hlen hB3 ef4 hrm hB4 exp mx my l1 hpp n5 e5 hC e6 m1 g1 m2 g2' ef3 hfk hf2 lvk ll lr hB1 hc hvx hvy hfi hx hy hxy lp eb eb3 e1 ef hf1 hf10 e3 hdp hlv h63 ep hB; lia))
      refine ⟨q2,rfl,_,R62 _ _ (W46' _ _ ep4),_,g2',small_le (by simp; (clear h63 ep hag hB e3 hdp hlv lp eb eb3 e1 ef hf1 hf10 ef3 hfk hf2 lvk ll lr hB1 hc hvx hvy hfi hx hy hxy px py ndk nkk hB2 ep4 epp4 hag1 hc1 hrm hB4 exp mx e5 hC e6 m1 hB3 ef4 hpp n5 g1 m2 hs1 my g2'; lia)),NewO.mk fun q3 J3 R3 m3 g3=>?_⟩
      have R63:=R62.trans R3
      refine ⟨_,items_l (R63 _ _ (W6' _ _ ef)),_,atI_1,by decide,NewO.mk fun q4 J4 R4 m4 g4=>⟨by decide,NewO.mk fun q5 J5 R5 m5 g5=>?_⟩⟩
      have hE : (cell / 30 % 3 / 2).toNat ≤ 1:=by (clear h63 ep hag hB e3 hdp hlv lp eb eb3 e1 ef hf1 hf10 ef3 hfk hf2 lvk ll lr hB1 hc hvx hvy hfi hx hy hxy px py ndk nkk hB2 ep4 epp4 hag1 hc1 hs1 hlen hB3 ef4 hrm hB4 exp mx my l1 hpp n5 e5 hC e6 m1 g1 m2 g2' smx m3 g3 m4 g4 m5 g5; lia)
      refine ⟨⟨by decide,by decide⟩,by decide,⟨by decide,by decide⟩,q5,rfl,_,g5,by (clear h63 ep hag hB e3 hdp hlv lp eb eb3 e1 ef hf1 hf10 ef3 hfk hf2 lvk ll lr hB1 hc hvx hvy hfi hx hy hxy px py ndk nkk hB2 ep4 epp4 hag1 hc1 hs1 hlen hB3 ef4 hrm hB4 exp mx my l1 hpp n5 e5 hC e6 m1 g1 m2 g2' smx m3 g3 m4 g4 m5 g5 hE; lia),by (clear h63 ep hag hB e3 hdp hlv lp eb eb3 e1 ef hf1 hf10 ef3 hfk hf2 lvk ll lr hB1 hc hvx hvy hfi hx hy hxy px py ndk nkk hB2 ep4 epp4 hag1 hc1 hs1 hlen hB3 ef4 hrm hB4 exp mx my l1 hpp n5 e5 hC e6 m1 g1 m2 g2' smx m3 g3 m4 g4 m5 g5 hE; lia),small_le (by simp; (clear h63 ep hag hB e3 hdp hlv lp eb eb3 e1 ef hf1 hf10 ef3 hfk hf2 lvk ll lr hB1 hc hvx hvy hfi hx hy hxy px py ndk nkk hB2 ep4 epp4 hag1 hc1 hs1 hlen hB3 ef4 hrm hB4 exp mx my l1 hpp n5 e5 hC e6 m1 g1 m2 g2' smx m3 g3 m4 g4 m5 g5 hE; lia)),NewO.mk fun q6 J6 R6 m6 g6=>?_⟩
      rw [rep_flat] at g6
      generalize (cell / 30 % 3 / 2).toNat = ee at hE g6
      have R36:=(R4.trans R5).trans R6
      refine ⟨q3,rfl,q6,rfl,_,R36 _ _ g3,_,g6,small_le (by simp; (clear h63 ep hag hB e3 hdp hlv lp eb eb3 e1 ef hf1 hf10 ef3 hfk hf2 lvk ll lr hB1 hc hvx hvy hfi hx hy hxy px py ndk nkk hB2 ep4 epp4 hag1 hc1 hs1 n5 e5 hC e6 m1 g3 m4 g4 m5 g5 hrm hB4 exp hpp g1 m2 ef4 mx m3 m6 hB3 my g2' g6; lia)),NewO.mk fun q7 J7 R7 m7 g7=>?_⟩
      have R67:=R63.trans (R36.trans R7)
      have epp7:=R67 _ _ e6
      have W47 : Same (wo pp H4) (wo pp J7):=W46.trans (wo_same R67)
      have W7:=W4.trans W47
      have W7' : Same (wo pp H) J7:=W7.trans wo_in
      have tw1 : wo pp J7 q1 = some (.tup (vDeed (.put f0 s1))):=by
       have z:=R7 _ _ (R36 _ _ (R3 _ _ (R2 _ _ g1)))
       rw [wo_of (ne_of z epp7 (by intro y; cases y))]; exact z
      have tw4 : wo pp J7 q4 = some (.tup (vDeed (.fetch s1 f1))):=by
       have z:=R7 _ _ (R6 _ _ (R5 _ _ g4))
       rw [wo_of (ne_of z epp7 (by intro y; cases y))]; exact z
      have D7 : Dts (wo pp J7) ((row ++ [M.Deed.put f0 s1] ++ List.replicate ee (M.Deed.fetch s1 f1)).map dDeed) (xs ++ [.ref q1] ++ List.replicate ee (.ref q4)):=by
       rw [List.map_append,List.map_append,List.map_replicate]
       exact ((dp4.same W47).append (.one (deed_mk tw1))).append (dts_rep _ _ (deed_mk tw4) ee)
      have hq7 : q7 ≠ pp:=fun y=>by
       have:=(R63.trans R36) _ _ e6
       rw [y,this] at m7; cases m7
      rw [hC]
      clear hC C
      refine cutC1 fun C hC=>?_
      walk_at "rd"
      refine ⟨_,items_t (W7' _ _ eb),vy,hvy,?_⟩
      refine ⟨a,pp,pf,ns,y,vy,_,k,c1,s1 + 1,ag1,md,rfl,W7.seq hS,h63,dy.same W7,W7 _ _ ef,epp7,hfr,.inr hf2,hf1,hf10,hy,by (clear hc1 hs1 hlen hB3 ef4 hrm hB4 exp mx my l1 hpp n5 e5 e6 m1 g1 m2 g2' smx m3 g3 m4 g4 m5 g5 m6 hE g6 m7 g7 epp7 tw1 tw4 hq7 hC eb3 e1 ef hf1 hf10 ef3 hfk hf2 lvk ll lr hB1 hc hvx hvy hfi hx hy h63 ep hag hB e3 px py ndk nkk hB2 ep4 epp4 hag1 lp eb hdp; lia),by (clear hc1 hs1 hlen hB3 ef4 hrm hB4 exp mx my l1 hpp n5 e5 e6 m1 g1 m2 g2' smx m3 g3 m4 g4 m5 g5 m6 hE g6 m7 g7 epp7 tw1 tw4 hq7 hC eb3 e1 ef hf1 hf10 ef3 hfk hf2 lvk ll lr hB1 hc hvx hvy hfi hx hy hdp hlv lp eb hxy px py ndk nkk hB2 hB e3 ep4 h63 ep epp4; lia),by (clear h63 ep hag hB e3 hdp hlv lp eb eb3 e1 ef hf1 hf10 ef3 hfk hf2 lvk g2' smx m3 g3 m4 g4 m5 g5 m6 hE g6 m7 g7 epp7 tw1 tw4 hq7 hC hxy px py ndk nkk hB2 ep4 epp4 hag1 hs1 hlen hB3 ef4 hrm hpp n5 e5 e6 m1 g1 m2 ll lr hB1 hfi hx hy l1 hvx hvy hB4; lia),fun p2 xs2 row2 c2 s2 ag2 Y1 V1 u1 w1 D1 eppL hag2 hc2 hs2 hrow2 hlen2=>?_⟩
      have l2 : xs2.length = row2.length:=by have:=D1.length; rw [List.length_map] at this; exact this
      have su1:=sum_mul (ndd x) (ndd y) 1 (ag - ag1) (ag1 - ag2)
      have su2:=sum_mul (nk x) (nk y) 1 (ag - ag1) (ag1 - ag2)
      rw [show ag - ag1 + (ag1 - ag2) = ag - ag2 by (clear h63 ep hag hB e3 hdp hlv lp eb eb3 e1 ef hf1 hf10 ef3 hfk hf2 lvk ll lr hB1 hB4 exp mx my l1 hpp n5 e5 e6 m1 g1 m2 g2' smx m3 g3 m4 g4 m5 g5 m6 hc hvx hvy hfi hx hy hxy px py ndk nkk g6 m7 g7 epp7 tw1 tw4 hq7 hC u1 w1 eppL hc2 hs2 hlen2 l2 su1 su2 hB2 ep4 epp4 hlen hB3 ef4 hs1 hrm hc1 hE; lia)] at su1 su2
      rw [← ndk] at su1
      rw [← nkk] at su2
      have sm:=sm_mul (show ndd (M.Tr.knot f l r) ≤ 63 by unfold ndd; (clear hrm hB4 exp mx my l1 hpp n5 e5 e6 m1 g1 m2 g2' smx m3 g3 m4 g4 m5 g5 m6 hE g6 m7 g7 epp7 tw1 tw4 hq7 hC u1 w1 eppL hag2 hc2 hs2 hlen2 l2 su1 su2 hc hvx hvy hfi hx hy hxy px py ndk nkk hB2 ep4 epp4 hag1 hc1 hs1 hlen hB3 ef4 ef hf1 hf10 ef3 hfk hf2 lvk ll lr hB1 h63 ep hag hB e3 hdp eb3 e1 eb lp; omega)) (show 1 + (ag - ag2) ≤ 3 by (clear hrm hB4 exp mx my l1 hpp n5 e5 e6 m1 g1 m2 g2' smx m3 g3 m4 g4 m5 g5 m6 hE g6 m7 g7 epp7 tw1 tw4 hq7 hC u1 w1 eppL hag2 hc2 hs2 hlen2 l2 su1 su2 hc hvx hvy hfi hx hy hxy px py ndk nkk hB2 ep4 epp4 hag1 hc1 hs1 hlen hB3 ef4 ef hf1 hf10 ef3 hfk hf2 lvk ll lr hB1 hlv lp eb eb3 e1 hB e3 hdp h63 ep; lia))
      refine ⟨p2,rfl,_,(V1.trans wo_in) _ _ (by rw [wo_of hq7]; exact g7),_,w1,small_le (by simp; (clear h63 ep hag hB e3 hdp hlv lp eb eb3 e1 ef hf1 hf10 ef3 hfk hf2 lvk ll lr hB1 hc hvx hvy hfi hx hy hxy px py ndk nkk m7 g7 epp7 tw1 tw4 hq7 hC u1 w1 eppL hag2 hB2 ep4 epp4 hag1 hc1 hs1 m3 g3 m4 g4 m5 g5 hrm hB4 exp hpp n5 e5 e6 m1 g1 ef4 mx m2 g2' hc2 hs2 hB3 my m6 g6 su2; lia)),NewO.mk fun p3 Y2 V2 u2 w2=>?_⟩
      have VL2:=V1.trans (wo_same V2)
      have V02:=W7.trans VL2
      have V02' : Same (wo pp H) Y2:=V02.trans wo_in
      refine ⟨_,items_l (V02' _ _ ef),_,atI_1,by decide,NewO.mk fun p4 Y3 V3 u3 w3=>⟨by decide,NewO.mk fun p5 Y4 V4 u4 w4=>⟨p3,rfl,_,rfl,_,V4 _ _ (V3 _ _ w2),_,w4,small_le (by simp; (clear h63 ep hag hB e3 hdp hlv lp eb eb3 e1 ef hf1 hf10 ef3 hfk hf2 lvk ll lr hB1 hc hvx hvy hfi hx hy hxy px py ndk nkk hB2 ep4 epp4 u2 w2 u3 w3 u4 w4 hpp n5 e5 e6 m1 g1 m7 g7 epp7 tw1 tw4 hq7 hC u1 w1 eppL hag2 hc2 hag1 hc1 hs1 hrm hB4 exp m3 g3 m4 g4 m5 g5 ef4 mx m2 g2' hB3 my m6 g6 hs2 su2; lia)),NewO.mk fun p6 Y5 V5 u5 w5=>?_⟩⟩⟩
      have V25:=(V3.trans V4).trans V5
      have V05:=V02.trans (wo_same V25)
      have V05' : Same (wo pp H) Y5:=V05.trans wo_in
      have epp5:=V25 _ _ (V2 _ _ eppL)
      rw [hC]
      clear hC C
      walk_at "rd"
      refine ⟨_,items_l (V05' _ _ ef),_,atI_1,_,items_l (V05' _ _ ef),_,atI_0,by decide,NewO.mk fun p7 Y6 V6 u6 w6=>?_⟩
      have epp6:=V6 _ _ epp5
      have hp6 : p6 ≠ pp:=fun y=>by
       have:=(V3.trans V4) _ _ (V2 _ _ eppL)
       rw [y,this] at u5; cases u5
      have hp7 : p7 ≠ pp:=fun y=>by rw [y,epp5] at u6; cases u6
      have V06:=V05.trans (wo_same V6)
      have D6 : Dts (wo pp Y6) ((row ++ [M.Deed.put f0 s1] ++ List.replicate ee (M.Deed.fetch s1 f1) ++ row2 ++ [M.Deed.fetch s1 f1]).map dDeed) (xs ++ [.ref q1] ++ List.replicate ee (.ref q4) ++ xs2 ++ [.ref p4]):=by
       have tz : wo pp Y6 p4 = some (.tup (vDeed (.fetch s1 f1))):=by
        have z:=V6 _ _ (V5 _ _ (V4 _ _ w3))
        rw [wo_of (ne_of z epp6 (by intro y; cases y))]; exact z
       rw [List.map_append,List.map_append]
       have VV:=(wo_same (pp:=pp) V25).trans (wo_same V6)
       exact ((D7.same (VL2.trans VV)).append ((D1.same (wo_same V2)).same VV)).append (.one (deed_mk tz))
      have hdeeds : ∀ d ∈ row ++ [M.Deed.put f0 s1] ++ List.replicate ee (M.Deed.fetch s1 f1) ++ row2 ++ [M.Deed.fetch s1 f1],d.ok k (sh + nk (M.Tr.knot f l r) * (1 + (ag - ag2)) : Nat) ∧ namedT (M.Tr.knot f l r) d:=by
       have fok : (M.Deed.fetch s1 f1 : L2.Deed).ok k (sh + nk (M.Tr.knot f l r) * (1 + (ag - ag2)) : Nat):=⟨fun z hz=>by simp only [M.Deed.bn,List.mem_singleton] at hz; rw [hz]; exact hf1',fun z hz=>by simp only [M.Deed.sn,List.mem_singleton] at hz; rw [hz]; exact ⟨by (clear h63 ep hag hB e3 hdp hlv lp eb eb3 e1 ef hf1 hf10 ef3 hfk hf2 lvk ll lr hB1 hc hvx hvy hfi hx hy hxy px py ndk nkk hB2 ep4 epp4 hag1 hc1 hs1 hlen hB3 ef4 hrm hB4 exp mx my l1 hpp n5 e5 e6 m1 g1 m2 g2' smx m3 g3 m4 g4 m5 g5 m6 hE g6 m7 g7 epp7 tw1 tw4 hq7 u1 w1 eppL hag2 hc2 hs2 hlen2 l2 su1 su2 sm u2 w2 u3 w3 u4 w4 u5 w5 epp5 u6 w6 epp6 hp6 hp7 hz; lia),by (clear h63 ep hag hB e3 hdp hlv lp eb eb3 e1 ef hf1 hf10 ef3 hfk hf2 lvk ll lr hB1 hc hvx hvy hfi e6 m1 g1 m2 g2' smx m3 g3 m4 g4 m5 g5 m6 hE g6 m7 g7 epp7 tw1 tw4 hq7 u1 w1 eppL hag2 hlen hB3 ef4 hrm hB4 exp mx my l1 hpp n5 e5 hc2 w5 epp5 u6 w6 epp6 hp6 hp7 hz hx hy hxy px py ndk nkk u3 w3 u4 w4 u5 hB2 ep4 epp4 hag1 u2 w2 l2 su1 hc1 hlen2 sm; omega)⟩⟩
       intro d hd
       simp only [List.mem_append,List.mem_singleton] at hd
       rcases hd with (((hd | rfl) | hd) | hd) | rfl
       · exact ⟨ok_mono (hrow d hd).1 (by (clear h63 ep hag hB e3 hdp hlv lp eb eb3 e1 ef hf1 hf10 ef3 hfk hf2 lvk ll lr hB1 hc hvx hvy hfi hx hy hxy px py ndk nkk hB2 ep4 epp4 hag1 hc1 hs1 hlen hB3 ef4 hrm hB4 exp mx my l1 hpp n5 e5 e6 m1 g1 m2 g2' smx m3 g3 m4 g4 m5 g5 m6 hE g6 m7 g7 epp7 tw1 tw4 hq7 u1 u3 w3 u4 w4 u5 w5 epp5 u6 w6 epp6 hp6 hp7 w1 eppL hag2 hc2 hs2 hlen2 sm u2 w2 l2 su1; omega)),namedL (hrow d hd).2 (fun z hz=>hlvs z (.inl hz)) (fun z hz=>hkns z (.inl hz))⟩
       · exact ⟨⟨fun z hz=>by simp only [M.Deed.bn,List.mem_singleton] at hz; rw [hz]; exact hf0,fun z hz=>by simp only [M.Deed.sn,List.mem_singleton] at hz; rw [hz]; exact ⟨by (clear h63 ep hag hB e3 hdp hlv lp eb eb3 e1 ef hf1 hf10 ef3 hfk hf2 lvk ll lr hB1 hc hvx hvy hfi hx hy hxy px py ndk nkk hB2 ep4 epp4 hag1 hc1 hs1 hlen hB3 ef4 hrm hB4 exp mx my l1 hpp n5 e5 e6 m1 g1 m2 g2' smx m3 g3 m4 g4 m5 g5 m6 hE g6 m7 g7 epp7 tw1 tw4 hq7 u1 w1 eppL hag2 hc2 hs2 hlen2 l2 su1 su2 sm u2 w2 u3 w3 u4 w4 u5 w5 epp5 u6 w6 epp6 hp6 hp7 hz; lia),by (clear h63 ep hag hB e3 hdp hlv lp eb eb3 e1 ef hf1 hf10 ef3 hfk hf2 lvk ll lr hB1 hc hvx hvy hfi e6 m1 g1 m2 g2' smx m3 g3 m4 g4 m5 g5 m6 hE g6 m7 g7 epp7 tw1 tw4 hq7 u1 w1 eppL hag2 hlen hB3 ef4 hrm hB4 exp mx my l1 hpp n5 e5 hc2 w5 epp5 u6 w6 epp6 hp6 hp7 hz hx hy hxy px py ndk nkk u3 w3 u4 w4 u5 hB2 ep4 epp4 hag1 u2 w2 l2 su1 hc1 hlen2 sm; omega)⟩⟩,trivial⟩
       · rw [List.eq_of_mem_replicate hd]; exact ⟨fok,trivial⟩
       · exact ⟨ok_mono (hrow2 d hd).1 (by (clear h63 ep hag hB e3 hdp hlv lp eb eb3 e1 ef hf1 hf10 ef3 hfk hf2 lvk ll lr hB1 hc hvx hvy n5 e5 e6 m1 g1 m2 g2' smx m3 g3 m4 g4 m5 g5 m6 hE g6 m7 g7 epp7 tw1 tw4 hq7 u1 hfi hx hy hxy px py ndk nkk hB2 ep4 epp4 hag1 u3 w3 u4 w4 u5 w5 epp5 u6 w6 epp6 hp6 hp7 hB4 exp mx my l1 hpp w1 eppL hag2 hc2 hs2 hlen2 hB3 ef4 hrm sm u2 w2 hlen l2 hc1 su1; omega)),namedL (hrow2 d hd).2 (fun z hz=>hlvs z (.inr hz)) (fun z hz=>hkns z (.inr hz))⟩
       · exact ⟨fok,trivial⟩
      have hlen3 : (row ++ [M.Deed.put f0 s1] ++ List.replicate ee (M.Deed.fetch s1 f1) ++ row2 ++ [M.Deed.fetch s1 f1]).length + 1 ≤ 6 * (ndd (M.Tr.knot f l r) * (1 + (ag - ag2))):=by
       simp only [List.length_append,List.length_replicate,List.length_cons,List.length_nil]; (clear h63 ep hag hB e3 hdp hlv lp eb eb3 e1 ef hf1 hf10 ef3 hfk hf2 lvk ll lr hB1 hc hvx hvy hfi hx hy hxy px py ndk nkk hB2 ep4 epp4 hag1 u3 w3 u4 w4 u5 w5 epp5 u6 w6 epp6 hp6 hp7 hB4 exp mx my l1 hpp n5 e5 e6 m1 g1 m2 g7 epp7 tw1 tw4 hq7 u1 hB3 ef4 hrm w1 eppL hag2 sm u2 w2 hc1 hs1 g3 m4 g4 m5 g5 m6 m7 hc2 su2 hs2 l2; omega)
      have fin : ∀ (Y7 : Hp) (s3 : Nat),(∀ c,c ≠ pp → Y7 c = Y6 c) → Y7 pp = some (.lst [.int c2,.int s3,.int ag2,.int md]) → s3 ≤ sh + nk (M.Tr.knot f l r) * (1 + (ag - ag2)) → B4 { nx:=fun x H'=>Q V.non H',rt:=Q } [some (.ref a),some (.ref pp),some (.ref b),some (.ref pf),some (.int cell),some (.int fi),some (.ref p6),some (.bl rm),some (.ref p7),some (.int s1)] Y7:=by
       intro Y7 s3 k7 epp7' hs3
       refine rest4 p6 p7 _ _ f1 f0 c2 s3 ag2 Y7 _ (V06.trans (wo_put k7)) ?_ (D6.same (wo_put k7)) epp7' ?_ hf1' hf0 (by (clear h63 ep hag hB e3 hdp hlv lp eb eb3 e1 ef hf1 hf10 ef3 hfk hf2 lvk ll lr hB1 hc hvx hvy hfi hc2 hs2 hlen2 l2 su1 su2 sm u2 w2 u3 w3 u4 w4 u5 w5 epp5 u6 w6 epp6 hp6 hp7 hlen3 epp7' hs3 hlen hB3 ef4 hrm hB4 exp mx my l1 hpp n5 e5 e6 m1 g1 m2 g2' smx m3 g3 m4 g4 m5 g5 m6 hE hx hy hxy px py ndk nkk m7 g7 epp7 tw1 tw4 hq7 u1 hc1 hs1 g6 w1 hB2 ep4 epp4 eppL; lia)) (by (clear h63 ep hag hB e3 hdp hlv lp eb eb3 e1 ef hf1 hf10 ef3 hfk hf2 lvk ll lr hB1 hc hvx hvy hfi e6 m1 g1 m2 g2' smx m3 g3 m4 g4 m5 g5 m6 hE g6 m7 g7 epp7 tw1 tw4 hq7 u1 w1 eppL hag2 w5 epp5 u6 w6 epp6 hp6 hp7 hlen3 epp7' hs3 hx hy hxy px py ndk nkk hB3 ef4 hrm hB4 exp mx my w3 u4 w4 u5 hB2 ep4 epp4 hag1 su2 sm u2 w2 u3 hlen l1 hpp n5 hs2 hlen2 hs1 e5 l2; omega)) hs3 hdeeds hlen3
       · rw [wo_of hp6,k7 _ hp6]; exact V6 _ _ w5
       · rw [k7 _ hp7]; exact w6
      exact ⟨_,items_l epp6,_,atI_3,rfl,ite2 (fun g3=>⟨_,epp6,1,rfl,PutO.mk fun Y7 k7 e7=>fin Y7 s1 k7 e7 (by (clear h63 ep hag hB e3 hdp hlv lp eb eb3 e1 ef hf1 hf10 ef3 hfk hf2 lvk ll lr hB1 hc hvx hvy hfi e6 m1 g1 m2 g2' smx m3 m4 g4 m5 g5 m6 hE g6 m7 g7 epp7 tw1 tw4 hq7 u1 w1 eppL hag2 hc2 hlen hB3 ef4 hrm hB4 exp mx my l1 hpp n5 e5 hs2 epp5 u6 w6 epp6 hp6 hp7 hlen3 g3 e7 hx hy hxy px py ndk nkk w3 u4 w4 u5 w5 hB2 ep4 epp4 hag1 w2 u3 hlen2 l2 sm u2 hc1 su1; omega))⟩) (fun g3=>fin Y6 s2 (fun _ _=>rfl) epp6 (by (clear h63 ep hag hB e3 hdp hlv lp eb eb3 e1 ef hf1 hf10 ef3 hfk hf2 lvk ll lr hB1 hc hvx hvy hfi e6 m1 g1 m2 g2' smx m3 m4 g4 m5 g5 m6 hE g6 m7 g7 epp7 tw1 tw4 hq7 u1 w1 eppL hag2 hc2 epp5 u6 w6 epp6 hp6 hp7 hlen3 g3 hx hy hxy px py ndk nkk hB3 ef4 hrm hB4 exp mx my u4 w4 u5 w5 hB2 ep4 epp4 hag1 sm u2 w2 u3 w3 hlen l1 hpp n5 hlen2 l2 hc1 e5 su1; omega)))⟩
    obtain ⟨b2,r2,rfl,eb2⟩:=dT_any dy
    have eb24:=W4' _ _ eb2
    walk_at "rd"
    refine ⟨_,items_l ef4,ite2 (fun g=>rest3 true fun _=>.inr ?_) (fun g=>⟨_,items_l ef4,ite2 (fun g'=>⟨_,items_t (W4' _ _ eb),_,hvy,b2,rfl,_,items_t eb24,_,atI_0,rfl,?_⟩) (fun g'=>rest3 false fun z=>by cases z)⟩)⟩
    · have:=of_decide_eq_true g
      simp at this ⊢; (clear h63 ep hag hB e3 hdp hlv lp eb eb3 e1 ef hf1 hf10 ef3 hfk hf2 lvk ll lr hB1 hc hvx hfi hx hy hxy px py ndk nkk hB2 ep4 epp4 hag1 hc1 hs1 hlen hB3 ef4 eb2 hvy eb24 g; omega)
    · have e : decide (V.str (if y.isL = true then Str.ofString "leaf" else Str.ofString "knot") = V.str (Str.ofString "leaf")) = y.isL:=by
       simp only [V.str.injEq]; exact kind_leaf y
      rw [e]
      exact rest3 y.isL fun z=>.inl z
   walk_at "rd"
   have exp : (ndd x + ndd y + 1) * (1 + ag) = ndd x * (1 + ag) + ndd y * (1 + ag) + (1 + ag):=by rw [Nat.add_mul,Nat.add_mul,Nat.one_mul]
   rw [exp] at hc
   have ndx : ndd x ≤ 63:=by unfold ndd; (clear eb3 e1 ef hf1 hf10 ef3 hfk hf2 lvk ll lr hB1 hc hvx hvy hfi hx hy h63 ep hag hB e3 px py ndk nkk hB2 exp lp eb hdp; lia)
   refine ⟨_,items_t eb3,vx,hvx,a,pp,pf,ns,x,vx,_,k,c + 1,sh,ag,md,rfl,W3.seq hS,h63,dx.same W3,W3 _ _ ef,e3,hfr,.inr hf2,hf1,hf10,hx,by (clear eb3 e1 ef hf1 hf10 ef3 hfk hf2 lvk ll lr hB1 hc hvx hvy hfi hx hy h63 ep hag hB e3 px py ndk nkk hB2 exp ndx lp eb hdp; lia),hag,by (clear h63 ep hag hB e3 hdp hlv lp eb eb3 e1 ef hf1 hf10 ef3 hfk hf2 lvk hxy px py ndk nkk hB2 exp ndx hvy hfi hx hy ll lr hB1 hvx; omega),fun p1 xs1 row1 c1 s1 ag1 H4 W4 n4 e4 D4 epp4 hag1 hc1 hs1 hrow1 hlen1=>?_⟩
   have hp1 : p1 ≠ pp:=fun y=>by rw [y,e3] at n4; cases n4
   have W34:=W3.trans W4
   have l1 : xs1.length = row1.length:=by have:=D4.length; rw [List.length_map] at this; exact this
   have once:=rest2 p1 xs1 row1 c1 s1 ag1 H4 W34 (fun p z=>wo_free W34 epp4 z) (by rw [wo_of hp1]; exact e4) D4 epp4 hag1 (by omega) hs1 hrow1 hlen1
   refine ⟨⟨by decide,by decide⟩,by decide,ite2 (fun g1=>⟨_,items_l epp4,_,atI_2,_,rfl,ite2 (fun g2=>?_) (fun g2=>once)⟩) (fun g1=>once)⟩
   have g2 : 0 < ag1:=by have:=of_decide_eq_true g2; (clear h63 ep hag hB e3 hdp hlv lp eb eb3 e1 ef hf1 hf10 ef3 hfk hf2 lvk ll lr hB1 hc hvx hvy hfi hx hy hxy px py ndk nkk hB2 exp ndx n4 e4 epp4 hag1 hc1 hs1 hlen1 hp1 l1 g1 g2; omega)
   refine ⟨_,items_l epp4,_,atI_2,_,rfl,_,epp4,2,rfl,PutO.mk fun H5 k5 e5=>?_⟩
   have e5 : H5 pp = some (.lst [.int c1,.int s1,.int ((ag1 - 1 : Nat) : Int),.int md]):=by
    have : ((ag1 - 1 : Nat) : Int) = (ag1 : Int) - 1:=by (clear h63 ep hag hB e3 hdp hlv lp eb eb3 e1 ef hf1 hf10 ef3 hfk hf2 lvk ll lr hB1 hc hvx hvy hfi hx hy hxy px py ndk nkk hB2 exp ndx n4 e4 epp4 hag1 hc1 hs1 hlen1 hp1 l1 g1 e5; lia)
    rw [this]; exact e5
   have W35:=W34.trans (wo_put k5)
   have W35' : Same (wo pp H) H5:=W35.trans wo_in
   have tw:=two_mul (ndd x) (ag - ag1) (ag1 - 1)
   rw [show ag - ag1 + (ag1 - 1) + 1 = ag by (clear h63 ep hag hB e3 hdp hlv lp eb eb3 e1 ef hf1 hf10 ef3 hfk hf2 lvk ll lr hB1 hc hvx hvy hfi hx hy hxy px py ndk nkk hB2 exp ndx n4 hc1 hs1 hlen1 hp1 l1 g1 e5 tw e4 epp4; omega)] at tw
   refine ⟨_,items_t (W35' _ _ eb),vx,hvx,a,pp,pf,ns,x,vx,_,k,c1,s1,ag1 - 1,md,rfl,W35.seq hS,h63,dx.same W35,W35 _ _ ef,e5,hfr,.inr hf2,hf1,hf10,hx,by (clear hf1 hf10 ef3 hfk hf2 lvk ll lr hB1 hc hvx hvy e4 epp4 hag1 hc1 hs1 hlen1 hp1 l1 g1 g2 e5 tw h63 ep hag hB e3 hdp ndk nkk hB2 exp ndx n4 eb3 e1 ef hfi hx hy px py lp eb; lia),by (clear hf1 hf10 ef3 hfk hf2 lvk ll lr hB1 hc hvx hvy hfi hx hy hxy px py ndk nkk hB2 exp ndx n4 hlv lp eb eb3 e1 ef hp1 l1 g1 g2 e5 tw hB e3 hdp hc1 hs1 hlen1 h63 ep e4 epp4; lia),by (clear h63 ep hag hB e3 hdp hlv lp eb eb3 e1 ef hfi hx hy hxy px py ndk nkk hB2 exp ndx n4 hf1 hf10 ef3 hfk hf2 lvk ll lr hB1 e4 epp4 hag1 hp1 l1 g1 hs1 hlen1 g2 e5 hvx hvy; omega),fun p2 xs2 row2 c2 s2 ag2 H6 W6 n6 e6 D6 epp6 hag2 hc2 hs2 hrow2 hlen2=>?_⟩
   have l2 : xs2.length = row2.length:=by have:=D6.length; rw [List.length_map] at this; exact this
   have W46 : Same (wo pp H4) (wo pp H6):=(wo_put k5).trans W6
   have W36:=W35.trans W6
   have e46 : H6 p1 = some (.lst xs1):=by
    have:=W46 p1 _ (by rw [wo_of hp1]; exact e4)
    rw [wo_of hp1] at this; exact this
   have tw1:=two_mul (ndd x) (ag - ag1) (ag1 - 1 - ag2)
   have tw2:=two_mul (nk x) (ag - ag1) (ag1 - 1 - ag2)
   rw [show ag - ag1 + (ag1 - 1 - ag2) + 1 = ag - ag2 by (clear h63 ep hag hB e3 hdp hlv lp eb eb3 e1 ef hf1 hf10 ef3 hfk hf2 lvk ll lr hB1 hc hvx hvy hfi hx hy hxy px py ndk nkk hB2 exp ndx n4 e4 epp4 hlen2 l2 e46 tw1 tw2 e5 tw n6 e6 hs1 hlen1 hp1 l1 hc2 hs2 hc1 g1; lia)] at tw1 tw2
   have sm:=sm_mul ndx (show 1 + (ag - ag2) ≤ 3 by (clear ndk nkk hB2 exp ndx n4 e4 epp4 hag1 hc1 hs1 hlen1 hp1 l1 g1 g2 e5 tw n6 e6 epp6 hag2 hc2 hs2 hlen2 l2 e46 tw1 tw2 hfk hf2 lvk ll lr hB1 hc hvx hvy hfi hx hy hxy px py eb eb3 e1 ef hf1 hf10 ef3 e3 hdp hlv lp h63 ep hB; lia))
   refine ⟨p1,rfl,p2,rfl,_,e46,_,e6,small_le (by (clear h63 ep hag hB e3 hdp hlv lp eb eb3 e1 ef hf1 hf10 ef3 hfk hf2 lvk ll lr hB1 hc hvx hvy hfi hx hy hxy px py ndk nkk hB2 exp ndx n4 e4 epp4 e5 tw n6 e6 epp6 hag2 hc2 hs2 hag1 hc1 g1 g2 hs1 hp1 e46 tw2; lia)),NewO.mk fun p3 H7 S7 n7 e7=>?_⟩
   have epp7:=S7 _ _ epp6
   have hp3 : p3 ≠ pp:=fun y=>by rw [y,epp6] at n7; cases n7
   have W37:=W36.trans (wo_same S7)
   refine rest2 p3 _ (row1 ++ row2) c2 s2 ag2 H7 W37 (fun p z=>wo_free W37 epp7 z) (by rw [wo_of hp3]; exact e7) ?_ epp7 (by (clear h63 ep hag hB e3 hdp hlv lp eb eb3 e1 ef hf1 hf10 ef3 hfk hf2 lvk ll lr hB1 hc hvx hvy hfi hx hy hxy px py ndk nkk hs1 hlen1 hp1 l1 g1 g2 e5 tw hB2 exp ndx n4 hc2 hs2 hlen2 l2 e46 tw1 tw2 sm n7 e7 epp7 hp3 e4 epp4 n6 e6 hc1 epp6; lia)) (by (clear h63 ep hag hB e3 hdp hlv lp eb eb3 e1 ef hf1 hf10 ef3 hfk hf2 lvk ll lr hB1 hc hvx hvy hfi hx hy hxy px py ndk nkk hs1 hlen1 hp1 l1 g1 g2 e5 tw hB2 exp ndx n4 n6 e6 epp6 hag2 n7 e7 epp7 hp3 e4 epp4 hlen2 l2 tw2 sm hag1 hs2 e46; omega)) (by (clear h63 ep hag hB e3 hdp hlv lp eb eb3 e1 ef hf1 hf10 ef3 hfk hf2 lvk ll lr hB1 hc hvx hvy hfi hx hy hxy px py ndk nkk hB2 exp ndx n4 e4 epp4 hag1 hc1 g1 g2 e5 tw n6 e6 epp6 hag2 n7 e7 epp7 hp3 hp1 l1 hlen2 l2 e46 tw1 hlen1 hc2 sm; omega)) (fun d hd=>?_) (by rw [List.length_append]; (clear h63 ep hag hB e3 hdp hlv lp eb eb3 e1 ef hf1 hf10 ef3 hfk hf2 lvk ll lr hB1 hc hvx hvy hfi hx hy hxy px py ndk nkk hB2 exp ndx n4 e4 epp4 hag1 hc1 g1 g2 e5 tw n6 e6 epp6 hag2 n7 e7 epp7 hp3 hp1 l1 hc2 hs2 tw2 sm hs1 l2 e46; omega))
   · rw [List.map_append]
     exact ((D4.same W46).same (wo_same S7)).append (D6.same (wo_same S7))
   · rcases List.mem_append.mp hd with hd | hd
     · exact ⟨ok_mono (hrow1 d hd).1 (by (clear h63 ep hag hB e3 hdp hlv lp eb eb3 e1 ef hf1 hf10 ef3 hfk hf2 lvk ll lr hB1 hc hvx hvy hfi hx hy hxy px py ndk nkk hB2 exp ndx n4 e4 epp4 hag1 hc1 hs1 hlen1 hp1 l1 g1 g2 e5 tw n6 e6 epp6 hag2 hc2 hs2 hlen2 l2 n7 e7 epp7 hp3 e46 tw1 sm; omega)),(hrow1 d hd).2⟩
     · exact ⟨ok_mono (hrow2 d hd).1 (by (clear h63 ep hag hB e3 hdp hlv lp eb eb3 e1 ef hf1 hf10 ef3 hfk hf2 lvk ll lr hB1 hc hvx hvy hfi hx hy hxy px py ndk nkk hB2 exp ndx n4 e4 epp4 hag1 hc1 n6 e6 epp6 hag2 hc2 hs2 hlen2 l2 g1 g2 e5 tw n7 e7 epp7 hp3 hp1 l1 e46 tw1 hlen1 sm; omega)),(hrow2 d hd).2⟩
  walk_at "rd"
  rcases (show cell % 2 = 0 ∨ cell % 2 = 1 by (clear h63 ep hag hB e3 hdp hlv hc lp eb eb3 e1 ef hf1 hf10 ef3 hfk hf2 lvk ll lr hB1; lia)) with h | h
  · rw [h]
    exact ⟨by decide,rest1 2 l r vl vr rfl rfl hl' hr' (.inl rfl) (by (clear ef hf1 hf10 ef3 hfk hf2 lvk ll lr hB1 h hlv hc lp eb eb3 e1 h63 ep hag hB e3; lia)) (by (clear ef hf1 hf10 ef3 hfk hf2 lvk ll lr hB1 h hlv hc lp eb eb3 e1 h63 ep hag hB e3; lia)) (by simp [M.Tr.lv]) (by omega) (by omega) (fun z hz=>by simpa [M.Tr.lv] using hz) (fun z hz=>by simp only [M.Tr.kn,List.mem_cons,List.mem_append]; exact .inr hz)⟩
  · rw [h]
    exact ⟨by decide,rest1 3 r l vr vl rfl rfl hr' hl' (.inr rfl) (by (clear ef hf1 hf10 ef3 hfk hf2 lvk ll lr hB1 h hlv hc lp eb eb3 e1 h63 ep hag hB e3; lia)) (by (clear ef hf1 hf10 ef3 hfk hf2 lvk ll lr hB1 h hlv hc lp eb eb3 e1 h63 ep hag hB e3; lia)) (by simp [M.Tr.lv]; (clear h63 ep hag hB e3 hdp hlv hc lp eb eb3 e1 ef hf1 hf10 ef3 hfk hf2 hB1 h lvk ll; lia)) (by omega) (by omega) (fun z hz=>by simp only [M.Tr.lv,List.mem_append]; exact hz.symm) (fun z hz=>by simp only [M.Tr.kn,List.mem_cons,List.mem_append]; exact .inr hz.symm)⟩
theorem moms_at (t : L2.Tree) : ∀ (row : List L2.Deed) (st : MS) (n : Nat),n ≤ row.length → (moms t st row)[n]? = some ((row.take n).foldl (M.mark t) st)
 | [],st,n,h=>by
  have : n = 0:=by simpa using h
  subst this; rfl
 | d :: row,st,0,_=>rfl
 | d :: row,st,n + 1,h=>by
  rw [moms,List.getElem?_cons_succ,moms_at t row _ n (by simpa using h),List.take_succ_cons,List.foldl_cons]
theorem usesL_spec (s : Int) : ∀ (l : List L2.Deed) (i m : Nat),usesL s l i = some m → i ≤ m ∧ m - i < l.length ∧ (∃ j,l[m - i]? = some (.fetch s j)) ∧ ∀ r,r < m - i → ∀ d,l[r]? = some d → s ∉ d.sn
 | [],_,_,h=>by cases h
 | d :: l,i,m,h=>by
  rw [usesL] at h
  split at h
  · rename_i hs
    split at h
    · rename_i hf
      cases h
      cases d with
      | fetch s' j =>
       have : s = s':=by simpa [M.Deed.sn] using hs
       subst this
       refine ⟨Nat.le_refl _,by simp,⟨j,by simp⟩,fun r hr=>by lia⟩
      | _=>cases hf
    · cases h
  · rename_i hs
    obtain ⟨h1,h2,⟨j,h3⟩,h4⟩:=usesL_spec s l (i + 1) m h
    have e : m - i = (m - (i + 1)) + 1:=by lia
    rw [e]
    refine ⟨by lia,by simp; omega,⟨j,by rw [List.getElem?_cons_succ]; exact h3⟩,fun r hr d' hd=>?_⟩
    cases r with
    | zero=>cases hd; exact hs
    | succ r=>exact h4 r (by (clear hs h h1 h2 h3 e hd; lia)) d' (by simpa using hd)
theorem usesL_of (s j : Int) : ∀ (l : List L2.Deed) (i f : Nat),l[f]? = some (.fetch s j) → (∀ r,r < f → ∀ b,l[r]? ≠ some (.put b s)) → ∃ m,usesL s l i = some m
 | [],_,_,h,_=>by simp at h
 | d :: l,i,f,h,hn=>by
  rw [usesL]
  by_cases c : s ∈ d.sn
  · rw [if_pos c]
    cases d with
    | take x b=>simp [M.Deed.sn] at c
    | join g b b' b''=>simp [M.Deed.sn] at c
    | fetch s' b=>exact ⟨i,if_pos rfl⟩
    | put b s' =>
     have : s = s':=by simpa [M.Deed.sn] using c
     subst this
     cases f with
     | zero=>simp at h
     | succ f=>exact absurd (by simp) (hn 0 (by lia) b)
  · rw [if_neg c]
    cases f with
    | zero=>simp only [List.getElem?_cons_zero,Option.some.injEq] at h; subst h; simp [M.Deed.sn] at c
    | succ f=>exact usesL_of s j l (i + 1) f (by simpa using h) fun r hr b=>by have:=hn (r + 1) (by lia) b; simpa using this
theorem mustL_wk (k : Nat) : ∀ (t : L2.Tree) (p : List Nat),((t.wk p).filter (mustQ k)).map (·.1) = M.mustL k t p
 | .leaf x,p=>rfl
 | .knot f l r,p=>by
  rw [M.Tr.wk,M.mustL,List.filter_cons,← mustL_wk k l,← mustL_wk k r,← List.map_append,← List.filter_append]
  have e : mustQ k (p,M.Tr.knot f l r) = decide (k ≤ l.rk ∧ k ≤ r.rk):=by
   show (true && decide ((k : Int) ≤ ((min l.rk r.rk : Nat) : Int))) = _
   rw [Bool.eq_iff_iff]; simp; lia
  by_cases c : k ≤ l.rk ∧ k ≤ r.rk
  · rw [e,if_pos c,if_pos (decide_eq_true c)]; rfl
  · rw [e,if_neg c,if_neg (fun z=>c (of_decide_eq_true z))]; rfl
theorem choice {t : L2.Tree} {k m : Nat} {row : List L2.Deed} (hk : 2 ≤ k) (ok : ∀ d ∈ row,d.ok k m) (h : M.hbox t k m row row.length []) : ∃ cs U,M.greedy (mustP t k).reverse (usedL row (moms t (new2 k m) row) row.length) = some (cs,U):=by
 have e : mustP t k = M.mustL k t []:=mustL_wk k t []
 rw [e]
 refine M.greedy_row hk ok h fun a q hp hu=>?_
 obtain ⟨i,sh,e1,e2⟩:=hp
 obtain ⟨f,hlt,i',sh',j,e3,e4,hno⟩:=hu
 rw [e1] at e3
 cases e3
 have ha : a < row.length:=(List.getElem?_eq_some_iff.mp e1).1
 obtain ⟨f',hf'⟩:=usesL_of sh j (row.drop (a + 1)) (a + 1) (f - (a + 1)) (by rw [List.getElem?_drop,show a + 1 + (f - (a + 1)) = f by (clear hk e e1 e2 ha; omega)]; exact e4) fun r hr b=>by
  rw [List.getElem?_drop]; exact hno _ (by (clear hk e e1 e2 hlt e4 ha hr; lia)) (by (clear hk e e1 e2 e4 ha; omega)) b
 refine ⟨f',List.mem_flatMap.mpr ⟨a,List.mem_range.mpr ha,?_⟩⟩
 unfold useAt
 rw [e1,moms_at t row _ a (by (clear hk e e1 e2 hlt e4 hf'; lia))]
 show (q,a,f') ∈ useOf a ((List.foldl (M.mark t) (new2 k m) (row.take a)).1.getD i.toNat none) (usesL sh (row.drop (a + 1)) (a + 1))
 rw [hf',show (List.foldl (M.mark t) (new2 k m) (row.take a)).1.getD i.toNat none = some q from e2]
 exact List.mem_singleton.mpr rfl
theorem cut_mid (xs : List V) (a b : Nat) (h : a ≤ b) (h2 : b ≤ xs.length) : cutV xs (some (a : Int)) (some (b : Int)) = (xs.drop a).take (b - a):=by
 have e : ∀ (d c : Nat),c ≤ xs.length → HT.sIx xs.length d (some (c : Int)) = c:=fun d c hc=>by
  show (if (c : Int) < 0 then ((c : Int) + (xs.length : Int)).toNat else min (c : Int).toNat xs.length) = _
  rw [if_neg (by (clear h h2 hc; lia))]; (clear h h2; lia)
 unfold cutV
 rw [e _ a (by lia),e _ b h2]
theorem mat_of {H : Hp} {c : List Nat × M.Use} {v : V} (h : Dt H (dMat c) v) : ∃ a vp,v = .ref a ∧ H a = some (.tup [vp,.int c.2.2.1,.int c.2.2.2]) ∧ Dt H (dP c.1) vp:=by
 obtain ⟨a,vs,rfl,e,h⟩:=isD_tup.mp h
 simp only [isDs_cons,isD_int,isDs_nil] at h
 obtain ⟨vp,_,rfl,hp,_,_,rfl,rfl,_,_,rfl,rfl,rfl⟩:=h
 exact ⟨a,vp,rfl,e,hp⟩
theorem chosen_facts {t : L2.Tree} {k m : Nat} {row : List L2.Deed} {cs : List (List Nat × M.Use)} {U : List M.Use} (hgr : M.greedy (mustP t k).reverse (usedL row (moms t (new2 k m) row) row.length) = some (cs,U)) :
 cs.reverse.map (·.1) = mustP t k ∧ (cs.reverse.map (·.2.2.1)).Nodup ∧ ∀ c ∈ cs.reverse,M.inner c.1 c.2.1 = true ∧ ∃ b s,row[c.2.2.1]? = some (.put b s) ∧ ((row.take c.2.2.1).foldl (M.mark t) (new2 k m)).1.getD b.toNat none = some c.2.1 ∧ usesL s (row.drop (c.2.2.1 + 1)) (c.2.2.1 + 1) = some c.2.2.2:=by
 obtain ⟨f1,f2,f3⟩:=M.greedy_facts _ _ _ _ hgr
 refine ⟨by rw [List.map_reverse,f1,List.reverse_reverse],?_,fun c hc=>?_⟩
 · have h1:=(f3.map (·.2.1)).nodup_iff.mp (usedL_nd row _ _)
   rw [List.map_append,List.map_map] at h1
   rw [List.map_reverse]
   exact (List.reverse_perm _).nodup_iff.mpr (List.nodup_append.mp h1).1
 · have hc:=List.mem_reverse.mp hc
   refine ⟨f2 c hc,?_⟩
   have hu : c.2 ∈ usedL row (moms t (new2 k m) row) row.length:=f3.mem_iff.mpr (List.mem_append_left _ (List.mem_map.mpr ⟨c,hc,rfl⟩))
   obtain ⟨i,hi,hu⟩:=List.mem_flatMap.mp hu
   obtain ⟨e,b,s,st,h1,h2,h3,h4⟩:=useAt_mem hu
   have hi:=List.mem_range.mp hi
   rw [moms_at t row _ i (by lia)] at h2
   cases h2
   rw [e]
   exact ⟨b,s,h1,h3,h4⟩
noncomputable def spUsedL : Sp:=fun vs H Q _=>∃ (p : Addr) (n m : Nat) (us : List V) (row : List L2.Deed) (i s : Int),vs = [.ref p,.int n,.int m] ∧ H p = some (.lst us) ∧ Dts H (row.map dDeed) us ∧ row.length ≤ 100000 ∧ row[n]? = some (.put i s) ∧ usesL s (row.drop (n + 1)) (n + 1) = some m ∧ ∀ H',Same H H' → Q (.bl true) H'
seal PSs PS PE PT PA PI PIfs in
theorem ok_usedL (T : Txt K mg) : FnOk P w K mg base CX0 1 T.f__law_used T.d__law_used ["row","n","m"] spUsedL:=by
 refine T.F__law_used.ok (k:=0) sc__law_used (fun vs H Q E h=>?_) (fun cdv A outer s H vs Q E hr h=>?_)
 · obtain ⟨p,n,m,us,row,i,z,rfl,_⟩:=h
   rfl
 obtain ⟨p,n,m,us,row,i,z,rfl,ep,dr,hl,hn,hu,q⟩:=h
 have nd:=sc__law_used.nd
 refine ⟨_,(pss_cons (ps_let (i:=3) nd rfl (Or.inl rfl) (pe_ix ixF (pe_ix ixF (pv 0) (pv 1) (fun _ _=>rfl)) pe_int (fun _ _=>rfl)))
  (pss_cons (ps_for PassesOwn.never rfl (piL (pe_slice slLG (pv 0) (po_some (pe_op op_add (pv 1) pe_int)) (po_some (pv 2)))) (pg_name (i:=4) nd rfl (Or.inl rfl)) (pss_one (ps_if (PW.pt (pw_or (PW.pt (pw_and (pt_cmpR op_eq (pe_ix ixF (pv 4) pe_int (fun _ _=>rfl)) pe_str (nomark _)) (pw_and1 (pt_cmpR (op_eqD hr) (pe_ix ixF (pv 4) pe_int (fun _ _=>rfl)) (pv 3) (nomark _))))) (pw_or1 (PW.pt (pw_and (pt_cmpR op_eq (pe_ix ixF (pv 4) pe_int (fun _ _=>rfl)) pe_str (nomark _)) (pw_and1 (pt_cmpR (op_eqD hr) (pe_ix ixF (pv 4) pe_int (fun _ _=>rfl)) (pv 3) (nomark _)))))))) (pss_one (ps_ret pe_bl)) pss_nil)))
  (pss_one (ps_ret (pe_and (pe_cmpR op_eq (pe_ix ixF (pe_ix ixF (pv 0) (pv 2) (fun _ _=>rfl)) pe_int (fun _ _=>rfl)) pe_str (nomark _)) (pe_one (pe_cmpR (op_eqD hr) (pe_ix ixF (pe_ix ixF (pv 0) (pv 2) (fun _ _=>rfl)) pe_int (fun _ _=>rfl)) (pv 3) (nomark _)))))))),?_⟩
 walk_at "rd"
 obtain ⟨a,e1,ea⟩:=row_at dr hn
 have lus:=dr.length
 rw [List.length_map] at lus
 obtain ⟨u1,u2,⟨j,u3⟩,u4⟩:=usesL_spec z _ _ _ hu
 rw [List.length_drop] at u2
 rw [List.getElem?_drop,show n + 1 + (m - (n + 1)) = m by (clear ep hl hn hu e1 u2 u3 ea lus; omega)] at u3
 refine ⟨_,items_l ep,_,atI_nat e1,_,rfl,_,items_t ea,_,atI_2,_,ep,NewO.mk fun pc H1 S1 n1 e1c=>?_⟩
 rw [show (n : Int) + 1 = ((n + 1 : Nat) : Int) by (clear ep hl hn hu e1 ea lus u1 u2 u3 n1 e1c; lia),cut_mid us (n + 1) m u1 (by omega)] at e1c
 have die : ∀ x y : Int,D.eq (.int x) (.int y) = (x == y):=fun x y=>by simp only [D.eq]
 obtain ⟨Pv,hPv⟩ : ∃ Pv : Nat → St → Hp → Prop,∀ r σ H',Pv r σ H' ↔ Same H1 H' ∧ ∃ o4 : Option V,σ = [some (.ref p),some (.int n),some (.int m),some (.int z),o4]:=⟨_,fun _ _ _=>Iff.rfl⟩
 refine WalkL.for e1c Pv ((hPv _ _ _).mpr ⟨Same.refl _,none,rfl⟩) (fun i σ H' _ h=>((hPv _ _ _).mp h).1 _ _ e1c) ?_ ?_
 · intro r y σ H' ey h
   obtain ⟨S2,o4,rfl⟩:=(hPv _ _ _).mp h
   have S02:=S1.trans S2
   have hr' : r < m - (n + 1):=by have:=(List.getElem?_eq_some_iff.mp ey).1; rw [List.length_take] at this; (clear ep hl hn hu e1 ea lus u3 n1 e1c ey u1; lia)
   rw [List.getElem?_take,if_pos hr',List.getElem?_drop] at ey
   have hlt : n + 1 + r < row.length:=by (clear ep hl hn hu e1 ea lus e1c ey n1; omega)
   have ed : row[n + 1 + r]? = some row[n + 1 + r]:=List.getElem?_eq_getElem hlt
   have hs:=u4 r hr' _ (by rw [List.getElem?_drop]; exact ed)
   generalize row[n + 1 + r] = d at ed hs
   obtain ⟨b,e2,eb⟩:=row_at (dr.same S02) ed
   rw [ey] at e2
   cases e2
   have next : Pv (r + 1) [some (.ref p),some (.int n),some (.int m),some (.int z),some (.ref b)] H':=(hPv _ _ _).mpr ⟨S2,_,rfl⟩
   walk_at "rd"
   cases d with
   | take x0 i0 =>
    simp only [vDeed] at eb
    exact ⟨_,items_t eb,_,atI_0,rfl,wF w_tf ⟨_,items_t eb,_,atI_0,rfl,wF w_tp next⟩⟩
   | join f0 i0 j0 h0 =>
    simp only [vDeed] at eb
    exact ⟨_,items_t eb,_,atI_0,rfl,wF w_jf ⟨_,items_t eb,_,atI_0,rfl,wF w_jp next⟩⟩
   | fetch s0 i0 =>
    simp only [vDeed] at eb
    refine ⟨_,items_t eb,_,atI_0,rfl,wT ⟨_,items_t eb,_,atI_1,.int s0,isD_int.mpr rfl,.int z,isD_int.mpr rfl,Nat.zero_le _,?_⟩⟩
    rw [die,beq_false_of_ne fun c=>hs (by simp [M.Deed.sn,c])]
    exact iteF ⟨_,items_t eb,_,atI_0,rfl,wF w_fp next⟩
   | put i0 s0 =>
    simp only [vDeed] at eb
    refine ⟨_,items_t eb,_,atI_0,rfl,wF w_pf ⟨_,items_t eb,_,atI_0,rfl,wT ⟨_,items_t eb,_,atI_2,.int s0,isD_int.mpr rfl,.int z,isD_int.mpr rfl,Nat.zero_le _,?_⟩⟩⟩
    rw [die,beq_false_of_ne fun c=>hs (by simp [M.Deed.sn,c])]
    exact iteF next
 · intro σ H' h
   obtain ⟨S2,o4,rfl⟩:=(hPv _ _ _).mp h
   have S02:=S1.trans S2
   obtain ⟨b,e2,eb⟩:=row_at (dr.same S02) u3
   walk_at "rd"
   simp only [vDeed] at eb
   refine ⟨_,items_l (S02 _ _ ep),_,atI_nat e2,b,rfl,_,items_t eb,_,atI_0,rfl,wT ⟨_,items_l (S02 _ _ ep),_,atI_nat e2,b,rfl,_,items_t eb,_,atI_1,.int z,isD_int.mpr rfl,.int z,isD_int.mpr rfl,Nat.zero_le _,?_⟩⟩
   rw [D.eq_refl]
   exact q H' S02
theorem cM_must (k : Nat) : ∀ t : L2.Tree,cM k t = M.mustN k t
 | .leaf x=>rfl
 | .knot f l r=>by
  have h1:=cM_must k l
  have h2:=cM_must k r
  simp only [cM,M.mustN,h1,h2]
  by_cases c : mustT k (.knot f l r) = true
  · rw [if_pos c,if_pos (by have:=(must_iff ..).mp c; (clear h1 h2 c; lia))]; (clear h1 h2 c; lia)
  · rw [if_neg c,if_neg (fun z=>c ((must_iff ..).mpr (by (clear h1 h2 c; lia))))]; lia
theorem cnt_is (row : List L2.Deed) : cnt (Str.ofString "take") row = row.countP M.Deed.isTake ∧ cnt (Str.ofString "join") row = row.countP M.Deed.isJoin ∧ cnt (Str.ofString "put") row = row.countP M.Deed.isPut ∧ cnt (Str.ofString "fetch") row = row.countP M.Deed.isFetch:=by
 obtain ⟨h1,h2,h3,h4,h5,h6⟩:=ww
 unfold cnt
 refine ⟨?_,?_,?_,?_⟩ <;> (congr 1; funext d; cases d <;> simp [wordD,M.Deed.isTake,M.Deed.isJoin,M.Deed.isPut,M.Deed.isFetch,h1,h2,h3,h4,h5,h6,h1.symm,h2.symm,h3.symm,h4.symm,h5.symm,h6.symm])
noncomputable def spCounted : Sp:=fun vs H Q _=>∃ (t : L2.Tree) (k : Nat) (row : List L2.Deed) (v : V) (pr : Addr) (rs : List V),vs = [.ref pr,.int k,v] ∧ Dt H (dT t) v ∧ t.dp ≤ 24 ∧ t.lv.length ≤ 32 ∧ 2 ≤ k ∧ k ≤ 1000 ∧ row.length ≤ 5000 ∧ H pr = some (.lst rs) ∧ Dts H (row.map dDeed) rs ∧
 (∀ x,x = Str.ofString "take" ∨ x = Str.ofString "join" ∨ x = Str.ofString "put" ∨ x = Str.ofString "fetch" → cnt x (rowInto k t 0 0) ≤ cnt x row) ∧ ∀ H',Same H H' → Q (.bl true) H'
seal PSs PS PE PT PA PI PIfs in
theorem ok_counted (T : Txt K mg) : FnOk P w K mg base (CXE P w) 56 T.f__law_counted T.d__law_counted ["row","k","tree"] spCounted:=by
 refine T.F__law_counted.okE (k:=55) sc__law_counted (fun vs H Q E h=>?_) (fun cdv A outer s H vs Q E hr h L=>?_)
 · obtain ⟨t,k,row,v,pr,rs,rfl,_⟩:=h
   rfl
 obtain ⟨t,k,row,v,pr,rs,rfl,ht,hd,hlv,hk2,hk,hl,er,dr,ge,q⟩:=h
 have nd:=sc__law_counted.nd
 have G_row_for:=(ok_for (P:=P) (w:=w) (base:=base) T).mono (k:=55) (by omega)
 refine ⟨_,(pss_cons (ps_let (i:=3) nd rfl (Or.inl rfl) (pe_call G_row_for hr rfl T.m_row_for T.F_row_for.kp T.b_row_for .nil (passE L) (pa_cons (pv 2) (pa_cons (pv 1) pa_nil))))
  (pss_cons (ps_for PassesOwn.leaving rfl (piL (pe_lst (pa_cons pe_str (pa_cons pe_str (pa_cons pe_str (pa_cons pe_str pa_nil)))))) (pg_name (i:=4) nd rfl (Or.inr rfl)) (pss_cons (ps_let (i:=5) nd rfl (Or.inl rfl) (pe_callB lenG rfl T.z_len bt_len (pa_cons (pe_comp (N:=["deed","word"]) (caps:=[4]) rfl ⟨rfl,rfl,rfl,rfl,by decide +kernel,rfl,rfl,rfl,rfl⟩ (piL (pv 0)) (fun _ _ _ _=>pif_one (pt_cmpR op_eq (pe_ix ixF (pv 0) pe_int (fun _ _=>rfl)) (pv 1) (nomark _))) (fun _ _ _ _=>(pv 0))) pa_nil)))
    (pss_one (ps_if (pt_cmpR op_lt (pv 5) (pe_callB lenG rfl T.z_len bt_len (pa_cons (pe_comp (N:=["deed","word"]) (caps:=[4]) rfl ⟨rfl,rfl,rfl,rfl,by decide +kernel,rfl,rfl,rfl,rfl⟩ (piL (pv 3)) (fun _ _ _ _=>pif_one (pt_cmpR op_eq (pe_ix ixF (pv 0) pe_int (fun _ _=>rfl)) (pv 1) (nomark _))) (fun _ _ _ _=>(pv 0))) pa_nil)) (nomark _)) (pss_one (ps_ret pe_bl)) pss_nil))))
  (pss_one (ps_ret pe_bl)))),?_⟩
 walk_at "rd"
 have nf : ¬ few t k:=by
  rintro (z | ⟨z,_⟩) <;> (clear hd hlv hl er hk; lia)
 have hlog : (k : Int).natAbs.log2 < 1900:=Nat.lt_of_le_of_lt (Nat.log2_le_self _) (by (clear hl er nf hd hlv hk2; omega))
 refine ⟨t,k,v,rfl,ht,hd,by omega,hlog,fun z=>absurd z nf,fun _ pl ls HA SA nA' eA' DA'=>?_⟩
 have rlen:=rowInto_len k t 0 0
 generalize rowInto k t 0 0 = least at *
 have one : ∀ (pr : Addr) (rs : List V) (rw' : List L2.Deed) (x : Str) (o0 o1 o2 o3 o5 : Option V) (H' : Hp) (R : VK),H' pr = some (.lst rs) → Dts H' (rw'.map dDeed) rs → rw'.length ≤ 5000 → (∀ p us H2,Same H' H2 → H2 p = some (.lst us) → us.length = cnt x rw' → R (.ref p) H2) →
  WalkL K (V.ref pr) H' fun J H1=>wComp J [4] (tTest (tOp rEq (tOp rIxF (tVar 0) (tC (V.int 0))) (tVar 1))) (tVar 0) [o0,o1,o2,o3,some (V.str x),o5] H1 R:=by
  intro pr rs rw' x o0 o1 o2 o3 o5 H' R er dr hl hR
  have lr : rs.length = rw'.length:=by have:=dr.length; rw [List.length_map] at this; exact this
  refine WalkL.comp er (fun i us H''=>us.length = cnt x (rw'.take i)) rfl (by (clear hd hlv hk2 hk nf hlog nA' eA' rlen er; lia)) (fun i us H'' h=>by rw [h]; exact Nat.le_trans List.countP_le_length (List.length_take_le ..)) (fun i y us H'' ey S'' h=>?_) (fun p5 us H5 H6 S5 S6 h n6 e6=>?_)
  · have hi : i < rw'.length:=by have:=(List.getElem?_eq_some_iff.mp ey).1; (clear hd hlv hk2 hk nf hlog nA' eA' rlen er ey h hl; lia)
    obtain ⟨v',hv',dv'⟩:=Dts.map_of (dr.same S'') (List.getElem?_eq_getElem hi)
    rw [ey] at hv'; cases hv'
    obtain ⟨ad,rfl,ead⟩:=deed_of dv'
    obtain ⟨r',hr'⟩:=vDeed_0 rw'[i]
    rw [hr'] at ead
    rw [List.take_add_one,List.getElem?_eq_getElem hi,Option.toList_some,cnt_app,cnt_cons,cnt_nil,Nat.zero_add]
    walk_at "rd"
    refine ⟨_,items_t ead,_,atI_0,rfl,ite2 (fun d=>?_) (fun d=>?_)⟩
    · have d:=V.str.inj (of_decide_eq_true d)
      rw [if_pos d]; exact ⟨S'',by simp [h]⟩
    · have d : ¬ wordD rw'[i] = x:=fun z=>d (by rw [z]; exact decide_eq_true rfl)
      rw [if_neg d]; exact ⟨S'',by simp [h]⟩
  · rw [lr,List.take_length] at h
    exact hR p5 us H6 (S5.trans S6) e6 h
 refine ⟨by decide,NewO.mk fun pw HD SD nD eD=>?_⟩
 obtain ⟨Pz,hPz⟩ : ∃ Pz : Nat → St → Hp → Prop,∀ i σ H',Pz i σ H' ↔ Same HD H' ∧ ∃ o4 o5 : Option V,σ = [some (V.ref pr),some (V.int k),some v,some (V.ref pl),o4,o5]:=⟨_,fun _ _ _=>Iff.rfl⟩
 refine WalkL.for eD Pz ((hPz _ _ _).mpr ⟨Same.refl _,_,_,rfl⟩) (fun i σ H' _ h=>((hPz _ _ _).mp h).1 _ _ eD) ?_ ?_
 · intro i y σ H' ey h
   obtain ⟨U1,o4,o5,rfl⟩:=(hPz _ _ _).mp h
   have hy : ∃ x,y = .str x ∧ (x = Str.ofString "take" ∨ x = Str.ofString "join" ∨ x = Str.ofString "put" ∨ x = Str.ofString "fetch"):=by
    have hi : i < 4:=by have:=(List.getElem?_eq_some_iff.mp ey).1; simpa using this
    rcases (show i = 0 ∨ i = 1 ∨ i = 2 ∨ i = 3 by (clear hd hlv hk2 hk hl er nf hlog nA' eA' rlen nD eD ey; lia)) with rfl | rfl | rfl | rfl
    · cases ey; exact ⟨_,rfl,.inl rfl⟩
    · cases ey; exact ⟨_,rfl,.inr (.inl rfl)⟩
    · cases ey; exact ⟨_,rfl,.inr (.inr (.inl rfl))⟩
    · cases ey; exact ⟨_,rfl,.inr (.inr (.inr rfl))⟩
   obtain ⟨x,rfl,hx⟩:=hy
   have SDU:=SD.trans U1
   have SAU:=SA.trans SDU
   walk_at "rd"
   refine one pr rs row x _ _ _ _ _ H' _ (SAU _ _ er) (dr.same SAU) (by omega) fun p5 us H5' S5' e5' hus=>⟨p5,rfl,_,items_l e5',?_⟩
   refine one pl ls least x _ _ _ _ _ H5' _ (S5' _ _ (SDU _ _ eA')) ((DA'.same SDU).same S5') (by (clear er nf hlog nA' eA' e5' hus nD eD hx ey hk2 hk hd hl; lia)) fun p6 us6 H6' S6' e6' hus6=>?_
   refine ⟨p6,rfl,_,items_l e6',?_⟩
   have:=ge x hx
   rw [decide_eq_false (by (clear hd hlv hk2 hk hl er nf hlog nA' eA' rlen nD eD hx ey e5' e6'; lia))]
   exact iteF ((hPz _ _ _).mpr ⟨(U1.trans S5').trans S6',_,_,rfl⟩)
 intro σ H' h
 obtain ⟨U1,o4,o5,rfl⟩:=(hPz _ _ _).mp h
 walk_at "rd"
 exact q _ ((SA.trans SD).trans U1)
noncomputable def spMatchL : Sp:=fun vs H Q _=>∃ (t : L2.Tree) (k m0 : Nat) (row : List L2.Deed) (cs : List (List Nat × M.Use)) (U : List M.Use) (pF pr pH pk : Addr) (fs rs hs us : List V),vs = [.ref pF,.ref pr,.ref pH,.ref pk] ∧ t.lv.length ≤ 32 ∧ row.length ≤ 5000 ∧ (∀ d ∈ row,d.ok k m0) ∧ H pF = some (.lst fs) ∧ Dts H (cs.reverse.map dMat) fs ∧ H pr = some (.lst rs) ∧ Dts H (row.map dDeed) rs ∧
 H pH = some (.lst hs) ∧ Dts H (((moms t (new2 k m0) row).take row.length).map fun s=>D.lst (s.1.map dO)) hs ∧ H pk = some (.lst us) ∧ Dts H ((mustP t k).map dP) us ∧ M.greedy (mustP t k).reverse (usedL row (moms t (new2 k m0) row) row.length) = some (cs,U) ∧ ∀ H',Same H H' → Q (.bl true) H'
seal PSs PS PE PT PA PI PIfs in
theorem ok_matchL (T : Txt K mg) : FnOk P w K mg base CX0 2 T.f__law_matched T.d__law_matched ["found","row","held","knots"] spMatchL:=by
 refine T.F__law_matched.ok (k:=1) sc__law_matched (fun vs H Q E h=>?_) (fun cdv A outer s H vs Q E hr h=>?_)
 · obtain ⟨t,k,m0,row,cs,U,pF,pr,pH,pk,fs,rs,hs,us,rfl,_⟩:=h
   rfl
 obtain ⟨t,k,m0,row,cs,U,pF,pr,pH,pk,fs,rs,hs,us,rfl,hlv,hlr,hrow,e9,D9,er,dr,eh,dh,ek,dk,hgr,q⟩:=h
 have nd:=sc__law_matched.nd
 have G__law_used:=ok_usedL (P:=P) (w:=w) (base:=base) T
 refine ⟨_,(pss_cons (ps_if (PW.pt (pw_or (pt_not (pt_val (pe_callB call_isi rfl T.z_isinstance bt_isinstance (pa_cons (pv 0) (pa_cons (pe_bltn (v:=.ty "list") rfl T.z_list bt_list rfl) pa_nil))))) (pw_or1 (pt_cmpR (op_neD hr) (pe_comp (N:=["one"]) (caps:=[]) rfl ⟨rfl,rfl,rfl,rfl,by decide +kernel,rfl,rfl,rfl,rfl⟩ (piL (pv 0)) (fun _ _ _ _=>pif_nil) (fun _ _ _ _=>(pe_ix ixF (pv 0) pe_int (fun _ _=>rfl)))) (pv 3) (nomark _))))) (pss_one (ps_ret pe_bl)) pss_nil)
  (pss_cons (ps_let (i:=4) nd rfl (Or.inl rfl) (pe_lst pa_nil))
  (pss_cons (ps_for PassesOwn.never rfl (piL (pv 0)) (pg_name (i:=5) nd rfl (Or.inl rfl)) (pss_cons (ps_if (PW.pt (pw_or (pt_not (pt_val (pe_callB call_isi rfl T.z_isinstance bt_isinstance (pa_cons (pv 5) (pa_cons (pe_bltn (v:=.ty "tuple") rfl T.z_tuple bt_tuple rfl) pa_nil))))) (pw_or (pt_cmpR op_ne (pe_callB lenG rfl T.z_len bt_len (pa_cons (pv 5) pa_nil)) pe_int (nomark _)) (pw_or (pt_val (pe_callB call_isi rfl T.z_isinstance bt_isinstance (pa_cons (pe_ix ixF (pv 5) pe_int (fun _ _=>rfl)) (pa_cons (pe_bltn (v:=.ty "bool") rfl T.z_bool bt_bool rfl) pa_nil)))) (pw_or1 (pt_val (pe_callB call_isi rfl T.z_isinstance bt_isinstance (pa_cons (pe_ix ixF (pv 5) pe_int (fun _ _=>rfl)) (pa_cons (pe_bltn (v:=.ty "bool") rfl T.z_bool bt_bool rfl) pa_nil))))))))) (pss_one (ps_ret pe_bl)) pss_nil)
    (pss_cons (ps_asg (pv 5) (pg_tup rfl (pgs_cons (pg_name (i:=6) nd rfl (Or.inl rfl)) (pgs_cons (pg_name (i:=7) nd rfl (Or.inl rfl)) (pgs_cons (pg_name (i:=8) nd rfl (Or.inl rfl)) pgs_nil)))))
    (pss_cons (ps_if (PW.pt (pw_or (pt_cmpR (op_inD hr) (pv 7) (pv 4) (by with_unfolding_all rfl)) (pw_or (pt_not (pt_chain3 op_le op_lt op_lt pe_int (pv 7) (pv 8) (pe_callB lenG rfl T.z_len bt_len (pa_cons (pv 1) pa_nil)))) (pw_or (pt_cmpR op_ne (pe_ix ixF (pe_ix ixF (pv 1) (pv 7) (fun _ _=>rfl)) pe_int (fun _ _=>rfl)) pe_str (nomark _)) (pw_or1 (pt_not (pt_val (pe_call G__law_used hr rfl T.m__law_used T.F__law_used.kp T.b__law_used .nil pass0 (pa_cons (pv 1) (pa_cons (pv 7) (pa_cons (pv 8) pa_nil))))))))))) (pss_one (ps_ret pe_bl)) pss_nil)
    (pss_cons (ps_expr (pe_bm PySem.F.plainAttrs_list PySem.F.slot_list_append PySem.F.type_list_append mt_append (pv 4) (pa_cons (pv 7) pa_nil)))
    (pss_cons (ps_let (i:=9) nd rfl (Or.inl rfl) (pe_ix ixF (pe_ix ixF (pv 2) (pv 7) (fun _ _=>rfl)) (pe_ix ixF (pe_ix ixF (pv 1) (pv 7) (fun _ _=>rfl)) pe_int (fun _ _=>rfl)) (fun _ _=>rfl)))
    (pss_one (ps_if (PW.pt (pw_or (pt_cmp (pc_isN (pv 9))) (pw_or (pt_cmpR op_le (pe_callB lenG rfl T.z_len bt_len (pa_cons (pv 9) pa_nil)) (pe_callB lenG rfl T.z_len bt_len (pa_cons (pv 6) pa_nil)) (nomark _)) (pw_or1 (pt_cmpR (op_neD hr) (pe_slice sl_tupU (pv 9) po_none (po_some (pe_callB lenG rfl T.z_len bt_len (pa_cons (pv 6) pa_nil)))) (pv 6) (nomark _)))))) (pss_one (ps_ret pe_bl)) pss_nil))))))))
  (pss_one (ps_ret pe_bl))))),?_⟩
 refine cut2 fun B hB=>?_
 walk_at "rd"
 obtain ⟨f1,f2,f3⟩:=chosen_facts hgr
 have lf : fs.length = cs.reverse.length:=by have:=D9.length; rw [List.length_map] at this; exact this
 have lrs : rs.length = row.length:=by have:=dr.length; rw [List.length_map] at this; exact this
 have lcs : cs.reverse.length ≤ 5000:=by
  have h1:=congrArg List.length f1
  have h2:=M.pl_len_le t
  have h3:=List.length_filter_le (atQ t k) t.pl
  rw [mustP_pl] at h3
  rw [List.length_map] at h1
  (clear eh ek hgr hB e9 er f1 lf lrs; lia)
 refine ⟨_,_,⟨rfl,rfl⟩,"list",.lst e9,by decide,?_⟩
 rw [show isiB "list" "list" = true by decide]
 refine iteF (WalkL.comp e9 (fun i us H'=>us.length ≤ i ∧ Dts H' (((cs.reverse.take i).map (·.1)).map dP) us) ⟨Nat.zero_le _,.nil⟩ (by (clear hlv hlr e9 er eh ek hgr hB f1 lrs; lia)) (fun i us H' h=>h.1) (fun i x us H' ex S' h=>?_) (fun pm us2 HA HB SA SB h nB eB=>?_))
 · have hi : i < cs.reverse.length:=by have:=(List.getElem?_eq_some_iff.mp ex).1; (clear hlv hlr e9 er eh ek hgr hB lrs lcs ex h f1; lia)
   obtain ⟨v',hv',dv'⟩:=Dts.map_of (D9.same S') (List.getElem?_eq_getElem hi)
   rw [ex] at hv'; cases hv'
   obtain ⟨b,vp,rfl,eb,h1⟩:=mat_of dv'
   walk_at "rd"
   refine ⟨_,items_t eb,_,atI_0,S',by simp; (clear hlv hlr e9 er eh ek hgr hB f1 lf lrs lcs ex eb; lia),?_⟩
   rw [List.take_add_one,List.getElem?_eq_getElem hi,Option.toList_some,List.map_append,List.map_append]
   exact h.2.append (.one h1)
 rw [lf,List.take_length,f1] at h
 have S9B:=SA.trans SB
 refine ⟨_,Dt.lst eB (h.2.same SB),_,Dt.lst (S9B _ _ ek) (dk.same S9B),places_dp _,?_⟩
 rw [D.eq_refl]
 refine iteF ⟨Nat.zero_le _,NewO.mk fun pS K1 Q1 n1 g1=>?_⟩
 have Z0 : Same HB (wo pS K1):=fun c o e=>by rw [wo_of (ne_of_none e n1)]; exact Q1 _ _ e
 have Z1:=S9B.trans Z0
 have eF:=Z1 _ _ e9
 have DF:=D9.same Z1
 have erZ:=Z1 _ _ er
 have drZ:=dr.same Z1
 have ehZ:=Z1 _ _ eh
 have dhZ:=dh.same Z1
 have eFK:=wo_in _ _ eF
 have ZK : Same (wo pS K1) K1:=wo_in
 have ZS : wo pS K1 pS = none:=if_pos rfl
 generalize wo pS K1 = Z at *
 rw [hB]
 clear hB B
 walk_at "rd"
 obtain ⟨Pz,hPz⟩ : ∃ Pz : Nat → St → Hp → Prop,∀ i σ H'',Pz i σ H'' ↔ Same Z H'' ∧ H'' pS = some (.lst (((cs.reverse.take i).map fun c=>(c.2.2.1 : Int)).map V.int)) ∧ ∃ o5 o6 o7 o8 o9 : Option V,σ = [some (V.ref pF),some (V.ref pr),some (V.ref pH),some (V.ref pk),some (.ref pS),o5,o6,o7,o8,o9]:=⟨_,fun _ _ _=>Iff.rfl⟩
 refine WalkL.for eFK Pz ((hPz _ _ _).mpr ⟨ZK,g1,none,none,none,none,none,rfl⟩) (fun i σ H' _ h=>((hPz _ _ _).mp h).1 _ _ eF) ?_ ?_
 · intro i y σ H'' ey h
   obtain ⟨Y1,eS,o5,o6,o7,o8,o9,rfl⟩:=(hPz _ _ _).mp h
   have hi : i < cs.reverse.length:=by have:=(List.getElem?_eq_some_iff.mp ey).1; (clear hlv hlr e9 er eh ek eB n1 g1 eFK eF erZ lrs lcs nB ehZ ZS ey hgr f1 eS; lia)
   have ec : cs.reverse[i]? = some cs.reverse[i]:=List.getElem?_eq_getElem hi
   obtain ⟨y0,hy0,dy0⟩:=Dts.map_of (DF.same Y1) ec
   rw [ey] at hy0
   cases hy0
   obtain ⟨c1,bx,sx,c2,c3,c4⟩:=f3 _ (List.getElem_mem hi)
   have hni : ((cs.reverse[i].2.2.1 : Nat) : Int) ∉ (cs.reverse.take i).map fun c=>(c.2.2.1 : Int):=fun z=>by
    obtain ⟨c',h1,h2⟩:=List.mem_map.mp z
    rw [← List.take_append_drop i cs.reverse,List.map_append,List.drop_eq_getElem_cons hi,List.map_cons] at f2
    exact (List.nodup_append.mp f2).2.2 _ (List.mem_map.mpr ⟨c',h1,rfl⟩) _ List.mem_cons_self (by (clear hlv hlr e9 er eh ek hgr f1 lf lrs lcs nB eB n1 g1 eFK eF erZ ehZ ZS ey eS ec c1 c2 c3 c4; lia))
   have htk : (cs.reverse.take (i + 1)).map (fun c=>(c.2.2.1 : Int)) = (cs.reverse.take i).map (fun c=>(c.2.2.1 : Int)) ++ [((cs.reverse[i].2.2.1 : Nat) : Int)]:=by
    rw [List.take_add_one,ec,List.map_append]; rfl
   have lis : ((cs.reverse.take i).map fun c=>(c.2.2.1 : Int)).length ≤ 5000:=by rw [List.length_map,List.length_take]; (clear eFK eF erZ ehZ ZS ey eS ec c1 c2 c3 c4 hni htk hlv hlr e9 er eh ek hgr f1 eB n1 g1 lf lrs nB; lia)
   generalize ((cs.reverse.take i).map fun c=>(c.2.2.1 : Int)) = is at *
   generalize cs.reverse[i] = c at *
   obtain ⟨ba,vp,rfl,eba,dvp⟩:=mat_of dy0
   obtain ⟨kn,q0,n,m⟩:=c
   dsimp only at *
   obtain ⟨u1,u2,_,_⟩:=usesL_spec sx _ _ _ c4
   rw [List.length_drop] at u2
   have hm' : m < row.length:=by (clear hlv hlr e9 er eh ek hgr f1 lf lrs lcs nB eB n1 g1 eFK eF erZ ehZ ZS hi eS lis ey ec c1 c2 c3 c4 hni htk eba; omega)
   obtain ⟨pd,e7',epd⟩:=row_at (drZ.same Y1) c2
   simp only [vDeed] at epd
   have erY:=Y1 _ _ erZ
   rw [a_gName]
   refine cutC3 fun C hC=>?_
   walk_at "rd"
   refine ⟨_,_,⟨rfl,rfl⟩,"tuple",.tup eba,by decide,?_⟩
   rw [show isiB "tuple" "tuple" = true by decide]
   refine iteF ⟨_,items_t eba,?_⟩
   rw [show (decide (((([vp,V.int n,V.int m] : List V).length : Nat) : Int) = 3)) = true from rfl]
   refine iteF ⟨_,items_t eba,_,atI_1,_,_,⟨rfl,rfl⟩,"int",.int _,by decide,?_⟩
   rw [show isiB "int" "bool" = false by decide]
   refine iteF ⟨_,items_t eba,_,atI_2,_,_,⟨rfl,rfl⟩,"int",.int _,by decide,?_⟩
   rw [show isiB "int" "bool" = false by decide]
   refine iteF ⟨_,SqT.of eba,rfl,_,_,rfl,_,_,rfl,_,_,rfl,rfl,_,.inl eS,_,dts_int is,.int n,isD_int.mpr rfl,Nat.le_trans (dps_int _) (by decide),?_⟩
   rw [any_int,decide_eq_false hni]
   refine iteF ⟨_,rfl,?_⟩
   rw [decide_eq_true (show (0 : Int) ≤ n by (clear hlv hlr e9 er eh ek hgr f1 lf lrs lcs nB eB n1 g1 eFK eF erZ ehZ ZS hi eS lis ey ec c1 c2 c3 c4 hni htk eba u1 u2 hm' e7' epd erY hC; lia))]
   refine iteT ⟨_,rfl,_,rfl,?_⟩
   rw [decide_eq_true (show (n : Int) < m by (clear hlv hlr e9 er eh ek hgr f1 lf lrs lcs nB eB n1 g1 eFK eF erZ ehZ ZS hi eS lis ey ec c1 c2 c3 c4 hni e7' epd erY hC u2 hm' htk eba; lia))]
   refine iteT ⟨_,items_l erY,_,rfl,?_⟩
   rw [decide_eq_true (show (m : Int) < (rs.length : Nat) by (clear lcs nB eB n1 g1 eFK eF erZ ehZ ZS hi eS lis ey ec c1 c2 c3 c4 hni hlv hlr e9 er eh e7' epd erY hC ek hgr f1 eba u1 u2 lf htk; lia))]
   refine iteF ⟨_,_,rfl,items_l erY,_,atI_nat e7',pd,rfl,_,items_t epd,_,atI_0,rfl,?_⟩
   rw [w_yes]
   refine iteF ⟨pr,n,m,rs,row,bx,sx,rfl,erY,drZ.same Y1,by (clear hi eS lis ey ec c1 c2 c3 c4 hni htk eba u1 u2 hm' e7' epd erY hC lcs nB eB n1 g1 eFK eF erZ ehZ ZS ek hgr f1 lf lrs er eh e9 hlv; lia),c2,c4,fun K2 Q2=>⟨_,rfl,iteF ?_⟩⟩
   rw [hC]
   clear hC C
   have Y2:=Y1.trans Q2
   walk_at "rd"
   refine ⟨ty_lst (Q2 _ _ eS),_,Q2 _ _ eS,small_size (by rw [List.length_map]; (clear hlv hlr e9 er eh ek hgr f1 lf lrs lcs nB eB n1 g1 eFK eF erZ ehZ hni htk eba u1 u2 hm' e7' epd erY ec c1 c2 c3 c4 ZS hi eS ey; lia)),PutO.mk fun K3 k3 g3=>?_⟩
   have Y3 : Same Z K3:=fun c o e=>by rw [k3 c (ne_of_none e ZS)]; exact Y2 _ _ e
   have epd3 : K3 pd = _:=(k3 pd (ne_of (Q2 _ _ epd) (Q2 _ _ eS) (by intro z; cases z))).trans (Q2 _ _ epd)
   have hst2 : ((moms t (new2 k m0) row).take row.length)[n]? = some ((row.take n).foldl (M.mark t) (new2 k m0)):=by rw [List.getElem?_take,if_pos (by (clear hlv hlr e9 er eh ek hgr f1 lf lrs lcs nB eB n1 g1 eFK eF erZ ehZ ZS hi eS lis ey ec c1 c2 c3 c4 hni e7' epd erY g3 epd3 htk eba u2; lia)),moms_at t row _ n (by (clear hlv hlr e9 er eh ek hgr f1 lf lrs lcs nB eB n1 g1 eFK eF erZ ehZ ZS hi eS lis ey ec c1 c2 c3 c4 hni e7' epd erY g3 epd3 htk eba u2; lia))]
   obtain ⟨vh,hvh,dvh⟩:=Dts.map_of (dhZ.same Y3) hst2
   obtain ⟨ph2,xs2,rfl,eph,dxs⟩:=isD_lst.mp dvh
   have lst:=(M.fold_len (T:=t) (row.take n) (new2 k m0)).1
   have okb:=(hrow _ (List.mem_of_getElem? c2)).1 bx (by simp [M.Deed.bn])
   obtain ⟨yb,hyb,dyb⟩:=getD_at dxs (i:=bx) (by rw [List.length_map,lst]; simpa [new2] using okb)
   rw [show D.non = dO none from rfl,getD_map,c3] at dyb
   obtain ⟨x5,rfl,ex5⟩:=dP_of dyb
   have dvp3 : Dt K3 (dP kn) vp:=(dvp.same Q2).of_put (Q2 _ _ eS) k3 (dP_nl _)
   obtain ⟨x6,rfl,ex6⟩:=dP_of dvp3
   obtain ⟨i1,i2⟩:=M.inner_iff.mp c1
   have lv : ∀ l : List Nat,(vP l).length = l.length:=fun l=>by unfold vP; simp
   refine ⟨_,items_l (Y3 _ _ ehZ),_,atI_nat hvh,_,items_l (Y3 _ _ erZ),_,atI_nat e7',pd,rfl,_,items_t epd3,_,atI_1,ph2,rfl,_,_,rfl,items_l eph,_,hyb,iteF ⟨x5,rfl,_,items_t ex5,x6,rfl,_,items_t ex6,?_⟩⟩
   rw [decide_eq_false (by rw [lv,lv]; (clear hlv hlr e9 er eh ek hgr f1 lf lrs lcs nB eB n1 g1 eFK eF erZ ehZ ZS hi eS lis ey ec c1 c2 c3 c4 hni htk u1 u2 hm' e7' epd erY g3 epd3 hst2 hvh eph lst ex5 hyb ex6 eba; lia))]
   obtain ⟨cu1,cu2⟩:=cutP q0 kn.length (by (clear hlv hlr e9 er eh ek hgr f1 lf lrs lcs nB eB n1 g1 eFK eF erZ ehZ ZS hi eS lis ey ec c1 c2 c3 c4 hni htk u1 u2 hm' e7' epd erY g3 epd3 hst2 hvh eph lst ex5 hyb ex6 eba; lia))
   refine iteF ⟨x6,rfl,_,items_t ex6,x5,rfl,_,ex5,fun hw=>?_,fun hw=>?_⟩
   · rw [lv kn] at hw
     have:=hw.2
     rw [cu2,lv] at this
     (clear hlv hlr e9 er eh ek hgr f1 lf lrs lcs nB eB n1 g1 eFK eF erZ ehZ ZS hi eS lis ey ec c1 c2 c3 c4 hni htk u1 u2 hm' e7' epd erY g3 epd3 hst2 hvh eph lst ex5 hyb ex6 cu1 cu2 eba hw; lia)
   · rw [lv kn,cu1]
     refine NewO.mk fun p9 K4 S9' n9' e9'=>⟨dO (some (q0.take kn.length)),dP_mk e9',dO (some kn),dvp3.same S9',by have:=dO_dp (some (q0.take kn.length)); (clear hlv hlr e9 er eh ek hgr f1 lf lrs lcs nB eB n1 g1 eFK eF erZ ehZ ZS hi eS lis ey ec c1 c2 c3 c4 hni htk u1 u2 hm' e7' epd erY g3 epd3 hst2 hvh eph lst ex5 hyb ex6 eba i2 cu1 cu2 hw n9' e9'; lia),?_⟩
     rw [dO_eq,← inner_take i2,c1]
     refine iteF ((hPz _ _ _).mpr ⟨Y3.trans S9',?_,_,_,_,_,_,rfl⟩)
     rw [htk,List.map_append]
     exact S9' _ _ g3
 · intro σ H'' h
   obtain ⟨Y1,eS,o5,o6,o7,o8,o9,rfl⟩:=(hPz _ _ _).mp h
   walk_at "rd"
   exact q _ (Z1.trans Y1)
noncomputable def spLaw (K : PySem.W.Frag) : Sp:=fun vs H Q _=>∃ (a : Addr) (ns : List Int),vs = [.ref a] ∧ SqL K H a (ns.map V.int) ∧ ns.length ≤ 63 ∧ ∀ H',Q (.bl true) H'
seal PSs PS PE PT PA PI PIfs in
theorem ok_law (T : Txt K mg) : FnOk P w K mg base (CXE P w) 60 T.f_law T.d_law ["script"] (spLaw K):=by
 refine T.F_law.okE (k:=59) sc_law (fun vs H Q E h=>?_) (fun cdv A outer s H vs Q E hr h L=>?_)
 · obtain ⟨a,ns,rfl,_⟩:=h
   rfl
 obtain ⟨a,ns,rfl,hS,h63,q⟩:=h
 have nd:=sc_law.nd
 have G__law_at:=(ok_at (P:=P) (w:=w) (base:=base) T).mono (k:=59) (by omega)
 have G__law_any:=(ok_any (P:=P) (w:=w) (base:=base) T).mono (k:=59) (by omega)
 have G__law_deed:=(ok_deed (P:=P) (w:=w) (base:=base) T).mono (k:=59) (by omega)
 have G__law_wasted:=(ok_waste (P:=P) (w:=w) (base:=base) T 24).mono (k:=59) (by omega)
 have G__law_ranks:=(ok_ranks (P:=P) (w:=w) (base:=base) T 24).mono (k:=59) (by omega)
 have G__law_knots:=(ok_knots (P:=P) (w:=w) (base:=base) T 24).mono (k:=59) (by omega)
 have G__law_marked:=(ok_lmark (P:=P) (w:=w) (base:=base) T).mono (k:=59) (by omega)
 have G__law_matched:=(ok_matchL (P:=P) (w:=w) (base:=base) T).mono (k:=59) (by omega)
 have G__law_counted:=(ok_counted (P:=P) (w:=w) (base:=base) T).mono (k:=59) (by omega)
 have G_matched:=(ok_match (P:=P) (w:=w) (base:=base) T).mono (k:=59) (by omega)
 refine ⟨_,(pss_cons (ps_asg (pe_call G__law_any hr rfl T.m__law_any T.F__law_any.kp T.b__law_any .nil pass0 (pa_cons (pv 0) pa_nil)) (pg_tup rfl (pgs_cons (pg_name (i:=1) nd rfl (Or.inl rfl)) (pgs_cons (pg_name (i:=2) nd rfl (Or.inr rfl)) (pgs_cons (pg_name (i:=3) nd rfl (Or.inr rfl)) pgs_nil)))))
  (pss_cons (ps_let (i:=4) nd rfl (Or.inr rfl) (pe_op op_add pe_int (pe_op op_mod (pe_call G__law_at hr rfl T.m__law_at T.F__law_at.kp T.b__law_at .nil pass0 (pa_cons (pv 0) (pa_cons pe_int pa_nil))) pe_int)))
  (pss_cons (ps_letC (i:=5) (N:=["n","script","deeds","k","names"]) (caps:=[0,3,4,2]) rfl ⟨rfl,rfl,rfl,rfl,by decide +kernel,rfl,rfl,rfl,rfl⟩ (pi_range2 rfl T.z_range (pa_cons pe_int (pa_cons (pe_callB (call_min2 rfl) rfl T.z_min bt_min (pa_cons pe_int (pa_cons (pe_callB call_len_seq rfl T.z_len bt_len (pa_cons (pv 0) pa_nil)) pa_nil))) pa_nil))) (fun _ _ _ _=>pif_nil) (fun _ _ _ _=>(pe_call G__law_deed hr rfl T.m__law_deed T.F__law_deed.kp T.b__law_deed .nil pass0 (pa_cons (pv 1) (pa_cons (pv 0) (pa_cons (pe_op op_cat (pv 4) (pe_lst (pa_cons pe_str pa_nil))) (pa_cons (pv 2) (pa_cons (pv 3) (pa_cons pe_int pa_nil)))))))) nd rfl rfl rfl)
  (pss_cons (ps_if (pt_cmpR op_eq (pe_op op_mod (pe_call G__law_at hr rfl T.m__law_at T.F__law_at.kp T.b__law_at .nil pass0 (pa_cons (pv 0) (pa_cons pe_int pa_nil))) pe_int) pe_int (nomark _)) (pss_cons (ps_letC (i:=6) (N:=["n","k","script"]) (caps:=[4,0]) rfl ⟨rfl,rfl,rfl,rfl,by decide +kernel,rfl,rfl,rfl,rfl⟩ (pi_range1 rfl T.z_range (pa_cons (pv 4) pa_nil)) (fun _ _ _ _=>pif_nil) (fun _ _ _ _=>(pe_op op_mod (pe_op op_add (pv 0) (pe_op op_fdiv (pe_call G__law_at hr rfl T.m__law_at T.F__law_at.kp T.b__law_at .nil pass0 (pa_cons (pv 2) (pa_cons pe_int pa_nil))) pe_int)) (pv 1))) nd rfl rfl rfl)
    (pss_one (ps_let (i:=5) nd rfl (Or.inl rfl) (pe_op op_cat (pv 5) (pe_call G__law_wasted hr rfl T.m__law_wasted T.F__law_wasted.kp T.b__law_wasted .nil pass0 (pa_cons (pv 0) (pa_cons (pe_lst (pa_cons (pe_op op_mod (pe_op op_fdiv (pe_call G__law_at hr rfl T.m__law_at T.F__law_at.kp T.b__law_at .nil pass0 (pa_cons (pv 0) (pa_cons pe_int pa_nil))) pe_int) pe_int) (pa_cons pe_int (pa_cons pe_int (pa_cons pe_int pa_nil))))) (pa_cons (pv 1) (pa_cons (pv 6) pa_nil))))))))) pss_nil)
  (pss_cons (ps_let (i:=7) nd rfl (Or.inl rfl) (pe_call G__law_knots hr rfl T.m__law_knots T.F__law_knots.kp T.b__law_knots .nil pass0 (pa_cons (pv 1) (pa_cons (pe_tup pa_nil) pa_nil))))
  (pss_cons (ps_par (i:=6) (j:=8) rfl nd rfl rfl (by decide) rfl rfl (pa_cons (pe_op op_rep (pe_lst (pa_cons pe_non pa_nil)) (pv 4)) (pa_cons (pe_op op_rep (pe_lst (pa_cons pe_non pa_nil)) pe_int) pa_nil)) rfl)
  (pss_cons (ps_let (i:=9) nd rfl (Or.inl rfl) (pe_lst pa_nil))
  (pss_cons (ps_for PassesOwn.leaving rfl (piL (pv 5)) (pg_name (i:=10) nd rfl (Or.inl rfl)) (pss_cons (ps_expr (pe_bm PySem.F.plainAttrs_list PySem.F.slot_list_append PySem.F.type_list_append mt_append (pv 9) (pa_cons (pv 6) pa_nil)))
    (pss_one (ps_asg (pe_call G__law_marked hr rfl T.m__law_marked T.F__law_marked.kp T.b__law_marked .nil pass0 (pa_cons (pv 7) (pa_cons (pv 10) (pa_cons (pv 6) (pa_cons (pv 8) pa_nil))))) (pg_tup rfl (pgs_cons (pg_name (i:=6) nd rfl (Or.inl rfl)) (pgs_cons (pg_name (i:=8) nd rfl (Or.inl rfl)) pgs_nil)))))))
  (pss_cons (ps_let (i:=11) nd rfl (Or.inl rfl) pe_non)
  (pss_cons (ps_let (i:=12) nd rfl (Or.inl rfl) pe_bl)
  (pss_cons (ps_tryE (J:=fun σ0 σ1=>σ1 = σ0) rfl rfl rfl T.m_NotHeld T.x_NotHeld (fun _ _ _=>(pss_one (ps_let (i:=11) nd rfl (Or.inl rfl) (pe_callJ G_matched hr rfl T.m_matched T.F_matched.kp T.b_matched .nil passJ (pa_cons (pv 1) (pa_cons (pv 4) (pa_cons pe_int (pa_cons (pe_callTy call_listF rfl T.z_list bt_list (pa_cons (pv 5) pa_nil)) pa_nil)))))))) (fun _=>(pss_one (ps_let (i:=12) nd rfl (Or.inl rfl) pe_bl))))
  (pss_cons (ps_if (PW.pt (pw_or (pt_val (pv 12)) (pw_or1 (pt_cmpR (op_notinD hr) (pe_tup pa_nil) (pv 6) (by with_unfolding_all rfl))))) (pss_one (ps_ret (pe_and (pv 12) (pe_one (pe_cmpR (op_notinD hr) (pe_tup pa_nil) (pv 6) (by with_unfolding_all rfl)))))) pss_nil)
  (pss_cons (ps_letC (i:=13) (N:=["one","k"]) (caps:=[4]) rfl ⟨rfl,rfl,rfl,rfl,by decide +kernel,rfl,rfl,rfl,rfl⟩ (piL (pe_call G__law_ranks hr rfl T.m__law_ranks T.F__law_ranks.kp T.b__law_ranks .nil pass0 (pa_cons (pv 1) (pa_cons (pe_tup pa_nil) pa_nil)))) (fun _ _ _ _=>pif_one (PW.pt (pw_and (pt_val (pe_ix ixF (pv 0) pe_int (fun _ _=>rfl))) (pw_and1 (pt_cmpR op_ge (pe_ix ixF (pv 0) pe_int (fun _ _=>rfl)) (pv 1) (nomark _)))))) (fun _ _ _ _=>(pe_ix ixF (pv 0) pe_int (fun _ _=>rfl))) nd rfl rfl rfl)
  (pss_one (ps_ret (pe_and (pe_call G__law_counted hr rfl T.m__law_counted T.F__law_counted.kp T.b__law_counted .nil (passE L) (pa_cons (pv 5) (pa_cons (pv 4) (pa_cons (pv 1) pa_nil)))) (pe_one (pe_call G__law_matched hr rfl T.m__law_matched T.F__law_matched.kp T.b__law_matched .nil pass0 (pa_cons (pv 11) (pa_cons (pv 5) (pa_cons (pv 9) (pa_cons (pv 13) pa_nil)))))))))))))))))))))),?_⟩
 refine cutC3 fun C hC=>?_
 walk_at "rd"
 refine ⟨a,ns,rfl,hS,h63,fun t v pA pn pD names deeds H2 S2 eA ht hlen hnd en hn1 hn2 eD hdl=>?_⟩
 have hd : t.dp ≤ 24:=by have:=t.dp_le; (clear h63 hC eA hn2 eD hdl en hn1; lia)
 refine ⟨pA,rfl,_,.of eA,rfl,_,_,rfl,_,_,rfl,_,_,rfl,rfl,?_⟩
 have hS2:=S2.seq hS
 refine ⟨a,ns,4,rfl,hS2,h63,by omega,by omega,?_⟩
 generalize lawAt ns (4 : Int).toNat = cK
 refine ⟨_,rfl,by decide,?_⟩
 obtain ⟨k,hk⟩ : ∃ k : Nat,(2 + cK % 5 : Int) = k:=⟨(2 + cK % 5).toNat,by (clear h63 hC eA hlen en hn1 hn2 eD hdl hd; lia)⟩
 rw [hk]
 have hk1 : 2 ≤ k:=by (clear h63 hC eA hlen en hn1 hn2 eD hdl hd; lia)
 have hk2 : k ≤ 6:=by (clear h63 hC eA hlen en hn1 hn2 eD hdl hk1 hd; lia)
 clear hk
 refine ⟨_,.inl hS2,_,_,⟨rfl,rfl⟩,_,_,⟨rfl,rfl⟩,⟨by decide,by decide,by split <;> lia,by rw [List.length_map]; split <;> (clear hn2 eD hdl hd hk1 hk2 h63 hC eA hlen en hn1; omega)⟩,?_⟩
 generalize hnn2 : ((if ((ns.map V.int).length : Int) < 63 then ((ns.map V.int).length : Int) else 63) - 6).toNat = rl
 have hrl : rl ≤ 57:=by rw [← hnn2,List.length_map]; split <;> (clear eD hdl hd hk1 hk2 hnn2 h63 hC eA hlen en hn1 hn2; omega)
 refine compR (fun i ys H'=>∃ row : List L2.Deed,row.length = i ∧ Dts H' (row.map dDeed) ys ∧ ∀ d ∈ row,d.ok k (60 : Nat)) ⟨[],rfl,.nil,by simp⟩ (by (clear h63 hC eA hlen en hn1 hn2 eD hdl hd hk1 hk2 hnn2; lia)) (fun i ys H' h=>?_) (fun i ys H' hi S' h=>?_) (fun pr rs H5 H6 S5 S6 h n6 e6=>?_)
 · obtain ⟨row,h1,h2,_⟩:=h
   have:=h2.length
   rw [List.length_map] at this; (clear h63 hC eA hlen en hn1 hn2 eD hdl hd hk1 hk2 hnn2 hrl; lia)
 · obtain ⟨row,h1,h2,h3⟩:=h
   walk_at "rd"
   refine ⟨by decide,NewO.mk fun pm H4 S4 n4 e4=>⟨pm,rfl,_,S4 _ _ (S' _ _ en),_,e4,small_le (by simp; (clear hd hk1 hk2 hnn2 hrl hi h1 n4 e4 h63 hC eA hlen en hdl eD hn1; lia)),NewO.mk fun pN H5 S5 n5 e5=>?_⟩⟩
   have S25:=(S'.trans S4).trans S5
   have e5 : H5 pN = some (.lst ((names ++ [Str.ofString "abcdefgh"]).map V.str)):=by rw [e5,List.map_append]; rfl
   refine ⟨a,pN,pD,ns,_,k,8,names ++ [Str.ofString "abcdefgh"],_,rfl,S25.seq hS2,h63,by (clear h63 hC eA hlen en hn1 hn2 eD hdl hd hk1 hk2 hnn2 hrl hi h1 n4 e4 n5 e5; lia),by (clear h63 hC eA hlen en hn1 hn2 eD hdl hd h1 n4 e4 n5 e5 hk1 hk2 hnn2; lia),e5,by simp,by simp; (clear hk1 hk2 hnn2 hrl hi h1 n4 e4 n5 e5 h63 hC eA hlen en hdl hd eD hn1; lia),S25 _ _ eD,hdl,by (clear h63 hC eA hlen en hn1 hn2 eD hdl hd h1 n4 e4 n5 e5 hrl hi hnn2 hk2; lia),by (clear h63 hC eA hlen en hn1 hn2 eD hdl hd h1 n4 e4 n5 e5 hrl hi hnn2 hk1; lia),by (clear h63 hC eA hlen en hn1 hn2 eD hdl hd hk1 hk2 hnn2 hrl hi h1 n4 e4 n5 e5; omega),by (clear h63 hC eA hlen en hn1 hn2 eD hdl hd hk1 hk2 hnn2 hrl hi h1 n4 e4 n5 e5; omega),fun d vd HF SF dd okd=>⟨S25.trans SF,row ++ [d],by simp [h1],?_,?_⟩⟩
   · rw [List.map_append]; exact (h2.same ((S4.trans S5).trans SF)).append (.one dd)
   · intro e he
     rcases List.mem_append.mp he with he | he
     · exact h3 e he
     · rw [List.mem_singleton.mp he]; exact ok_mono (m:=8) (okd_ok okd) (by (clear h63 hC eA hlen en hn1 hn2 eD hdl hd hk1 hk2 hnn2 hrl hi h1 n4 e4 n5 e5; omega))
 obtain ⟨row,hrow,dr,okr⟩:=h
 have dr:=dr.same S6
 have S26:=S5.trans S6
 have hrow6 : row.length ≤ 57:=by (clear h63 hC eA hlen en hn1 hn2 eD hdl hd hk1 hk2 n6 e6 hnn2; lia)
 clear S5 n6 hrow hnn2
 rw [hC]
 clear hC C
 refine cutC1 fun C hC=>?_
 have tail : ∀ (pr : Addr) (rs : List V) (row : List L2.Deed) (H7 : Hp) (o6 : Option V),Same H2 H7 → H7 pr = some (.lst rs) → Dts H7 (row.map dDeed) rs → (∀ d ∈ row,d.ok k (60 : Nat)) → row.length ≤ 2000 →
  C [some (V.ref a),some v,some (V.ref pn),some (V.ref pD),some (V.int k),some (.ref pr),o6,none,none,none,none,none,none,none] H7:=by
  intro pr rs row H7 o6 S27 er dr hrow hlr
  rw [hC]
  clear hC C
  refine cutC3 fun C hC=>?_
  walk_at "rd"
  refine ⟨Nat.zero_le _,NewO.mk fun pt HC SC nC eC=>?_⟩
  refine ⟨t,[],v,.ref pt,rfl,(ht.same S27).same SC,dP_mk eC,hd,by lia,by simp,fun pp ps L2 V2 u2 w2 DP=>?_⟩
  have rk : [V.non].length * (k : Int).toNat ≤ sizeLine:=small_le (by simp; (clear hrl e6 hrow6 er hlr hC nC eC u2 w2 h63 eA hlen en hn1 hn2 eD hdl hd hk1; lia))
  refine ⟨by decide,NewO.mk fun x1 J1 R1 m1 f1'=>⟨x1,rfl,_,f1',by (clear h63 eA hlen en hn1 hn2 eD hdl hd hk1 hk2 hrl e6 hrow6 er hlr hC nC eC u2 w2 rk m1 f1'; lia),by (clear e6 hrow6 er hlr hC nC eC u2 w2 rk m1 f1' h63 eA hlen en hn1 hn2 eD hdl hd hrl hk1; omega),rk,NewO.mk fun b0 J2 R2 m2 f2'=>⟨by decide,NewO.mk fun x3 J3 R3 m3 f3'=>⟨x3,rfl,_,f3',by decide,by decide,by decide,NewO.mk fun s0 J4 R4 m4 f4'=>?_⟩⟩⟩⟩
  rw [rep_flat] at f2' f4'
  rw [Int.toNat_natCast] at f2'
  refine ⟨_,_,⟨rfl,rfl⟩,Nat.zero_le _,NewO.mk fun pH J5 R5 m5 f5'=>?_⟩
  have R14:=R2.trans (R3.trans R4)
  have S7C:=(SC.trans V2).trans R1
  have lrs : rs.length = row.length:=by have:=dr.length; rw [List.length_map] at this; exact this
  have W0 : Same J4 (wo pH J5):=fun c o e=>by rw [wo_of (ne_of_none e m5)]; exact R5 _ _ e
  have X0 : Same H7 (wo pH J5):=(S7C.trans R14).trans W0
  have erJ:=wo_in _ _ (X0 _ _ er)
  have erW:=X0 _ _ er
  have drW:=dr.same X0
  have VW : Same L2 (wo pH J5):=(R1.trans R14).trans W0
  have ppW:=VW _ _ w2
  have DPW:=DP.same VW
  rw [hC]
  clear hC C
  refine cutC1 fun C hC=>?_
  walk_at "rd"
  obtain ⟨Pw,hPw⟩ : ∃ Pw : Nat → St → Hp → Prop,∀ i σ H',Pw i σ H' ↔ Same (wo pH J5) (wo pH H') ∧ (∃ (hs : List V) (b s : Addr) (ws us : List V) (st : MS),(moms t (new2 k 60) row)[i]? = some st ∧ H' pH = some (.lst hs) ∧ hs.length = i ∧ Dts (wo pH H') (((moms t (new2 k 60) row).take i).map fun s=>D.lst (s.1.map dO)) hs ∧ wo pH H' b = some (.lst ws) ∧ wo pH H' s = some (.lst us) ∧ Dts (wo pH H') (st.1.map dO) ws ∧ Dts (wo pH H') (st.2.map dO) us ∧
   ∃ o10 : Option V,σ = [some (V.ref a),some v,some (V.ref pn),some (V.ref pD),some (V.int k),some (V.ref pr),some (.ref b),some (V.ref pp),some (.ref s),some (.ref pH),o10,none,none,none]):=⟨_,fun _ _ _=>Iff.rfl⟩
  refine WalkL.for erJ Pw ((hPw _ _ _).mpr ⟨Same.refl _,[],b0,s0,_,_,new2 k 60,by cases row <;> rfl,f5',rfl,.nil,W0 _ _ ((R3.trans R4) _ _ f2'),W0 _ _ f4',?_,?_,none,rfl⟩) (fun i σ H' _ h=>wo_in _ _ (((hPw _ _ _).mp h).1 _ _ erW)) ?_ ?_
  · simp only [new2,List.map_replicate]; exact dts_rep _ _ (isD_non.mpr rfl) k
  · simp only [new2,List.map_replicate]; exact dts_rep _ _ (isD_non.mpr rfl) 60
  · intro i y σ H' ey h
    obtain ⟨U1,hs,b,s1,ws,us',st,hst,eh,lh,dh,eb,es,db,ds,o10,rfl⟩:=(hPw _ _ _).mp h
    have hi : i < row.length:=by have:=(List.getElem?_eq_some_iff.mp ey).1; (clear h63 eA hlen en hn1 hn2 eD hdl hd hk1 hk2 hrl e6 hrow6 er hlr nC eC u2 w2 rk m1 f1' m2 f2' m3 f3' m4 ppW hC ey hst eh lh f4' m5 f5' erW eb erJ es; lia)
    have e0 : row[i]? = some row[i]:=List.getElem?_eq_getElem hi
    generalize row[i] = d at e0
    obtain ⟨y0,hy0,dy0⟩:=Dts.map_of drW e0
    rw [ey] at hy0
    cases hy0
    walk_at "rd"
    refine ⟨ty_lst eh,_,eh,small_size (by (clear h63 eA hlen en hn1 hn2 eD hdl hd hk1 hk2 f1' m2 f2' m3 f3' m4 f4' m5 f5' lrs erJ eC u2 w2 rk m1 erW hrl e6 hrow6 ppW hC ey e0 nC hst eb es er eh; lia)),PutO.mk fun K1 k1 g1=>?_⟩
    have P1 : Same (wo pH H') (wo pH K1):=wo_put k1
    have P1' : Same (wo pH H') K1:=P1.trans wo_in
    have hst' : st.1.length = k ∧ st.2.length = 60:=by have:=momsS t row _ _ (List.mem_of_getElem? hst); simpa [new2] using this
    refine ⟨t,d,st,pp,ps,y,b,s1,ws,us',rfl,hnd,hd,by (clear m2 f2' m3 f3' m4 f4' m5 f5' lrs erJ erW ppW hC ey hst eh lh eb es hi e0 g1 hst' e6 hrow6 er hlr nC eC u2 w2 rk m1 f1' eD hdl hd hk1 hk2 hrl en hn1 hn2 h63 eA; lia),P1' _ _ (U1 _ _ ppW),(DPW.same U1).same P1',(dy0.same U1).same P1',P1' _ _ eb,P1' _ _ es,db.same P1',ds.same P1',by rw [hst'.1,hst'.2]; exact hrow d (List.mem_of_getElem? e0),?_⟩
    intro r1 r2 r3 xs zs K2 W2 g2 n2 n3 ne23 g3 g4 d3 d4
    have gH:=W2 _ _ g1
    have z2 : r2 ≠ pH:=fun z=>by rw [z,g1] at n2; cases n2
    have z3 : r3 ≠ pH:=fun z=>by rw [z,g1] at n3; cases n3
    have P2:=P1.trans (wo_same W2)
    have hn : (moms t (new2 k 60) row)[i + 1]? = some (M.mark t st d):=by
     have h1:=moms_at t row (new2 k 60) i (by (clear h63 eA hlen en hn1 hn2 eD hdl hd hk1 hk2 hrl e6 hrow6 er hlr nC eC u2 w2 rk m1 f1' m2 f2' m3 f3' m4 f4' m5 f5' lrs erJ erW ppW hC ey hst eh lh eb es ne23 g3 g4 gH z2 z3 g2 n2 n3 g1 hst' e0; lia))
     rw [hst] at h1
     cases h1
     rw [moms_at t row _ (i + 1) (by (clear h63 eA hlen en hn1 hn2 eD hdl hd hk1 hk2 hrl e6 hrow6 er hlr nC eC u2 w2 rk m1 f1' m2 f2' m3 f3' m4 e0 g1 g2 n2 n3 ne23 g3 g4 gH z2 z3 hst hst' f4' m5 f5' lrs erJ erW ppW hC ey eh lh eb es; lia)),List.take_add_one,e0,List.foldl_append]; rfl
    refine ⟨r1,rfl,_,SqT.of g2,rfl,_,_,rfl,_,_,rfl,rfl,(hPw _ _ _).mpr ⟨U1.trans P2,hs ++ [.ref b],r2,r3,xs,zs,M.mark t st d,hn,gH,by simp [lh],?_,by rw [wo_of z2]; exact g3,by rw [wo_of z3]; exact g4,d3.of_put gH (fun c hc=>wo_of hc) (nls_map _ dO_nl _),d4.of_put gH (fun c hc=>wo_of hc) (nls_map _ dO_nl _),_,rfl⟩⟩
    rw [List.take_add_one,hst,Option.toList_some,List.map_append]
    exact (dh.same P2).append (.one (Dt.lst (P2 _ _ eb) (db.same P2)))
  intro σ H' h
  obtain ⟨U1,hs,b,s1,ws,us',st,hst,eh,lh,dh,eb,es,db,ds,o10,rfl⟩:=(hPw _ _ _).mp h
  clear hPw
  rw [lrs] at lh dh hst
  have X1 : Same H7 H':=(X0.trans U1).trans wo_in
  have hst1:=moms_at t row (new2 k 60) row.length (Nat.le_refl _)
  rw [hst] at hst1
  have okR : okRow k 60 row:=hrow
  have ebK:=wo_in _ _ eb
  have dbK:=db.same wo_in
  have dhK:=dh.same wo_in
  rw [hC]
  clear hC C
  refine cutC2 fun C hC=>?_
  walk_at "rd"
  rw [hC]
  clear hC C
  refine cutC2 fun C hC=>?_
  walk_at "rd"
  refine ⟨_,items_l (X1 _ _ er),NewO.mk fun ph K1 Q1 n1 e1=>?_⟩
  refine ⟨t,k,60,row,v,ph,rs,rfl,((ht.same S27).same X1).same Q1,hd,by (clear m2 f2' m3 f3' m4 f4' m5 f5' lrs erJ erW ppW hst eh lh eb es hst1 ebK hC n1 e1 e6 hrow6 er hlr nC eC u2 w2 rk m1 f1' eD hdl hd hk1 hk2 hrl en hn1 hn2 h63 eA; lia),by (clear m2 f2' m3 f3' m4 f4' m5 f5' lrs erJ erW ppW hst eh lh eb es hst1 ebK hC n1 e1 e6 hrow6 er hlr nC eC u2 w2 rk m1 f1' h63 eA hlen en hn1 hn2 eD hdl hd hrl hk1; lia),by (clear h63 eA hlen en hn1 hn2 eD hdl hd hk1 hk2 hrl e6 hrow6 er hlr nC eC u2 w2 rk m1 f1' m2 f2' m3 f3' m4 f4' m5 f5' lrs erJ erW ppW hst eh lh eb es hst1 ebK hC n1 e1; omega),by (clear m2 f2' m3 f3' m4 f4' m5 f5' lrs erJ erW ppW hst eh lh eb es hst1 ebK hC n1 e1 h63 eA hlen en hn1 hn2 eD hdl hd hk1 hk2 hrl u2 w2 rk m1 f1' e6 hrow6 er eC nC; lia),e1,(dr.same X1).same Q1,okR,fun st' pre hst'=>?_⟩
  have es' : st' = st:=by
   have h1:=moms_at t row (new2 k 60) row.length (Nat.le_refl _)
   have h2:=momsL t row (new2 k 60)
   rw [hst'] at hst h2
   rw [List.length_append,List.length_singleton] at h2
   rw [List.getElem?_append_right (by (clear h63 eA hlen en hn1 hn2 eD hdl hd hk1 hk2 hrl e6 hrow6 er hlr nC eC u2 w2 rk m1 f1' m2 f2' m3 f3' m4 f4' m5 f5' lrs erJ erW ppW eh lh eb es hst1 ebK hC n1 e1 hst hst' h1; lia)),show row.length - pre.length = 0 by (clear h63 eA hlen en hn1 hn2 eD hdl hd hk1 hk2 hrl e6 hrow6 er hlr nC eC u2 w2 rk m1 f1' m2 f2' m3 f3' m4 f4' m5 f5' lrs erJ erW ppW eh lh eb es hst1 ebK hC n1 e1 hst hst' h1; lia)] at hst
   cases hst
   rfl
  subst es'
  have hany : ((st'.1.map dO).any fun d=>D.eq d (dP [])) = M.held st'.1 []:=anyH st'.1 []
  refine ⟨fun hh K2 Q2=>⟨T.C_NotHeld,rfl,T.x_NotHeld,T.u_NotHeld_NotHeld,fun σ2 hσ=>?_⟩,fun hh=>?_⟩
  · have hσ : σ2 = _:=hσ
    subst hσ
    walk_at "rd"
    try simp only [endsA]
    rw [hC]
    clear hC C
    walk_at "rd"
    refine ⟨Nat.zero_le _,NewO.mk fun p9 K3 Q3 n3 e3=>⟨_,.inl (Q3 _ _ ((Q1.trans Q2) _ _ ebK)),_,dbK.same ((Q1.trans Q2).trans Q3),dP [],dP_mk e3,Nat.le_trans (dpsM _) (by decide),?_⟩⟩
    rw [hany,hh]
    exact q _
  · have hbx : M.hbox t k 60 row row.length []:=by
     show some [] ∈ ((row.take row.length).foldl (M.mark t) (new2 k 60)).1
     cases hst1
     exact M.held_mem.mp hh
    obtain ⟨cs,U,hgr⟩:=choice (by omega) hrow hbx
    refine ⟨cs,U,hgr,fun pF fs K2 Q2 n2 e2 D2=>?_⟩
    show C _ _
    rw [hC]
    clear hC C
    walk_at "rd"
    refine ⟨Nat.zero_le _,NewO.mk fun p9 K3 Q3 n3 e3=>⟨_,.inl (Q3 _ _ ((Q1.trans Q2) _ _ ebK)),_,dbK.same ((Q1.trans Q2).trans Q3),dP [],dP_mk e3,Nat.le_trans (dpsM _) (by decide),?_⟩⟩
    rw [hany,hh]
    have Q03:=(Q1.trans Q2).trans Q3
    refine iteF ⟨Nat.zero_le _,NewO.mk fun p0 K4 Q4 n4 e4=>?_⟩
    have Q04:=Q03.trans Q4
    have ht4:=((ht.same S27).same X1).same Q04
    refine ⟨t,[],v,.ref p0,rfl,ht4,dP_mk e4,hd,by (clear m4 f4' m5 f5' lrs erJ erW ppW eh lh eb es ebK n1 e1 hst' hst hst1 hany hh hgr n2 e2 n3 e3 n4 e4 er hlr nC eC u2 w2 rk m1 f1' m2 f2' m3 f3' hn1 hn2 eD hdl hd hk1 hk2 hrl e6 hrow6 h63 eA en; lia),by simp,fun p5 ys K5 Q5 n5 e5 D5=>?_⟩
    have wlen:=t.wk_len []
    have l5 : ys.length = (t.wk []).length:=by have:=D5.length; simpa using this
    refine WalkL.comp e5 (fun i us H'=>us.length ≤ i ∧ Dts H' ((((t.wk []).take i).filter (mustQ k)).map fun q=>dP q.1) us) ⟨Nat.zero_le _,.nil⟩ (by (clear hlr nC eC u2 w2 rk m1 f1' m2 f2' m3 f3' m4 f4' m5 f5' lrs erJ erW ppW eh lh eb es ebK n1 e1 hst' hst hst1 hd hk1 hk2 hrl e6 hrow6 er hany hh hgr n2 e2 n3 e3 n4 e4 hn1 hn2 eD hdl h63 eA n5 e5 en; lia)) (fun i us H' h=>h.1) (fun i x us H' ex S' h=>?_) (fun pk us K6 K7 Q6 Q7 h n7 e7=>?_)
    · have hi : i < (t.wk []).length:=by have:=(List.getElem?_eq_some_iff.mp ex).1; (clear h63 eA hlen en hn1 hn2 eD hdl hd hk1 hk2 hrl e6 hrow6 er hlr nC eC u2 w2 rk m1 f1' m2 f2' m3 f3' m4 f4' m5 f5' lrs erJ erW ppW eh lh eb es ebK n1 e1 hst' hst hst1 hany hh hgr n2 e2 n3 e3 n4 e4 n5 e5 wlen ex h; lia)
      obtain ⟨v',hv',dv'⟩:=Dts.map_of (D5.same S') (List.getElem?_eq_getElem hi)
      rw [ex] at hv'; cases hv'
      obtain ⟨b',v1,rfl,eb',h1⟩:=dR_of dv'
      rw [List.take_add_one,List.getElem?_eq_getElem hi,List.filter_append]
      simp only [Option.toList_some,List.filter_cons,List.filter_nil]
      have hm : mustQ k (t.wk [])[i] = (isK (t.wk [])[i].2 && decide ((k : Int) ≤ (mnR (t.wk [])[i].2 : Int))):=rfl
      rw [hm]
      walk_at "rd"
      refine ⟨_,items_t eb',_,atI_2,_,rfl,?_⟩
      cases hk' : isK (t.wk [])[i].2 with
      | false =>
       refine iteF ⟨S',by (clear h63 eA hlen en hn1 hn2 eD hdl hd hk1 hk2 hrl e6 hrow6 er hlr nC eC u2 w2 rk m1 f1' m2 f2' m3 f3' m4 f4' m5 f5' lrs erJ erW ppW eh lh eb es ebK n1 e1 hst' hst hst1 hany hh hgr n2 e2 n3 e3 n4 e4 n5 e5 ex eb' hm hk' wlen l5; lia),?_⟩
       simp only [Bool.false_and,Bool.false_eq_true,if_false,List.append_nil]
       exact h.2
      | true =>
       refine iteT ⟨_,items_t eb',_,atI_3,_,rfl,?_⟩
       simp only [Bool.true_and]
       refine ite2 (fun d=>?_) (fun d=>?_)
       · refine ⟨_,items_t eb',_,atI_0,S',by simp; (clear h63 eA hlen en hn1 hn2 eD hdl hd hk1 hk2 hrl e6 hrow6 er hlr nC eC u2 w2 rk m1 f1' m2 f2' m3 f3' m4 f4' m5 f5' lrs erJ erW ppW eh lh eb es ebK n1 e1 hst' hst hst1 hany hh hgr n2 e2 ex eb' hm hk' d n3 e3 n4 e4 n5 e5 wlen l5; lia),?_⟩
         rw [if_pos d]
         simp only [List.map_append,List.map_cons,List.map_nil]
         exact h.2.append (.one h1)
       · refine ⟨S',by (clear h63 eA hlen en hn1 hn2 eD hdl hd hk1 hk2 hrl e6 hrow6 er hlr nC eC u2 w2 rk m1 f1' m2 f2' m3 f3' m4 f4' m5 f5' lrs erJ erW ppW eh lh eb es ebK n1 e1 hst' hst hst1 hany hh hgr n2 e2 ex eb' hm hk' d n3 e3 n4 e4 n5 e5 wlen l5; lia),?_⟩
         rw [if_neg d,List.append_nil]
         exact h.2
    rw [l5,List.take_length] at h
    have dk : Dts K7 ((mustP t k).map dP) us:=by unfold mustP; rw [List.map_map]; exact h.2.same Q7
    have Q47:=(Q5.trans Q6).trans Q7
    have Q07:=Q04.trans Q47
    have Q27:=(Q3.trans Q4).trans Q47
    have hbound:=M.no_fewer (by omega) (fun d hd=>hrow d hd) hbx
    have hcn:=cnt_is row
    have hrc:=cnt_row k t 0 0
    rw [cM_must] at hrc
    have ge : ∀ x,x = Str.ofString "take" ∨ x = Str.ofString "join" ∨ x = Str.ofString "put" ∨ x = Str.ofString "fetch" → cnt x (rowInto k t 0 0) ≤ cnt x row:=by
     rintro x (rfl | rfl | rfl | rfl) <;> (clear h63 eA hlen en hn1 hn2 eD hdl hd hk1 hk2 hrl e6 hrow6 er hlr nC eC u2 w2 rk m1 f1' m2 f2' m3 f3' m4 f4' m5 f5' lrs erJ erW ppW eh lh eb es ebK n1 e1 hst' hst hst1 hany hh hgr n2 e2 n3 e3 n4 e4 n5 e5 wlen l5 h n7 e7; lia)
    refine ⟨t,k,row,v,pr,rs,rfl,ht4.same Q47,hd,by (clear erJ erW ppW eh lh eb es ebK n1 e1 hst' hst hst1 hany hh hgr n2 e2 n3 e3 n4 e4 n5 e5 wlen l5 h n7 e7 hbound hcn hrc nC eC u2 w2 rk m1 f1' m2 f2' m3 f3' m4 f4' m5 f5' lrs hd hk1 hk2 hrl e6 hrow6 er hlr hn1 hn2 eD hdl h63 eA en; lia),by omega,by (clear erJ erW ppW eh lh eb es ebK n1 e1 hst' hst hst1 hany hh hgr n2 e2 n3 e3 n4 e4 n5 e5 wlen l5 h n7 e7 hbound hcn hrc nC eC u2 w2 rk m1 f1' m2 f2' m3 f3' m4 f4' m5 f5' lrs h63 eA hlen en hn1 hn2 eD hdl e6 hrow6 er hlr hd hk1 hrl; lia),by (clear erJ erW ppW eh lh eb es ebK n1 e1 hst' hst hst1 hany hh hgr n2 e2 n3 e3 n4 e4 n5 e5 wlen l5 h n7 e7 hbound hcn hrc nC eC u2 w2 rk m1 f1' m2 f2' m3 f3' m4 f4' m5 f5' lrs h63 eA hlen en hn1 hn2 eD hdl hd hk1 hk2 hrl e6 hrow6 er; lia),Q07 _ _ (X1 _ _ er),(dr.same X1).same Q07,ge,fun K8 Q8=>⟨_,rfl,iteT ?_⟩⟩
    exact ⟨t,k,60,row,cs,U,pF,pr,pH,pk,fs,rs,hs,us,rfl,by (clear erJ erW ppW eh lh eb es ebK n1 e1 hst' hst hst1 hany hh hgr n2 e2 n3 e3 n4 e4 n5 e5 wlen l5 h n7 e7 hbound hcn hrc nC eC u2 w2 rk m1 f1' m2 f2' m3 f3' m4 f4' m5 f5' lrs hd hk1 hk2 hrl e6 hrow6 er hlr hn1 hn2 eD hdl h63 eA en; lia),by (clear erJ erW ppW eh lh eb es ebK n1 e1 hst' hst hst1 hany hh hgr n2 e2 n3 e3 n4 e4 n5 e5 wlen l5 h n7 e7 hbound hcn hrc nC eC u2 w2 rk m1 f1' m2 f2' m3 f3' m4 f4' m5 f5' lrs h63 eA hlen en hn1 hn2 eD hdl hd hk1 hk2 hrl e6 hrow6 er; lia),hrow,(Q27.trans Q8) _ _ e2,(D2.same Q27).same Q8,(Q07.trans Q8) _ _ (X1 _ _ er),((dr.same X1).same Q07).same Q8,(Q07.trans Q8) _ _ eh,(dhK.same Q07).same Q8,Q8 _ _ e7,dk.same Q8,hgr,fun H'' S''=>q _⟩
 walk_at "rd"
 refine ⟨a,ns,5,rfl,S26.seq hS2,h63,by omega,by omega,_,rfl,by decide,?_⟩
 refine ite2 (fun cc=>?_) (fun cc=>tail pr rs row H6 none S26 e6 dr okr (by (clear h63 eA hlen en hn1 hn2 eD hdl hd hk1 hk2 hrl hC cc e6; lia)))
 refine ⟨by (clear h63 eA hlen en hn1 hn2 eD hdl hd hk1 hk2 hrl e6 hrow6 hC cc; lia),by (clear h63 eA hlen en hn1 hn2 eD hdl e6 hrow6 hC cc hd hk1 hrl; omega),?_⟩
 rw [Int.toNat_natCast]
 refine compR (fun i ys H'=>∃ fr : List Int,fr.length = i ∧ ys = fr.map V.int ∧ ∀ x ∈ fr,M.inN k x) ⟨[],rfl,rfl,by simp⟩ (by (clear h63 eA hlen en hn1 hn2 eD hdl e6 hrow6 hC cc hd hk1 hrl; lia)) (fun i ys H' h=>?_) (fun i ys H' hi S' h=>?_) (fun pf ys H7 H8 S7 S8 h n8 e8=>?_)
 · obtain ⟨fr,h1,rfl,_⟩:=h
   rw [List.length_map]; (clear h63 eA hlen en hn1 hn2 eD hdl hd hk1 hk2 hrl e6 hrow6 hC cc; lia)
 · obtain ⟨fr,h1,rfl,h3⟩:=h
   walk_at "rd"
   refine ⟨a,ns,5,rfl,(S26.trans S').seq hS2,h63,by omega,by omega,_,rfl,⟨by decide,by decide⟩,?_⟩
   refine ⟨by (clear h63 eA hlen en hn1 hn2 eD hdl hd hC cc hi h1 e6 hrow6 hrl hk2; omega),S',fr ++ [((0 : Int) + i + lawAt ns (5 : Int).toNat / 2) % k],by simp [h1],by rw [List.map_append]; rfl,fun x hx=>?_⟩
   rcases List.mem_append.mp hx with hx | hx
   · exact h3 x hx
   · rw [List.mem_singleton.mp hx]
     exact ⟨Int.emod_nonneg _ (by (clear h63 eA hlen en hn1 hn2 eD hdl hd hC cc hi h1 e6 hrow6 hrl hk2; omega)),Int.emod_lt_of_pos _ (by (clear h63 eA hlen en hn1 hn2 eD hdl hd hC cc hi h1 e6 hrow6 hrl hk2; omega))⟩
 obtain ⟨fr,hfl,rfl,hfr⟩:=h
 have S68:=S7.trans S8
 have S28:=S26.trans S68
 refine ⟨a,ns,5,rfl,S28.seq hS2,h63,by omega,by omega,_,rfl,⟨by decide,by decide⟩,by decide,by decide,NewO.mk fun pp H9 S9 n9 e9=>?_⟩
 obtain ⟨c,hc⟩ : ∃ c : Nat,lawAt ns (5 : Int).toNat / 12 % 40 = c:=⟨(lawAt ns (5 : Int).toNat / 12 % 40).toNat,by (clear h63 eA hlen en hn1 hn2 eD hdl hd hk1 hk2 hrl e6 hrow6 hC cc n8 hfl e8 n9 e9; lia)⟩
 rw [hc] at e9
 have W : Same H8 (wo pp H9):=fun c o e=>by
  rw [wo_of (ne_of_none e n9)]; exact S9 _ _ e
 have W0:=S28.trans W
 have ndt : ndd t ≤ 63:=by unfold ndd; (clear hrl e6 hrow6 hC cc n8 hfl e8 n9 e9 hc eD hdl hd hk1 hk2 en hn1 hn2 h63 eA; omega)
 have nkt : nk t ≤ 11:=by unfold nk; (clear e6 hrow6 hC cc n8 hfl e8 n9 e9 hc ndt eD hdl hd hk1 hk2 hrl en hn1 hn2 h63 eA; omega)
 refine ⟨a,pp,pf,ns,t,v,fr,k,c,8,1,1,rfl,W0.seq hS2,h63,ht.same W0,W _ _ e8,e9,hfr,.inr (by (clear h63 eA hlen en hn1 hn2 e8 n9 e9 hc ndt nkt eD hdl hd e6 hrow6 hC hrl cc hk2 n8; lia)),by (clear h63 eA hlen en hn1 hn2 e8 n9 e9 hc ndt nkt eD hdl hd e6 hrow6 hC hrl cc hk2 n8; lia),by (clear h63 eA hlen en hn1 hn2 e8 n9 e9 hc ndt nkt eD hdl hd e6 hrow6 hC hrl cc hk1 n8; lia),hd,by (clear e6 hrow6 hC cc n8 hfl e8 n9 e9 hc ndt nkt eD hdl hd hk1 hk2 hrl en hn1 hn2 h63 eA; lia),by decide,by (clear h63 eA hlen en hn1 hn2 eD hdl hd hk1 hk2 hrl e6 hrow6 hC cc n8 hfl e8 n9 e9 nkt; lia),fun p xs row2 c' s' ag' H' W' np ep D2 epp hag' hc' hs' hrow2 hlen2=>?_⟩
 have hm1 : nk t * (1 + (1 - ag')) ≤ 11 * 2:=Nat.mul_le_mul nkt (by (clear h63 eA hlen en hn1 hn2 eD hdl hd hk1 hk2 hrl e6 hrow6 hC cc n8 hfl e8 n9 e9 hc ndt nkt np ep epp hag' hc' hs' hlen2; omega))
 have hm2 : ndd t * (1 + (1 - ag')) ≤ 63 * 2:=Nat.mul_le_mul ndt (by (clear h63 eA hlen en hn1 hn2 eD hdl hd hk1 hk2 hrl e6 hrow6 hC cc n8 hfl e8 n9 e9 hc ndt nkt np ep epp hag' hc' hs' hlen2 hm1; omega))
 have V8 : Same H8 H':=(W.trans W').trans wo_in
 have e6':=V8 _ _ (S68 _ _ e6)
 have dr':=(dr.same S68).same V8
 have lrs : rs.length = row.length:=by have:=dr.length; rw [List.length_map] at this; exact this
 have lxs : xs.length = row2.length:=by have:=D2.length; rw [List.length_map] at this; exact this
 refine ⟨p,rfl,_,e6',_,ep,small_le (by (clear h63 eA hlen en hn1 hn2 eD hdl hd e8 n9 e9 hc ndt nkt np ep epp hC cc n8 hfl hag' hk1 hk2 hrl hc' hs' e6 hm1 e6'; lia)),NewO.mk fun pz HZ SZ nZ eZ=>?_⟩
 refine tail pz _ (row ++ row2) HZ _ ((S28.trans V8).trans SZ) eZ ?_ (fun d hd=>?_) (by rw [List.length_append]; (clear h63 eA hlen en hn1 hn2 eD hdl hd hk1 e9 hc ndt nkt np ep epp hag' hc' hs' cc n8 hfl e8 n9 lxs nZ eZ hk2 hrl e6 lrs hC hm1 e6'; lia))
 · rw [List.map_append]; exact (dr'.same SZ).append ((D2.same wo_in).same SZ)
 · rcases List.mem_append.mp hd with hd | hd
   · exact okr d hd
   · exact ok_mono (hrow2 d hd).1 (by (clear h63 eA hlen en hn1 hn2 eD hdl hk1 hk2 hrl e6 hrow6 hC cc n8 hfl e8 n9 e9 hc ndt nkt np ep epp hag' hc' hs' lxs nZ eZ e6' lrs hm2 hlen2; omega))
end
theorem sub_of_mro {K : PySem.W.Frag} {C F : Addr} {r : Bool} (h : PySem.W.mroIn K C (.ref F) = some r) : subOf K C F = r:=by
 obtain ⟨cd,a,b⟩:=Option.bind_eq_some_iff.mp h
 unfold PySem.W.clsIn at a
 split at a
 · rename_i lk
   cases a
   unfold subOf
   rw [lk]
   split at b
   · cases b
   · exact Option.some.inj b
 · cases a
theorem all_mk {l : PySem.W.OpenLaw} {w : World} {K : PySem.W.Frag} {h : Heap} {mg : Str → Option Value} {fa : Addr} (X : K.In h) (G : h.Ns mainGlobals mg)
 {f0 : Addr} {od0 an0 : Option Addr} {sl0 : Array (Option Value)} {oc0 kV0 dc0 pm0 cd0 ct0 : Value}
 {f1 : Addr} {od1 an1 : Option Addr} {sl1 : Array (Option Value)} {oc1 kV1 dc1 pm1 cd1 ct1 : Value}
 {f2 : Addr} {od2 an2 : Option Addr} {sl2 : Array (Option Value)} {oc2 kV2 dc2 pm2 cd2 ct2 : Value}
 {f3 : Addr} {od3 an3 : Option Addr} {sl3 : Array (Option Value)} {oc3 kV3 dc3 pm3 cd3 ct3 : Value}
 {f4 : Addr} {od4 an4 : Option Addr} {sl4 : Array (Option Value)} {oc4 kV4 dc4 pm4 cd4 ct4 : Value}
 {f5 : Addr} {od5 an5 : Option Addr} {sl5 : Array (Option Value)} {oc5 kV5 dc5 pm5 cd5 ct5 : Value}
 {f6 : Addr} {od6 an6 : Option Addr} {sl6 : Array (Option Value)} {oc6 kV6 dc6 pm6 cd6 ct6 : Value}
 {f7 : Addr} {od7 an7 : Option Addr} {sl7 : Array (Option Value)} {oc7 kV7 dc7 pm7 cd7 ct7 : Value}
 {f8 : Addr} {od8 an8 : Option Addr} {sl8 : Array (Option Value)} {oc8 kV8 dc8 pm8 cd8 ct8 : Value}
 {f9 : Addr} {od9 an9 : Option Addr} {sl9 : Array (Option Value)} {oc9 kV9 dc9 pm9 cd9 ct9 : Value}
 {f10 : Addr} {od10 an10 : Option Addr} {sl10 : Array (Option Value)} {oc10 kV10 dc10 pm10 cd10 ct10 : Value}
 {f11 : Addr} {od11 an11 : Option Addr} {sl11 : Array (Option Value)} {oc11 kV11 dc11 pm11 cd11 ct11 : Value}
 {f12 : Addr} {od12 an12 : Option Addr} {sl12 : Array (Option Value)} {oc12 kV12 dc12 pm12 cd12 ct12 : Value}
 {f13 : Addr} {od13 an13 : Option Addr} {sl13 : Array (Option Value)} {oc13 kV13 dc13 pm13 cd13 ct13 : Value}
 {f14 : Addr} {od14 an14 : Option Addr} {sl14 : Array (Option Value)} {oc14 kV14 dc14 pm14 cd14 ct14 : Value}
 {f15 : Addr} {od15 an15 : Option Addr} {sl15 : Array (Option Value)} {oc15 kV15 dc15 pm15 cd15 ct15 : Value}
 {f16 : Addr} {od16 an16 : Option Addr} {sl16 : Array (Option Value)} {oc16 kV16 dc16 pm16 cd16 ct16 : Value}
 {f17 : Addr} {od17 an17 : Option Addr} {sl17 : Array (Option Value)} {oc17 kV17 dc17 pm17 cd17 ct17 : Value}
 {f18 : Addr} {od18 an18 : Option Addr} {sl18 : Array (Option Value)} {oc18 kV18 dc18 pm18 cd18 ct18 : Value}
 {f19 : Addr} {od19 an19 : Option Addr} {sl19 : Array (Option Value)} {oc19 kV19 dc19 pm19 cd19 ct19 : Value}
 {f20 : Addr} {od20 an20 : Option Addr} {sl20 : Array (Option Value)} {oc20 kV20 dc20 pm20 cd20 ct20 : Value}
 {f21 : Addr} {od21 an21 : Option Addr} {sl21 : Array (Option Value)} {oc21 kV21 dc21 pm21 cd21 ct21 : Value}
 {f22 : Addr} {od22 an22 : Option Addr} {sl22 : Array (Option Value)} {oc22 kV22 dc22 pm22 cd22 ct22 : Value}
 {f23 : Addr} {od23 an23 : Option Addr} {sl23 : Array (Option Value)} {oc23 kV23 dc23 pm23 cd23 ct23 : Value}
 {f24 : Addr} {od24 an24 : Option Addr} {sl24 : Array (Option Value)} {oc24 kV24 dc24 pm24 cd24 ct24 : Value}
 {f25 : Addr} {od25 an25 : Option Addr} {sl25 : Array (Option Value)} {oc25 kV25 dc25 pm25 cd25 ct25 : Value}
 {f26 : Addr} {od26 an26 : Option Addr} {sl26 : Array (Option Value)} {oc26 kV26 dc26 pm26 cd26 ct26 : Value}
 {f27 : Addr} {od27 an27 : Option Addr} {sl27 : Array (Option Value)} {oc27 kV27 dc27 pm27 cd27 ct27 : Value}
 {f28 : Addr} {od28 an28 : Option Addr} {sl28 : Array (Option Value)} {oc28 kV28 dc28 pm28 cd28 ct28 : Value}
 {f29 : Addr} {od29 an29 : Option Addr} {sl29 : Array (Option Value)} {oc29 kV29 dc29 pm29 cd29 ct29 : Value}
 {f30 : Addr} {od30 an30 : Option Addr} {sl30 : Array (Option Value)} {oc30 kV30 dc30 pm30 cd30 ct30 : Value}
 {f31 : Addr} {od31 an31 : Option Addr} {sl31 : Array (Option Value)} {oc31 kV31 dc31 pm31 cd31 ct31 : Value}
 {f32 : Addr} {od32 an32 : Option Addr} {sl32 : Array (Option Value)} {oc32 kV32 dc32 pm32 cd32 ct32 : Value}
 {f33 : Addr} {od33 an33 : Option Addr} {sl33 : Array (Option Value)} {oc33 kV33 dc33 pm33 cd33 ct33 : Value}
 {f34 : Addr} {od34 an34 : Option Addr} {sl34 : Array (Option Value)} {oc34 kV34 dc34 pm34 cd34 ct34 : Value}
 {f35 : Addr} {od35 an35 : Option Addr} {sl35 : Array (Option Value)} {oc35 kV35 dc35 pm35 cd35 ct35 : Value}
 {f36 : Addr} {od36 an36 : Option Addr} {sl36 : Array (Option Value)} {oc36 kV36 dc36 pm36 cd36 ct36 : Value}
 {f37 : Addr} {od37 an37 : Option Addr} {sl37 : Array (Option Value)} {oc37 kV37 dc37 pm37 cd37 ct37 : Value}
 {f38 : Addr} {od38 an38 : Option Addr} {sl38 : Array (Option Value)} {oc38 kV38 dc38 pm38 cd38 ct38 : Value}
 {f39 : Addr} {od39 an39 : Option Addr} {sl39 : Array (Option Value)} {oc39 kV39 dc39 pm39 cd39 ct39 : Value}
 {f40 : Addr} {od40 an40 : Option Addr} {sl40 : Array (Option Value)} {oc40 kV40 dc40 pm40 cd40 ct40 : Value}
 {f41 : Addr} {od41 an41 : Option Addr} {sl41 : Array (Option Value)} {oc41 kV41 dc41 pm41 cd41 ct41 : Value}
 {C_NotHeld : Addr}
 {C_TooFew : Addr}
 (a0 : PySem.W.nsIn K mainGlobals "box_numbers" = some (some (.ref f0))) (l0 : K.lookup f0 = some ⟨oc0,od0,.func (PySem.W.fnOf "box_numbers" "box_numbers" (defArgs s_box_numbers) (defBody s_box_numbers) (defScope s_box_numbers) .none kV0 dc0 pm0 an0 cd0 ct0),sl0⟩) (c0 : PySem.W.codeIn K cd0 "box_numbers" = true) (k0 : PySem.W.keepIn K (.ref f0) = true)
 (a1 : PySem.W.nsIn K mainGlobals "shelf_numbers" = some (some (.ref f1))) (l1 : K.lookup f1 = some ⟨oc1,od1,.func (PySem.W.fnOf "shelf_numbers" "shelf_numbers" (defArgs s_shelf_numbers) (defBody s_shelf_numbers) (defScope s_shelf_numbers) .none kV1 dc1 pm1 an1 cd1 ct1),sl1⟩) (c1 : PySem.W.codeIn K cd1 "shelf_numbers" = true) (k1 : PySem.W.keepIn K (.ref f1) = true)
 (a2 : PySem.W.nsIn K mainGlobals "check_numbers" = some (some (.ref f2))) (l2 : K.lookup f2 = some ⟨oc2,od2,.func (PySem.W.fnOf "check_numbers" "check_numbers" (defArgs s_check_numbers) (defBody s_check_numbers) (defScope s_check_numbers) .none kV2 dc2 pm2 an2 cd2 ct2),sl2⟩) (c2 : PySem.W.codeIn K cd2 "check_numbers" = true) (k2 : PySem.W.keepIn K (.ref f2) = true)
 (a3 : PySem.W.nsIn K mainGlobals "check_deed" = some (some (.ref f3))) (l3 : K.lookup f3 = some ⟨oc3,od3,.func (PySem.W.fnOf "check_deed" "check_deed" (defArgs s_check_deed) (defBody s_check_deed) (defScope s_check_deed) .none kV3 dc3 pm3 an3 cd3 ct3),sl3⟩) (c3 : PySem.W.codeIn K cd3 "check_deed" = true) (k3 : PySem.W.keepIn K (.ref f3) = true)
 (a4 : PySem.W.nsIn K mainGlobals "moved_value" = some (some (.ref f4))) (l4 : K.lookup f4 = some ⟨oc4,od4,.func (PySem.W.fnOf "moved_value" "moved_value" (defArgs s_moved_value) (defBody s_moved_value) (defScope s_moved_value) .none kV4 dc4 pm4 an4 cd4 ct4),sl4⟩) (c4 : PySem.W.codeIn K cd4 "moved_value" = true) (k4 : PySem.W.keepIn K (.ref f4) = true)
 (a5 : PySem.W.nsIn K mainGlobals "state_behind" = some (some (.ref f5))) (l5 : K.lookup f5 = some ⟨oc5,od5,.func (PySem.W.fnOf "state_behind" "state_behind" (defArgs s_state_behind) (defBody s_state_behind) (defScope s_state_behind) .none kV5 dc5 pm5 an5 cd5 ct5),sl5⟩) (c5 : PySem.W.codeIn K cd5 "state_behind" = true) (k5 : PySem.W.keepIn K (.ref f5) = true)
 (a6 : PySem.W.nsIn K mainGlobals "is_leaf" = some (some (.ref f6))) (l6 : K.lookup f6 = some ⟨oc6,od6,.func (PySem.W.fnOf "is_leaf" "is_leaf" (defArgs s_is_leaf) (defBody s_is_leaf) (defScope s_is_leaf) .none kV6 dc6 pm6 an6 cd6 ct6),sl6⟩) (c6 : PySem.W.codeIn K cd6 "is_leaf" = true) (k6 : PySem.W.keepIn K (.ref f6) = true)
 (a7 : PySem.W.nsIn K mainGlobals "places" = some (some (.ref f7))) (l7 : K.lookup f7 = some ⟨oc7,od7,.func (PySem.W.fnOf "places" "places" (defArgs s_places) (defBody s_places) (defScope s_places) .none kV7 dc7 pm7 an7 cd7 ct7),sl7⟩) (c7 : PySem.W.codeIn K cd7 "places" = true) (k7 : PySem.W.keepIn K (.ref f7) = true)
 (a8 : PySem.W.nsIn K mainGlobals "leaves" = some (some (.ref f8))) (l8 : K.lookup f8 = some ⟨oc8,od8,.func (PySem.W.fnOf "leaves" "leaves" (defArgs s_leaves) (defBody s_leaves) (defScope s_leaves) .none kV8 dc8 pm8 an8 cd8 ct8),sl8⟩) (c8 : PySem.W.codeIn K cd8 "leaves" = true) (k8 : PySem.W.keepIn K (.ref f8) = true)
 (a9 : PySem.W.nsIn K mainGlobals "part_at" = some (some (.ref f9))) (l9 : K.lookup f9 = some ⟨oc9,od9,.func (PySem.W.fnOf "part_at" "part_at" (defArgs s_part_at) (defBody s_part_at) (defScope s_part_at) .none kV9 dc9 pm9 an9 cd9 ct9),sl9⟩) (c9 : PySem.W.codeIn K cd9 "part_at" = true) (k9 : PySem.W.keepIn K (.ref f9) = true)
 (a10 : PySem.W.nsIn K mainGlobals "place_of" = some (some (.ref f10))) (l10 : K.lookup f10 = some ⟨oc10,od10,.func (PySem.W.fnOf "place_of" "place_of" (defArgs s_place_of) (defBody s_place_of) (defScope s_place_of) .none kV10 dc10 pm10 an10 cd10 ct10),sl10⟩) (c10 : PySem.W.codeIn K cd10 "place_of" = true) (k10 : PySem.W.keepIn K (.ref f10) = true)
 (a11 : PySem.W.nsIn K mainGlobals "fresh" = some (some (.ref f11))) (l11 : K.lookup f11 = some ⟨oc11,od11,.func (PySem.W.fnOf "fresh" "fresh" (defArgs s_fresh) (defBody s_fresh) (defScope s_fresh) .none kV11 dc11 pm11 an11 cd11 ct11),sl11⟩) (c11 : PySem.W.codeIn K cd11 "fresh" = true) (k11 : PySem.W.keepIn K (.ref f11) = true)
 (a12 : PySem.W.nsIn K mainGlobals "knot_over" = some (some (.ref f12))) (l12 : K.lookup f12 = some ⟨oc12,od12,.func (PySem.W.fnOf "knot_over" "knot_over" (defArgs s_knot_over) (defBody s_knot_over) (defScope s_knot_over) .none kV12 dc12 pm12 an12 cd12 ct12),sl12⟩) (c12 : PySem.W.codeIn K cd12 "knot_over" = true) (k12 : PySem.W.keepIn K (.ref f12) = true)
 (a13 : PySem.W.nsIn K mainGlobals "mark_brought" = some (some (.ref f13))) (l13 : K.lookup f13 = some ⟨oc13,od13,.func (PySem.W.fnOf "mark_brought" "mark_brought" (defArgs s_mark_brought) (defBody s_mark_brought) (defScope s_mark_brought) .none kV13 dc13 pm13 an13 cd13 ct13),sl13⟩) (c13 : PySem.W.codeIn K cd13 "mark_brought" = true) (k13 : PySem.W.keepIn K (.ref f13) = true)
 (a14 : PySem.W.nsIn K mainGlobals "marked" = some (some (.ref f14))) (l14 : K.lookup f14 = some ⟨oc14,od14,.func (PySem.W.fnOf "marked" "marked" (defArgs s_marked) (defBody s_marked) (defScope s_marked) .none kV14 dc14 pm14 an14 cd14 ct14),sl14⟩) (c14 : PySem.W.codeIn K cd14 "marked" = true) (k14 : PySem.W.keepIn K (.ref f14) = true)
 (a15 : PySem.W.nsIn K mainGlobals "moments" = some (some (.ref f15))) (l15 : K.lookup f15 = some ⟨oc15,od15,.func (PySem.W.fnOf "moments" "moments" (defArgs s_moments) (defBody s_moments) (defScope s_moments) .none kV15 dc15 pm15 an15 cd15 ct15),sl15⟩) (c15 : PySem.W.codeIn K cd15 "moments" = true) (k15 : PySem.W.keepIn K (.ref f15) = true)
 (a16 : PySem.W.nsIn K mainGlobals "formula_held" = some (some (.ref f16))) (l16 : K.lookup f16 = some ⟨oc16,od16,.func (PySem.W.fnOf "formula_held" "formula_held" (defArgs s_formula_held) (defBody s_formula_held) (defScope s_formula_held) .none kV16 dc16 pm16 an16 cd16 ct16),sl16⟩) (c16 : PySem.W.codeIn K cd16 "formula_held" = true) (k16 : PySem.W.keepIn K (.ref f16) = true)
 (a17 : PySem.W.nsIn K mainGlobals "rank" = some (some (.ref f17))) (l17 : K.lookup f17 = some ⟨oc17,od17,.func (PySem.W.fnOf "rank" "rank" (defArgs s_rank) (defBody s_rank) (defScope s_rank) .none kV17 dc17 pm17 an17 cd17 ct17),sl17⟩) (c17 : PySem.W.codeIn K cd17 "rank" = true) (k17 : PySem.W.keepIn K (.ref f17) = true)
 (a18 : PySem.W.nsIn K mainGlobals "puts" = some (some (.ref f18))) (l18 : K.lookup f18 = some ⟨oc18,od18,.func (PySem.W.fnOf "puts" "puts" (defArgs s_puts) (defBody s_puts) (defScope s_puts) .none kV18 dc18 pm18 an18 cd18 ct18),sl18⟩) (c18 : PySem.W.codeIn K cd18 "puts" = true) (k18 : PySem.W.keepIn K (.ref f18) = true)
 (a19 : PySem.W.nsIn K mainGlobals "must_put" = some (some (.ref f19))) (l19 : K.lookup f19 = some ⟨oc19,od19,.func (PySem.W.fnOf "must_put" "must_put" (defArgs s_must_put) (defBody s_must_put) (defScope s_must_put) .none kV19 dc19 pm19 an19 cd19 ct19),sl19⟩) (c19 : PySem.W.codeIn K cd19 "must_put" = true) (k19 : PySem.W.keepIn K (.ref f19) = true)
 (a20 : PySem.W.nsIn K mainGlobals "least" = some (some (.ref f20))) (l20 : K.lookup f20 = some ⟨oc20,od20,.func (PySem.W.fnOf "least" "least" (defArgs s_least) (defBody s_least) (defScope s_least) .none kV20 dc20 pm20 an20 cd20 ct20),sl20⟩) (c20 : PySem.W.codeIn K cd20 "least" = true) (k20 : PySem.W.keepIn K (.ref f20) = true)
 (a21 : PySem.W.nsIn K mainGlobals "used_by" = some (some (.ref f21))) (l21 : K.lookup f21 = some ⟨oc21,od21,.func (PySem.W.fnOf "used_by" "used_by" (defArgs s_used_by) (defBody s_used_by) (defScope s_used_by) .none kV21 dc21 pm21 an21 cd21 ct21),sl21⟩) (c21 : PySem.W.codeIn K cd21 "used_by" = true) (k21 : PySem.W.keepIn K (.ref f21) = true)
 (a22 : PySem.W.nsIn K mainGlobals "used_puts" = some (some (.ref f22))) (l22 : K.lookup f22 = some ⟨oc22,od22,.func (PySem.W.fnOf "used_puts" "used_puts" (defArgs s_used_puts) (defBody s_used_puts) (defScope s_used_puts) .none kV22 dc22 pm22 an22 cd22 ct22),sl22⟩) (c22 : PySem.W.codeIn K cd22 "used_puts" = true) (k22 : PySem.W.keepIn K (.ref f22) = true)
 (a23 : PySem.W.nsIn K mainGlobals "lies_within" = some (some (.ref f23))) (l23 : K.lookup f23 = some ⟨oc23,od23,.func (PySem.W.fnOf "lies_within" "lies_within" (defArgs s_lies_within) (defBody s_lies_within) (defScope s_lies_within) .none kV23 dc23 pm23 an23 cd23 ct23),sl23⟩) (c23 : PySem.W.codeIn K cd23 "lies_within" = true) (k23 : PySem.W.keepIn K (.ref f23) = true)
 (a24 : PySem.W.nsIn K mainGlobals "matched" = some (some (.ref f24))) (l24 : K.lookup f24 = some ⟨oc24,od24,.func (PySem.W.fnOf "matched" "matched" (defArgs s_matched) (defBody s_matched) (defScope s_matched) .none kV24 dc24 pm24 an24 cd24 ct24),sl24⟩) (c24 : PySem.W.codeIn K cd24 "matched" = true) (k24 : PySem.W.keepIn K (.ref f24) = true)
 (a25 : PySem.W.nsIn K mainGlobals "row_by_shelf" = some (some (.ref f25))) (l25 : K.lookup f25 = some ⟨oc25,od25,.func (PySem.W.fnOf "row_by_shelf" "row_by_shelf" (defArgs s_row_by_shelf) (defBody s_row_by_shelf) (defScope s_row_by_shelf) .none kV25 dc25 pm25 an25 cd25 ct25),sl25⟩) (c25 : PySem.W.codeIn K cd25 "row_by_shelf" = true) (k25 : PySem.W.keepIn K (.ref f25) = true)
 (a26 : PySem.W.nsIn K mainGlobals "row_by_boxes" = some (some (.ref f26))) (l26 : K.lookup f26 = some ⟨oc26,od26,.func (PySem.W.fnOf "row_by_boxes" "row_by_boxes" (defArgs s_row_by_boxes) (defBody s_row_by_boxes) (defScope s_row_by_boxes) .none kV26 dc26 pm26 an26 cd26 ct26),sl26⟩) (c26 : PySem.W.codeIn K cd26 "row_by_boxes" = true) (k26 : PySem.W.keepIn K (.ref f26) = true)
 (a27 : PySem.W.nsIn K mainGlobals "row_into" = some (some (.ref f27))) (l27 : K.lookup f27 = some ⟨oc27,od27,.func (PySem.W.fnOf "row_into" "row_into" (defArgs s_row_into) (defBody s_row_into) (defScope s_row_into) .none kV27 dc27 pm27 an27 cd27 ct27),sl27⟩) (c27 : PySem.W.codeIn K cd27 "row_into" = true) (k27 : PySem.W.keepIn K (.ref f27) = true)
 (a28 : PySem.W.nsIn K mainGlobals "row_for" = some (some (.ref f28))) (l28 : K.lookup f28 = some ⟨oc28,od28,.func (PySem.W.fnOf "row_for" "row_for" (defArgs s_row_for) (defBody s_row_for) (defScope s_row_for) .none kV28 dc28 pm28 an28 cd28 ct28),sl28⟩) (c28 : PySem.W.codeIn K cd28 "row_for" = true) (k28 : PySem.W.keepIn K (.ref f28) = true)
 (a29 : PySem.W.nsIn K mainGlobals "_law_at" = some (some (.ref f29))) (l29 : K.lookup f29 = some ⟨oc29,od29,.func (PySem.W.fnOf "_law_at" "_law_at" (defArgs s__law_at) (defBody s__law_at) (defScope s__law_at) .none kV29 dc29 pm29 an29 cd29 ct29),sl29⟩) (c29 : PySem.W.codeIn K cd29 "_law_at" = true) (k29 : PySem.W.keepIn K (.ref f29) = true)
 (a30 : PySem.W.nsIn K mainGlobals "_law_names" = some (some (.ref f30))) (l30 : K.lookup f30 = some ⟨oc30,od30,.func (PySem.W.fnOf "_law_names" "_law_names" (defArgs s__law_names) (defBody s__law_names) (defScope s__law_names) .none kV30 dc30 pm30 an30 cd30 ct30),sl30⟩) (c30 : PySem.W.codeIn K cd30 "_law_names" = true) (k30 : PySem.W.keepIn K (.ref f30) = true)
 (a31 : PySem.W.nsIn K mainGlobals "_law_shape" = some (some (.ref f31))) (l31 : K.lookup f31 = some ⟨oc31,od31,.func (PySem.W.fnOf "_law_shape" "_law_shape" (defArgs s__law_shape) (defBody s__law_shape) (defScope s__law_shape) .none kV31 dc31 pm31 an31 cd31 ct31),sl31⟩) (c31 : PySem.W.codeIn K cd31 "_law_shape" = true) (k31 : PySem.W.keepIn K (.ref f31) = true)
 (a32 : PySem.W.nsIn K mainGlobals "_law_any" = some (some (.ref f32))) (l32 : K.lookup f32 = some ⟨oc32,od32,.func (PySem.W.fnOf "_law_any" "_law_any" (defArgs s__law_any) (defBody s__law_any) (defScope s__law_any) .none kV32 dc32 pm32 an32 cd32 ct32),sl32⟩) (c32 : PySem.W.codeIn K cd32 "_law_any" = true) (k32 : PySem.W.keepIn K (.ref f32) = true)
 (a33 : PySem.W.nsIn K mainGlobals "_law_ranks" = some (some (.ref f33))) (l33 : K.lookup f33 = some ⟨oc33,od33,.func (PySem.W.fnOf "_law_ranks" "_law_ranks" (defArgs s__law_ranks) (defBody s__law_ranks) (defScope s__law_ranks) .none kV33 dc33 pm33 an33 cd33 ct33),sl33⟩) (c33 : PySem.W.codeIn K cd33 "_law_ranks" = true) (k33 : PySem.W.keepIn K (.ref f33) = true)
 (a34 : PySem.W.nsIn K mainGlobals "_law_deed" = some (some (.ref f34))) (l34 : K.lookup f34 = some ⟨oc34,od34,.func (PySem.W.fnOf "_law_deed" "_law_deed" (defArgs s__law_deed) (defBody s__law_deed) (defScope s__law_deed) .none kV34 dc34 pm34 an34 cd34 ct34),sl34⟩) (c34 : PySem.W.codeIn K cd34 "_law_deed" = true) (k34 : PySem.W.keepIn K (.ref f34) = true)
 (a35 : PySem.W.nsIn K mainGlobals "_law_knots" = some (some (.ref f35))) (l35 : K.lookup f35 = some ⟨oc35,od35,.func (PySem.W.fnOf "_law_knots" "_law_knots" (defArgs s__law_knots) (defBody s__law_knots) (defScope s__law_knots) .none kV35 dc35 pm35 an35 cd35 ct35),sl35⟩) (c35 : PySem.W.codeIn K cd35 "_law_knots" = true) (k35 : PySem.W.keepIn K (.ref f35) = true)
 (a36 : PySem.W.nsIn K mainGlobals "_law_marked" = some (some (.ref f36))) (l36 : K.lookup f36 = some ⟨oc36,od36,.func (PySem.W.fnOf "_law_marked" "_law_marked" (defArgs s__law_marked) (defBody s__law_marked) (defScope s__law_marked) .none kV36 dc36 pm36 an36 cd36 ct36),sl36⟩) (c36 : PySem.W.codeIn K cd36 "_law_marked" = true) (k36 : PySem.W.keepIn K (.ref f36) = true)
 (a37 : PySem.W.nsIn K mainGlobals "_law_wasted" = some (some (.ref f37))) (l37 : K.lookup f37 = some ⟨oc37,od37,.func (PySem.W.fnOf "_law_wasted" "_law_wasted" (defArgs s__law_wasted) (defBody s__law_wasted) (defScope s__law_wasted) .none kV37 dc37 pm37 an37 cd37 ct37),sl37⟩) (c37 : PySem.W.codeIn K cd37 "_law_wasted" = true) (k37 : PySem.W.keepIn K (.ref f37) = true)
 (a38 : PySem.W.nsIn K mainGlobals "_law_used" = some (some (.ref f38))) (l38 : K.lookup f38 = some ⟨oc38,od38,.func (PySem.W.fnOf "_law_used" "_law_used" (defArgs s__law_used) (defBody s__law_used) (defScope s__law_used) .none kV38 dc38 pm38 an38 cd38 ct38),sl38⟩) (c38 : PySem.W.codeIn K cd38 "_law_used" = true) (k38 : PySem.W.keepIn K (.ref f38) = true)
 (a39 : PySem.W.nsIn K mainGlobals "_law_counted" = some (some (.ref f39))) (l39 : K.lookup f39 = some ⟨oc39,od39,.func (PySem.W.fnOf "_law_counted" "_law_counted" (defArgs s__law_counted) (defBody s__law_counted) (defScope s__law_counted) .none kV39 dc39 pm39 an39 cd39 ct39),sl39⟩) (c39 : PySem.W.codeIn K cd39 "_law_counted" = true) (k39 : PySem.W.keepIn K (.ref f39) = true)
 (a40 : PySem.W.nsIn K mainGlobals "_law_matched" = some (some (.ref f40))) (l40 : K.lookup f40 = some ⟨oc40,od40,.func (PySem.W.fnOf "_law_matched" "_law_matched" (defArgs s__law_matched) (defBody s__law_matched) (defScope s__law_matched) .none kV40 dc40 pm40 an40 cd40 ct40),sl40⟩) (c40 : PySem.W.codeIn K cd40 "_law_matched" = true) (k40 : PySem.W.keepIn K (.ref f40) = true)
 (a41 : PySem.W.nsIn K mainGlobals "law" = some (some (.ref f41))) (l41 : K.lookup f41 = some ⟨oc41,od41,.func (PySem.W.fnOf "law" "law" (defArgs s_law) (defBody s_law) (defScope s_law) .none kV41 dc41 pm41 an41 cd41 ct41),sl41⟩) (c41 : PySem.W.codeIn K cd41 "law" = true) (k41 : PySem.W.keepIn K (.ref f41) = true)
 (z0 : PySem.W.nsIn K mainGlobals "bool" = some none)
 (z1 : PySem.W.nsIn K mainGlobals "enumerate" = some none)
 (z2 : PySem.W.nsIn K mainGlobals "int" = some none)
 (z3 : PySem.W.nsIn K mainGlobals "isinstance" = some none)
 (z4 : PySem.W.nsIn K mainGlobals "len" = some none)
 (z5 : PySem.W.nsIn K mainGlobals "list" = some none)
 (z6 : PySem.W.nsIn K mainGlobals "max" = some none)
 (z7 : PySem.W.nsIn K mainGlobals "min" = some none)
 (z8 : PySem.W.nsIn K mainGlobals "range" = some none)
 (z9 : PySem.W.nsIn K mainGlobals "reversed" = some none)
 (z10 : PySem.W.nsIn K mainGlobals "tuple" = some none)
 (ea_NotHeld : PySem.W.nsIn K mainGlobals "NotHeld" = some (some (.ref C_NotHeld)))
 (ex_NotHeld : PySem.W.excIn K C_NotHeld bmV "ValueError.__new__" = true)
 (ea_TooFew : PySem.W.nsIn K mainGlobals "TooFew" = some (some (.ref C_TooFew)))
 (ex_TooFew : PySem.W.excIn K C_TooFew bmV "ValueError.__new__" = true)
 (u_NotHeld_NotHeld : PySem.W.mroIn K C_NotHeld (.ref C_NotHeld) = some true)
 (u_TooFew_NotHeld : PySem.W.mroIn K C_TooFew (.ref C_NotHeld) = some false) (hfa : mg "law" = some (.ref fa)) :
 ∃ fd : FuncData,(∀ (s : Shared) (v : Value),BindsTo s fd ⟨[v],[]⟩ [("script",v)]) ∧ ∀ base : Heap,K.In base → base.Ns mainGlobals mg → FnOk l.prog w K mg base (CXE l.prog w) 60 fa fd ["script"] (spLaw K):=by
 obtain ⟨T,e,b⟩ : ∃ T : Txt K mg,T.f_law = f41 ∧ (∀ (s : Shared) (v : Value),BindsTo s T.d_law ⟨[v],[]⟩ [("script",v)]):=by
  have F0:=fun_mk (st:=s_box_numbers) l0 c0 k0
  have b0:=F0.binds1 (ps:=["deed"]) rfl fun _ _ _ _ _ _ _=>rfl
  have F1:=fun_mk (st:=s_shelf_numbers) l1 c1 k1
  have b1:=F1.binds1 (ps:=["deed"]) rfl fun _ _ _ _ _ _ _=>rfl
  have F2:=fun_mk (st:=s_check_numbers) l2 c2 k2
  have b2:=F2.binds3 (ps:=["deed","asked","there"]) rfl fun _ _ _ _ _ _ _ _ _=>rfl
  have F3:=fun_mk (st:=s_check_deed) l3 c3 k3
  have b3:=F3.binds2 (ps:=["deed","state"]) rfl fun _ _ _ _ _ _ _ _=>rfl
  have F4:=fun_mk (st:=s_moved_value) l4 c4 k4
  have b4:=F4.binds2 (ps:=["deed","state"]) rfl fun _ _ _ _ _ _ _ _=>rfl
  have F5:=fun_mk (st:=s_state_behind) l5 c5 k5
  have b5:=F5.binds3 (ps:=["deed","state","value"]) rfl fun _ _ _ _ _ _ _ _ _=>rfl
  have F6:=fun_mk (st:=s_is_leaf) l6 c6 k6
  have b6:=F6.binds1 (ps:=["tree"]) rfl fun _ _ _ _ _ _ _=>rfl
  have F7:=fun_mk (st:=s_places) l7 c7 k7
  have b7:=F7.binds1 (ps:=["tree"]) rfl fun _ _ _ _ _ _ _=>rfl
  have F8:=fun_mk (st:=s_leaves) l8 c8 k8
  have b8:=F8.binds1 (ps:=["tree"]) rfl fun _ _ _ _ _ _ _=>rfl
  have F9:=fun_mk (st:=s_part_at) l9 c9 k9
  have b9:=F9.binds2 (ps:=["tree","place"]) rfl fun _ _ _ _ _ _ _ _=>rfl
  have F10:=fun_mk (st:=s_place_of) l10 c10 k10
  have b10:=F10.binds2 (ps:=["tree","x"]) rfl fun _ _ _ _ _ _ _ _=>rfl
  have F11:=fun_mk (st:=s_fresh) l11 c11 k11
  have b11:=F11.binds2 (ps:=["k","many"]) rfl fun _ _ _ _ _ _ _ _=>rfl
  have F12:=fun_mk (st:=s_knot_over) l12 c12 k12
  have b12:=F12.binds4 (ps:=["tree","f","left","right"]) rfl fun _ _ _ _ _ _ _ _ _ _=>rfl
  have F13:=fun_mk (st:=s_mark_brought) l13 c13 k13
  have b13:=F13.binds3 (ps:=["tree","deed","state"]) rfl fun _ _ _ _ _ _ _ _ _=>rfl
  have F14:=fun_mk (st:=s_marked) l14 c14 k14
  have b14:=F14.binds3 (ps:=["tree","deed","state"]) rfl fun _ _ _ _ _ _ _ _ _=>rfl
  have F15:=fun_mk (st:=s_moments) l15 c15 k15
  have b15:=F15.binds4 (ps:=["tree","k","many","row"]) rfl fun _ _ _ _ _ _ _ _ _ _=>rfl
  have F16:=fun_mk (st:=s_formula_held) l16 c16 k16
  have b16:=F16.binds1 (ps:=["state"]) rfl fun _ _ _ _ _ _ _=>rfl
  have F17:=fun_mk (st:=s_rank) l17 c17 k17
  have b17:=F17.binds1 (ps:=["tree"]) rfl fun _ _ _ _ _ _ _=>rfl
  have F18:=fun_mk (st:=s_puts) l18 c18 k18
  have b18:=F18.binds2 (ps:=["tree","k"]) rfl fun _ _ _ _ _ _ _ _=>rfl
  have F19:=fun_mk (st:=s_must_put) l19 c19 k19
  have b19:=F19.binds2 (ps:=["tree","k"]) rfl fun _ _ _ _ _ _ _ _=>rfl
  have F20:=fun_mk (st:=s_least) l20 c20 k20
  have b20:=F20.binds2 (ps:=["tree","k"]) rfl fun _ _ _ _ _ _ _ _=>rfl
  have F21:=fun_mk (st:=s_used_by) l21 c21 k21
  have b21:=F21.binds2 (ps:=["row","n"]) rfl fun _ _ _ _ _ _ _ _=>rfl
  have F22:=fun_mk (st:=s_used_puts) l22 c22 k22
  have b22:=F22.binds2 (ps:=["row","states"]) rfl fun _ _ _ _ _ _ _ _=>rfl
  have F23:=fun_mk (st:=s_lies_within) l23 c23 k23
  have b23:=F23.binds2 (ps:=["place","knot"]) rfl fun _ _ _ _ _ _ _ _=>rfl
  have F24:=fun_mk (st:=s_matched) l24 c24 k24
  have b24:=F24.binds4 (ps:=["tree","k","many","row"]) rfl fun _ _ _ _ _ _ _ _ _ _=>rfl
  have F25:=fun_mk (st:=s_row_by_shelf) l25 c25 k25
  have b25:=F25.binds3 (ps:=["tree","k","shelf"]) rfl fun _ _ _ _ _ _ _ _ _=>rfl
  have F26:=fun_mk (st:=s_row_by_boxes) l26 c26 k26
  have b26:=F26.binds4 (ps:=["tree","k","box","shelf"]) rfl fun _ _ _ _ _ _ _ _ _ _=>rfl
  have F27:=fun_mk (st:=s_row_into) l27 c27 k27
  have b27:=F27.binds4 (ps:=["tree","k","box","shelf"]) rfl fun _ _ _ _ _ _ _ _ _ _=>rfl
  have F28:=fun_mk (st:=s_row_for) l28 c28 k28
  have b28:=F28.binds2 (ps:=["tree","k"]) rfl fun _ _ _ _ _ _ _ _=>rfl
  have F29:=fun_mk (st:=s__law_at) l29 c29 k29
  have b29:=F29.binds2 (ps:=["script","k"]) rfl fun _ _ _ _ _ _ _ _=>rfl
  have F30:=fun_mk (st:=s__law_names) l30 c30 k30
  have b30:=F30.binds2 (ps:=["cell","many"]) rfl fun _ _ _ _ _ _ _ _=>rfl
  have F31:=fun_mk (st:=s__law_shape) l31 c31 k31
  have b31:=F31.binds3 (ps:=["cell","names","deeds"]) rfl fun _ _ _ _ _ _ _ _ _=>rfl
  have F32:=fun_mk (st:=s__law_any) l32 c32 k32
  have b32:=F32.binds1 (ps:=["script"]) rfl fun _ _ _ _ _ _ _=>rfl
  have F33:=fun_mk (st:=s__law_ranks) l33 c33 k33
  have b33:=F33.binds2 (ps:=["tree","place"]) rfl fun _ _ _ _ _ _ _ _=>rfl
  have F34:=fun_mk (st:=s__law_deed) l34 c34 k34
  have b34:=F34.binds6 (ps:=["script","n","names","deeds","k","many"]) rfl fun _ _ _ _ _ _ _ _ _ _ _ _=>rfl
  have F35:=fun_mk (st:=s__law_knots) l35 c35 k35
  have b35:=F35.binds2 (ps:=["tree","place"]) rfl fun _ _ _ _ _ _ _ _=>rfl
  have F36:=fun_mk (st:=s__law_marked) l36 c36 k36
  have b36:=F36.binds4 (ps:=["parts","deed","boxes","shelf"]) rfl fun _ _ _ _ _ _ _ _ _ _=>rfl
  have F37:=fun_mk (st:=s__law_wasted) l37 c37 k37
  have b37:=F37.binds4 (ps:=["script","pot","tree","free"]) rfl fun _ _ _ _ _ _ _ _ _ _=>rfl
  have F38:=fun_mk (st:=s__law_used) l38 c38 k38
  have b38:=F38.binds3 (ps:=["row","n","m"]) rfl fun _ _ _ _ _ _ _ _ _=>rfl
  have F39:=fun_mk (st:=s__law_counted) l39 c39 k39
  have b39:=F39.binds3 (ps:=["row","k","tree"]) rfl fun _ _ _ _ _ _ _ _ _=>rfl
  have F40:=fun_mk (st:=s__law_matched) l40 c40 k40
  have b40:=F40.binds4 (ps:=["found","row","held","knots"]) rfl fun _ _ _ _ _ _ _ _ _ _=>rfl
  have F41:=fun_mk (st:=s_law) l41 c41 k41
  have b41:=F41.binds1 (ps:=["script"]) rfl fun _ _ _ _ _ _ _=>rfl
  exact ⟨⟨f0,_,F0,PySem.W.mg_of X G a0,b0,f1,_,F1,PySem.W.mg_of X G a1,b1,f2,_,F2,PySem.W.mg_of X G a2,b2,f3,_,F3,PySem.W.mg_of X G a3,b3,f4,_,F4,PySem.W.mg_of X G a4,b4,f5,_,F5,PySem.W.mg_of X G a5,b5,f6,_,F6,PySem.W.mg_of X G a6,b6,f7,_,F7,PySem.W.mg_of X G a7,b7,f8,_,F8,PySem.W.mg_of X G a8,b8,f9,_,F9,PySem.W.mg_of X G a9,b9,f10,_,F10,PySem.W.mg_of X G a10,b10,f11,_,F11,PySem.W.mg_of X G a11,b11,f12,_,F12,PySem.W.mg_of X G a12,b12,f13,_,F13,PySem.W.mg_of X G a13,b13,f14,_,F14,PySem.W.mg_of X G a14,b14,f15,_,F15,PySem.W.mg_of X G a15,b15,f16,_,F16,PySem.W.mg_of X G a16,b16,f17,_,F17,PySem.W.mg_of X G a17,b17,f18,_,F18,PySem.W.mg_of X G a18,b18,f19,_,F19,PySem.W.mg_of X G a19,b19,f20,_,F20,PySem.W.mg_of X G a20,b20,f21,_,F21,PySem.W.mg_of X G a21,b21,f22,_,F22,PySem.W.mg_of X G a22,b22,f23,_,F23,PySem.W.mg_of X G a23,b23,f24,_,F24,PySem.W.mg_of X G a24,b24,f25,_,F25,PySem.W.mg_of X G a25,b25,f26,_,F26,PySem.W.mg_of X G a26,b26,f27,_,F27,PySem.W.mg_of X G a27,b27,f28,_,F28,PySem.W.mg_of X G a28,b28,f29,_,F29,PySem.W.mg_of X G a29,b29,f30,_,F30,PySem.W.mg_of X G a30,b30,f31,_,F31,PySem.W.mg_of X G a31,b31,f32,_,F32,PySem.W.mg_of X G a32,b32,f33,_,F33,PySem.W.mg_of X G a33,b33,f34,_,F34,PySem.W.mg_of X G a34,b34,f35,_,F35,PySem.W.mg_of X G a35,b35,f36,_,F36,PySem.W.mg_of X G a36,b36,f37,_,F37,PySem.W.mg_of X G a37,b37,f38,_,F38,PySem.W.mg_of X G a38,b38,f39,_,F39,PySem.W.mg_of X G a39,b39,f40,_,F40,PySem.W.mg_of X G a40,b40,f41,_,F41,PySem.W.mg_of X G a41,b41,PySem.W.mg_none_of X G z0,PySem.W.mg_none_of X G z1,PySem.W.mg_none_of X G z2,PySem.W.mg_none_of X G z3,PySem.W.mg_none_of X G z4,PySem.W.mg_none_of X G z5,PySem.W.mg_none_of X G z6,PySem.W.mg_none_of X G z7,PySem.W.mg_none_of X G z8,PySem.W.mg_none_of X G z9,PySem.W.mg_none_of X G z10,C_NotHeld,PySem.W.mg_of X G ea_NotHeld,ex_NotHeld,C_TooFew,PySem.W.mg_of X G ea_TooFew,ex_TooFew,sub_of_mro u_NotHeld_NotHeld,sub_of_mro u_TooFew_NotHeld⟩,rfl,fun s v=>.of_eq rfl⟩
 have e2:=hfa.symm.trans T.m_law
 cases e2
 exact ⟨T.d_law,b,fun base _ _=>ok_law T⟩
theorem walk {l : PySem.W.OpenLaw} {q : Program} {loose : List Str} {XP : (Str → Option Value) → Heap → Prop} {YP : World → Heap → Prop} {d : DefRec} {K : Params → PySem.W.Frag} (hn : l.most = some 63) (hdf : d.params.defaults = [])
 (hY : ∀ (w : World) (h : Heap),YP w h → (K w.params).In h)
 (F : ∀ (w : World) (mg : Str → Option Value) (fa : Addr) (h : Heap),(K w.params).In h → h.Ns mainGlobals mg → mg d.name = some (.ref fa) →
   ∃ fd : FuncData,(∀ (s : Shared) (u : Value),BindsTo s fd ⟨[u],[]⟩ [("script",u)]) ∧ ∀ base : Heap,(K w.params).In base → base.Ns mainGlobals mg → FnOk l.prog w (K w.params) mg base (CXE l.prog w) 60 fa fd ["script"] (spLaw (K w.params))) :
 PySem.W.WalkO q loose XP YP l.row.toRowW d [] (fun f vs=>PySem.call f vs) :=
 L2.walk_of (n:=63) (k:=60) (x:="script") (CX:=fun w=>(CXE l.prog w)) (sp:=fun w=>spLaw (K w.params)) hn (by decide) hdf ⟨rfl,by decide,by decide,rfl⟩ hY F (fun _ _ a ns hl _ hS=>⟨a,ns,rfl,hS,hl,fun _=>rfl⟩) fun _ _ _ _ _ z=>by obtain ⟨_,_,_,_,_,_,_,_,_,_,_,z⟩:=z; exact z
noncomputable def hE (P : Params) (s : Str) (t : Nat) (v : Value) : DictEntry:=⟨PyData.keyHash P s,.str s t,v⟩
noncomputable def hD (n : Nat) (l : List DictEntry) : Obj:=⟨.type "dict",none,.dict l.toArray n,#[]⟩
noncomputable def hF (n : Str) (i : Nat) (m c : Value) : Obj:=⟨.type "function",none,.func (PySem.W.fnOf n n (defArgs (top i)) (defBody (top i)) (defScope (top i)) .none .none .none m none c .none),#[]⟩
noncomputable def hC (n : Str) (k : Nat) (l a f : Int) (r : Addr) (b : Bool) (g : Int) (u : Addr) (x y z : Value) (h : Nat) : Obj:=⟨.type "code",none,.fields #[.str n k,.str n (k + 1),.str "/claim/cut.py" (k + 2),.int l 0,.int a 0,.int 0 0,.int 0 0,.int f 0,.ref r,.bool b,.int g 0,.ref u,.none,x,y,z,.int h 0,.int l 0,.str "/claim/cut.py" (h + 1)],#[]⟩
noncomputable def hK : Params → PySem.W.Frag:=fun P=>(nat_lit 3,hD 55 (hE P "__name__" 165 (.str "law_fewboxes_k92_whole_every_row" 524) :: hE P "__doc__" 166 .none :: hE P "__package__" 167 .none :: hE P "__loader__" 168 (.builtin "__main__.__loader__#opaque") :: hE P "__spec__" 169 .none :: hE P "__annotations__" 170 (.ref 6) :: hE P "__builtins__" 171 (.ref 4) :: hE P "__file__" 173 (.str "/claim/cut.py" 172) :: hE P "__cached__" 174 .none :: hE P "FewError" 206 (.ref 24) :: hE P "TooFew" 222 (.ref 37) :: hE P "NoDeed" 238 (.ref 49) :: hE P "NotHeld" 254 (.ref 61) :: hE P "box_numbers" 263 (.ref 70) :: hE P "shelf_numbers" 270 (.ref 77) :: hE P "check_numbers" 280 (.ref 84) :: hE P "check_deed" 288 (.ref 91) :: hE P "moved_value" 296 (.ref 98) :: hE P "state_behind" 307 (.ref 105) :: hE P "is_leaf" 316 (.ref 112) :: hE P "places" 322 (.ref 117) :: hE P "leaves" 328 (.ref 122) :: hE P "part_at" 338 (.ref 129) :: hE P "place_of" 347 (.ref 136) :: hE P "fresh" 357 (.ref 143) :: hE P "knot_over" 368 (.ref 150) :: hE P "mark_brought" 377 (.ref 157) :: hE P "marked" 386 (.ref 164) :: hE P "moments" 398 (.ref 171) :: hE P "formula_held" 405 (.ref 178) :: hE P "rank" 416 (.ref 185) :: hE P "puts" 424 (.ref 192) :: hE P "must_put" 430 (.ref 197) :: hE P "least" 441 (.ref 204) :: hE P "used_by" 454 (.ref 211) :: hE P "used_puts" 467 (.ref 218) :: hE P "lies_within" 475 (.ref 225) :: hE P "matched" 481 (.ref 230) :: hE P "row_by_shelf" 494 (.ref 237) :: hE P "row_by_boxes" 505 (.ref 244) :: hE P "row_into" 515 (.ref 251) :: hE P "row_for" 523 (.ref 258) :: hE P "_law_at" 534 (.ref 265) :: hE P "_law_names" 547 (.ref 272) :: hE P "_law_shape" 553 (.ref 277) :: hE P "_law_any" 563 (.ref 284) :: hE P "_law_ranks" 574 (.ref 291) :: hE P "_law_deed" 588 (.ref 298) :: hE P "_law_knots" 596 (.ref 305) :: hE P "_law_marked" 611 (.ref 312) :: hE P "_law_wasted" 627 (.ref 319) :: hE P "_law_used" 638 (.ref 326) :: hE P "_law_counted" 644 (.ref 331) :: hE P "_law_matched" 650 (.ref 336) :: hE P "law" 656 (.ref 341) :: [])) ::
 (nat_lit 6,hD 0 ([])) ::
 (nat_lit 24,⟨(.type "type"),none,.cls ⟨"FewError",[(.type "ValueError")],[(.ref 24),(.type "ValueError"),(.type "Exception"),(.type "BaseException"),(.type "object")],23,"FewError",true,[],[(.ref 37),(.ref 49),(.ref 61)],false,none,false⟩,#[some (.ref 15),none,some (.str "FewError" 189),some (.str "FewError" 197),some (.builtin "ValueError.__new__"),some (.bool true)]⟩) ::
 (nat_lit 23,hD 3 (hE P "__module__" 196 (.str "fewboxes.errors" 187) :: hE P "__firstlineno__" 200 (.int 2 199) :: hE P "__static_attributes__" 201 (.ref 22) :: hE P "__weakref__" 203 (.ref 25) :: hE P "__doc__" 204 .none :: [])) ::
 (nat_lit 37,⟨(.type "type"),none,.cls ⟨"TooFew",[(.ref 24)],[(.ref 37),(.ref 24),(.type "ValueError"),(.type "Exception"),(.type "BaseException"),(.type "object")],36,"TooFew",true,[],[],false,none,false⟩,#[some (.ref 28),none,some (.str "TooFew" 207),some (.str "TooFew" 215),some (.builtin "ValueError.__new__"),some (.bool true)]⟩) ::
 (nat_lit 36,hD 2 (hE P "__module__" 214 (.str "fewboxes.errors" 187) :: hE P "__firstlineno__" 218 (.int 4 217) :: hE P "__static_attributes__" 219 (.ref 35) :: hE P "__doc__" 220 .none :: [])) ::
 (nat_lit 49,⟨(.type "type"),none,.cls ⟨"NoDeed",[(.ref 24)],[(.ref 49),(.ref 24),(.type "ValueError"),(.type "Exception"),(.type "BaseException"),(.type "object")],48,"NoDeed",true,[],[],false,none,false⟩,#[some (.ref 40),none,some (.str "NoDeed" 223),some (.str "NoDeed" 231),some (.builtin "ValueError.__new__"),some (.bool true)]⟩) ::
 (nat_lit 48,hD 2 (hE P "__module__" 230 (.str "fewboxes.errors" 187) :: hE P "__firstlineno__" 234 (.int 6 233) :: hE P "__static_attributes__" 235 (.ref 47) :: hE P "__doc__" 236 .none :: [])) ::
 (nat_lit 61,⟨(.type "type"),none,.cls ⟨"NotHeld",[(.ref 24)],[(.ref 61),(.ref 24),(.type "ValueError"),(.type "Exception"),(.type "BaseException"),(.type "object")],60,"NotHeld",true,[],[],false,none,false⟩,#[some (.ref 52),none,some (.str "NotHeld" 239),some (.str "NotHeld" 247),some (.builtin "ValueError.__new__"),some (.bool true)]⟩) ::
 (nat_lit 60,hD 2 (hE P "__module__" 246 (.str "fewboxes.errors" 187) :: hE P "__firstlineno__" 250 (.int 8 249) :: hE P "__static_attributes__" 251 (.ref 59) :: hE P "__doc__" 252 .none :: [])) ::
 (nat_lit 70,hF "box_numbers" 6 (.str "fewboxes.machine" 255) (.ref 69)) ::
 (nat_lit 69,hC "box_numbers" 257 11 1 3 64 true 181 65 (.ref 66) (.ref 67) (.ref 68) 261) ::
 (nat_lit 77,hF "shelf_numbers" 7 (.str "fewboxes.machine" 255) (.ref 76)) ::
 (nat_lit 76,hC "shelf_numbers" 264 17 1 3 71 true 181 72 (.ref 73) (.ref 74) (.ref 75) 268) ::
 (nat_lit 84,hF "check_numbers" 8 (.str "fewboxes.machine" 255) (.ref 83)) ::
 (nat_lit 83,hC "check_numbers" 271 23 3 3 78 true 181 79 (.ref 80) (.ref 81) (.ref 82) 278) ::
 (nat_lit 91,hF "check_deed" 9 (.str "fewboxes.machine" 255) (.ref 90)) ::
 (nat_lit 90,hC "check_deed" 281 27 2 3 85 true 181 86 (.ref 87) (.ref 88) (.ref 89) 286) ::
 (nat_lit 98,hF "moved_value" 10 (.str "fewboxes.machine" 255) (.ref 97)) ::
 (nat_lit 97,hC "moved_value" 289 30 2 3 92 true 181 93 (.ref 94) (.ref 95) (.ref 96) 294) ::
 (nat_lit 105,hF "state_behind" 11 (.str "fewboxes.machine" 255) (.ref 104)) ::
 (nat_lit 104,hC "state_behind" 297 34 3 3 99 true 181 100 (.ref 101) (.ref 102) (.ref 103) 305) ::
 (nat_lit 112,hF "is_leaf" 13 (.str "fewboxes.trees" 308) (.ref 111)) ::
 (nat_lit 111,hC "is_leaf" 310 43 1 3 106 true 181 107 (.ref 108) (.ref 109) (.ref 110) 314) ::
 (nat_lit 117,hF "places" 14 (.str "fewboxes.trees" 308) (.ref 116)) ::
 (nat_lit 116,hC "places" 317 45 1 3 113 true 181 114 .none .none (.ref 115) 320) ::
 (nat_lit 122,hF "leaves" 15 (.str "fewboxes.trees" 308) (.ref 121)) ::
 (nat_lit 121,hC "leaves" 323 52 1 3 118 true 181 119 .none .none (.ref 120) 326) ::
 (nat_lit 129,hF "part_at" 16 (.str "fewboxes.trees" 308) (.ref 128)) ::
 (nat_lit 128,hC "part_at" 329 54 2 3 123 true 181 124 (.ref 125) (.ref 126) (.ref 127) 336) ::
 (nat_lit 136,hF "place_of" 17 (.str "fewboxes.trees" 308) (.ref 135)) ::
 (nat_lit 135,hC "place_of" 339 59 2 3 130 true 181 131 (.ref 132) (.ref 133) (.ref 134) 345) ::
 (nat_lit 143,hF "fresh" 19 (.str "fewboxes.marks" 348) (.ref 142)) ::
 (nat_lit 142,hC "fresh" 350 65 2 3 137 true 181 138 (.ref 139) (.ref 140) (.ref 141) 355) ::
 (nat_lit 150,hF "knot_over" 20 (.str "fewboxes.marks" 348) (.ref 149)) ::
 (nat_lit 149,hC "knot_over" 358 67 4 3 144 true 181 145 (.ref 146) (.ref 147) (.ref 148) 366) ::
 (nat_lit 157,hF "mark_brought" 21 (.str "fewboxes.marks" 348) (.ref 156)) ::
 (nat_lit 156,hC "mark_brought" 369 74 3 3 151 true 181 152 (.ref 153) (.ref 154) (.ref 155) 375) ::
 (nat_lit 164,hF "marked" 22 (.str "fewboxes.marks" 348) (.ref 163)) ::
 (nat_lit 163,hC "marked" 378 80 3 3 158 true 181 159 (.ref 160) (.ref 161) (.ref 162) 384) ::
 (nat_lit 171,hF "moments" 23 (.str "fewboxes.marks" 348) (.ref 170)) ::
 (nat_lit 170,hC "moments" 387 83 4 3 165 true 181 166 (.ref 167) (.ref 168) (.ref 169) 396) ::
 (nat_lit 178,hF "formula_held" 24 (.str "fewboxes.marks" 348) (.ref 177)) ::
 (nat_lit 177,hC "formula_held" 399 88 1 3 172 true 181 173 (.ref 174) (.ref 175) (.ref 176) 403) ::
 (nat_lit 185,hF "rank" 26 (.str "fewboxes.ranks" 406) (.ref 184)) ::
 (nat_lit 184,hC "rank" 408 91 1 3 179 true 181 180 (.ref 181) (.ref 182) (.ref 183) 414) ::
 (nat_lit 192,hF "puts" 27 (.str "fewboxes.ranks" 406) (.ref 191)) ::
 (nat_lit 191,hC "puts" 417 99 2 3 186 true 181 187 (.ref 188) (.ref 189) (.ref 190) 422) ::
 (nat_lit 197,hF "must_put" 28 (.str "fewboxes.ranks" 406) (.ref 196)) ::
 (nat_lit 196,hC "must_put" 425 101 2 3 193 true 181 194 .none .none (.ref 195) 428) ::
 (nat_lit 204,hF "least" 29 (.str "fewboxes.ranks" 406) (.ref 203)) ::
 (nat_lit 203,hC "least" 431 103 2 3 198 true 181 199 (.ref 200) (.ref 201) (.ref 202) 439) ::
 (nat_lit 211,hF "used_by" 31 (.str "fewboxes.matching" 442) (.ref 210)) ::
 (nat_lit 210,hC "used_by" 444 111 2 3 205 true 181 206 (.ref 207) (.ref 208) (.ref 209) 452) ::
 (nat_lit 218,hF "used_puts" 32 (.str "fewboxes.matching" 442) (.ref 217)) ::
 (nat_lit 217,hC "used_puts" 455 118 2 3 212 true 181 213 (.ref 214) (.ref 215) (.ref 216) 465) ::
 (nat_lit 225,hF "lies_within" 33 (.str "fewboxes.matching" 442) (.ref 224)) ::
 (nat_lit 224,hC "lies_within" 468 127 2 3 219 true 181 220 (.ref 221) (.ref 222) (.ref 223) 473) ::
 (nat_lit 230,hF "matched" 34 (.str "fewboxes.matching" 442) (.ref 229)) ::
 (nat_lit 229,hC "matched" 476 129 4 3 226 true 181 227 .none .none (.ref 228) 479) ::
 (nat_lit 237,hF "row_by_shelf" 36 (.str "fewboxes.maker" 482) (.ref 236)) ::
 (nat_lit 236,hC "row_by_shelf" 484 141 3 3 231 true 181 232 (.ref 233) (.ref 234) (.ref 235) 492) ::
 (nat_lit 244,hF "row_by_boxes" 37 (.str "fewboxes.maker" 482) (.ref 243)) ::
 (nat_lit 243,hC "row_by_boxes" 495 145 4 3 238 true 181 239 (.ref 240) (.ref 241) (.ref 242) 503) ::
 (nat_lit 251,hF "row_into" 38 (.str "fewboxes.maker" 482) (.ref 250)) ::
 (nat_lit 250,hC "row_into" 506 151 4 3 245 true 181 246 (.ref 247) (.ref 248) (.ref 249) 513) ::
 (nat_lit 258,hF "row_for" 39 (.str "fewboxes.maker" 482) (.ref 257)) ::
 (nat_lit 257,hC "row_for" 516 157 2 3 252 true 181 253 (.ref 254) (.ref 255) (.ref 256) 521) ::
 (nat_lit 265,hF "_law_at" 41 (.str "law_fewboxes_k92_whole_every_row" 524) (.ref 264)) ::
 (nat_lit 264,hC "_law_at" 526 161 2 3 259 true 181 260 (.ref 261) (.ref 262) (.ref 263) 532) ::
 (nat_lit 272,hF "_law_names" 42 (.str "law_fewboxes_k92_whole_every_row" 524) (.ref 271)) ::
 (nat_lit 271,hC "_law_names" 535 169 2 3 266 true 181 267 (.ref 268) (.ref 269) (.ref 270) 545) ::
 (nat_lit 277,hF "_law_shape" 43 (.str "law_fewboxes_k92_whole_every_row" 524) (.ref 276)) ::
 (nat_lit 276,hC "_law_shape" 548 182 3 3 273 true 181 274 .none .none (.ref 275) 551) ::
 (nat_lit 284,hF "_law_any" 44 (.str "law_fewboxes_k92_whole_every_row" 524) (.ref 283)) ::
 (nat_lit 283,hC "_law_any" 554 191 1 3 278 true 181 279 (.ref 280) (.ref 281) (.ref 282) 561) ::
 (nat_lit 291,hF "_law_ranks" 45 (.str "law_fewboxes_k92_whole_every_row" 524) (.ref 290)) ::
 (nat_lit 290,hC "_law_ranks" 564 196 2 3 285 true 181 286 (.ref 287) (.ref 288) (.ref 289) 572) ::
 (nat_lit 298,hF "_law_deed" 46 (.str "law_fewboxes_k92_whole_every_row" 524) (.ref 297)) ::
 (nat_lit 297,hC "_law_deed" 575 203 6 3 292 true 181 293 (.ref 294) (.ref 295) (.ref 296) 586) ::
 (nat_lit 305,hF "_law_knots" 47 (.str "law_fewboxes_k92_whole_every_row" 524) (.ref 304)) ::
 (nat_lit 304,hC "_law_knots" 589 214 2 3 299 true 181 300 (.ref 301) (.ref 302) (.ref 303) 594) ::
 (nat_lit 312,hF "_law_marked" 48 (.str "law_fewboxes_k92_whole_every_row" 524) (.ref 311)) ::
 (nat_lit 311,hC "_law_marked" 597 218 4 3 306 true 181 307 (.ref 308) (.ref 309) (.ref 310) 609) ::
 (nat_lit 319,hF "_law_wasted" 49 (.str "law_fewboxes_k92_whole_every_row" 524) (.ref 318)) ::
 (nat_lit 318,hC "_law_wasted" 612 238 4 3 313 true 181 314 (.ref 315) (.ref 316) (.ref 317) 625) ::
 (nat_lit 326,hF "_law_used" 50 (.str "law_fewboxes_k92_whole_every_row" 524) (.ref 325)) ::
 (nat_lit 325,hC "_law_used" 628 263 3 3 320 true 181 321 (.ref 322) (.ref 323) (.ref 324) 636) ::
 (nat_lit 331,hF "_law_counted" 51 (.str "law_fewboxes_k92_whole_every_row" 524) (.ref 330)) ::
 (nat_lit 330,hC "_law_counted" 639 269 3 3 327 true 181 328 .none .none (.ref 329) 642) ::
 (nat_lit 336,hF "_law_matched" 52 (.str "law_fewboxes_k92_whole_every_row" 524) (.ref 335)) ::
 (nat_lit 335,hC "_law_matched" 645 276 4 3 332 true 181 333 .none .none (.ref 334) 648) ::
 (nat_lit 341,hF "law" 53 (.str "law_fewboxes_k92_whole_every_row" 524) (.ref 340)) ::
 (nat_lit 340,hC "law" 651 291 1 3 337 true 181 338 .none .none (.ref 339) 654) :: []
noncomputable def hV : Program:={ PySem.Challenge.pw_fewboxes_k92_whole_every_row with main:={ PySem.Challenge.pw_fewboxes_k92_whole_every_row.main with body:=top 1 :: top 2 :: top 3 :: top 4 :: top 6 :: top 7 :: top 8 :: top 9 :: top 10 :: top 11 :: top 13 :: top 14 :: top 15 :: top 16 :: top 17 :: top 19 :: top 20 :: top 21 :: top 22 :: top 23 :: top 24 :: top 26 :: top 27 :: top 28 :: top 29 :: top 31 :: top 32 :: top 33 :: top 34 :: top 36 :: top 37 :: top 38 :: top 39 :: top 41 :: top 42 :: top 43 :: top 44 :: top 45 :: top 46 :: top 47 :: top 48 :: top 49 :: top 50 :: top 51 :: top 52 :: top 53 :: [] } }
noncomputable def hA : List Addr:=3 :: 6 :: 24 :: 23 :: 37 :: 36 :: 49 :: 48 :: 61 :: 60 :: 70 :: 69 :: 77 :: 76 :: 84 :: 83 :: 91 :: 90 :: 98 :: 97 :: 105 :: 104 :: 112 :: 111 :: 117 :: 116 :: 122 :: 121 :: 129 :: 128 :: 136 :: 135 :: 143 :: 142 :: 150 :: 149 :: 157 :: 156 :: 164 :: 163 :: 171 :: 170 :: 178 :: 177 :: 185 :: 184 :: 192 :: 191 :: 197 :: 196 :: 204 :: 203 :: 211 :: 210 :: 218 :: 217 :: 225 :: 224 :: 230 :: 229 :: 237 :: 236 :: 244 :: 243 :: 251 :: 250 :: 258 :: 257 :: 265 :: 264 :: 272 :: 271 :: 277 :: 276 :: 284 :: 283 :: 291 :: 290 :: 298 :: 297 :: 305 :: 304 :: 312 :: 311 :: 319 :: 318 :: 326 :: 325 :: 331 :: 330 :: 336 :: 335 :: 341 :: 340 :: []
noncomputable def hT (P : Params) : PySem.W.BT:=([PySem.W.boot_o_0 P,PySem.W.boot_o_1 P,PySem.W.boot_o_2 P,PySem.W.boot_o_3 P,PySem.W.boot_o_4 P,PySem.W.boot_o_5 P,PySem.W.boot_o_6 P,PySem.W.boot_o_7 P,PySem.W.boot_o_8 P,PySem.W.boot_o_9 P,PySem.W.boot_o_10 P,⟨(.type "tuple"),none,.seq #[] 0,#[]⟩,⟨.none,none,.fields #[],#[]⟩,hC "<module>" 182 1 0 0 11 false 181 12 .none .none .none 185,⟨(.type "frame"),none,.plain,#[some (.ref 13),some (.ref 3),some (.ref 3),none,some (.str "__main__" 164),none,some (.ref 0)]⟩].foldl (fun (x : PySem.W.BT × Nat) o=>(x.1.ins x.2 o,x.2 + 1)) (.nil,0)).1
noncomputable def hS (w : World) (os : OsState) : PySem.W.SharedT:=⟨hT w.params,15,{},Array.mk [],{},187,os⟩
noncomputable def hN : Env:={ scope:=PySem.Challenge.pw_fewboxes_k92_whole_every_row.main.scope,locals:=mainNs,globals:=mainNs,cells:=[],code:=(.ref 13),frame:=some 14 }
noncomputable abbrev hb : List Stmt:=PySem.W.behindTheImports PySem.Challenge.pw_fewboxes_k92_whole_every_row
theorem h1 (w : World) (os : OsState) : PySem.W.topGo PySem.W.Fast.tw14364793385576792824 PySem.Challenge.pw_fewboxes_k92_whole_every_row w 11 (some (.ref 6)) 12 ⟨PySem.W.boot_heap w.params,Array.mk [],PySem.W.boot_drawn,PySem.W.boot_toks,os⟩ (PySem.W.topStub PySem.Challenge.pw_fewboxes_k92_whole_every_row) = some ((hS w os).abs,⟨denote PySem.W.Fast.tw14364793385576792824 (.body hb hN),.body hb hN,⟨0,0,0,0⟩,[PySem.W.topFrame ⟨0,0,0,0⟩]⟩):=by
 kernel_rfl
theorem h2 (w : World) (os : OsState) : PySem.W.segRun PySem.W.Fast.tw14364793385576792824 PySem.Challenge.pw_fewboxes_k92_whole_every_row w 11 (some (.ref 6)) 1 1 (hS w os).abs (PySem.W.blockOf hb hN (.body hb hN) ⟨0,0,0,0⟩ [PySem.W.topFrame ⟨0,0,0,0⟩]) = some (.next,(hS w os).abs,.body hb hN,⟨0,0,0,0⟩):=by
 kernel_rfl
noncomputable def hU (l : List Value) : Obj:=⟨.type "tuple",none,.seq l.toArray 0,#[]⟩
noncomputable def hZ (l : List Value) : Obj:=⟨.none,none,.fields l.toArray,#[]⟩
noncomputable def hG (n : Str) (i : Nat) : Obj:=⟨.none,none,.func ⟨n,n,defArgs (top i),.stmts (defBody (top i)),defScope (top i),0,[],.none,.none,.none,.none,none,.none,.none,0⟩,#[]⟩
noncomputable def hT1 (P : Params) : PySem.W.BT:=((PySem.W.boot_o_0 P ::
 PySem.W.boot_o_1 P ::
 PySem.W.boot_o_2 P ::
 hD 22 (hE P "__name__" 165 (.str "fewboxes.trees" 308) :: hE P "__doc__" 166 .none :: hE P "__package__" 167 .none :: hE P "__loader__" 168 (.builtin "__main__.__loader__#opaque") :: hE P "__spec__" 169 .none :: hE P "__annotations__" 170 (.ref 6) :: hE P "__builtins__" 171 (.ref 4) :: hE P "__file__" 173 (.str "/claim/cut.py" 172) :: hE P "__cached__" 174 .none :: hE P "FewError" 206 (.ref 24) :: hE P "TooFew" 222 (.ref 37) :: hE P "NoDeed" 238 (.ref 49) :: hE P "NotHeld" 254 (.ref 61) :: hE P "box_numbers" 263 (.ref 70) :: hE P "shelf_numbers" 270 (.ref 77) :: hE P "check_numbers" 280 (.ref 84) :: hE P "check_deed" 288 (.ref 91) :: hE P "moved_value" 296 (.ref 98) :: hE P "state_behind" 307 (.ref 105) :: hE P "is_leaf" 316 (.ref 112) :: hE P "places" 322 (.ref 117) :: hE P "leaves" 328 (.ref 122) :: []) ::
 PySem.W.boot_o_4 P ::
 PySem.W.boot_o_5 P ::
 PySem.W.boot_o_6 P ::
 PySem.W.boot_o_7 P ::
 PySem.W.boot_o_8 P ::
 PySem.W.boot_o_9 P ::
 PySem.W.boot_o_10 P ::
 hU [] ::
 hZ [(.int 2 0),(.int 0 0),(.ref 20),(.int 4 0),(.int 0 0),(.ref 33),(.int 6 0),(.int 0 0),(.ref 45),(.int 8 0),(.int 0 0),(.ref 57),(.int 11 0),(.int 0 0),(.ref 69),(.int 17 0),(.int 0 0),(.ref 76),(.int 23 0),(.int 0 0),(.ref 83),(.int 27 0),(.int 0 0),(.ref 90),(.int 30 0),(.int 0 0),(.ref 97),(.int 34 0),(.int 0 0),(.ref 104),(.int 43 0),(.int 0 0),(.ref 111),(.int 45 0),(.int 0 0),(.ref 116),(.int 52 0),(.int 0 0),(.ref 121)] ::
 hC "<module>" 182 1 0 0 11 false 181 12 .none .none .none 185 ::
 ⟨(.type "frame"),none,.plain,#[some (.ref 13),some (.ref 3),some (.ref 3),none,some (.str "__main__" 164),none,some (.ref 0)]⟩ ::
 hU [(.type "ValueError")] ::
 ⟨(.type "builtin_function_or_method"),none,.fields #[(.builtin "type.__prepare__"),(.type "type")],#[]⟩ ::
 hD 4 (hE P "__module__" 196 (.str "fewboxes.errors" 187) :: hE P "__qualname__" 198 (.str "FewError" 197) :: hE P "__firstlineno__" 200 (.int 2 199) :: hE P "__static_attributes__" 201 (.ref 22) :: []) ::
 hU [] ::
 hZ [] ::
 hC "FewError" 191 2 0 0 18 false 181 19 .none .none .none 194 ::
 ⟨(.type "frame"),none,.plain,#[some (.ref 20),some (.ref 3),some (.ref 17),none,some (.str "fewboxes.errors" 187),none,some (.ref 0)]⟩ ::
 hU [] ::
 hD 3 (hE P "__module__" 196 (.str "fewboxes.errors" 187) :: hE P "__firstlineno__" 200 (.int 2 199) :: hE P "__static_attributes__" 201 (.ref 22) :: hE P "__weakref__" 203 (.ref 25) :: hE P "__doc__" 204 .none :: []) ::
 ⟨(.type "type"),none,.cls ⟨"FewError",[(.type "ValueError")],[(.ref 24),(.type "ValueError"),(.type "Exception"),(.type "BaseException"),(.type "object")],23,"FewError",true,[],[(.ref 37),(.ref 49),(.ref 61)],false,none,false⟩,#[some (.ref 15),none,some (.str "FewError" 189),some (.str "FewError" 197),some (.builtin "ValueError.__new__"),some (.bool true)]⟩ ::
 ⟨(.type "getset_descriptor"),none,.fields #[(.str "__weakref__" 202),(.ref 24),(.builtin "ExceptionGroup.__weakref__"),.none],#[]⟩ ::
 ⟨(.type "super"),none,.fields #[(.ref 24),(.ref 24),(.ref 24)],#[]⟩ ::
 ⟨(.type "builtin_function_or_method"),none,.fields #[(.builtin "object.__init_subclass__"),(.ref 24)],#[]⟩ ::
 hU [(.ref 24)] ::
 ⟨(.type "builtin_function_or_method"),none,.fields #[(.builtin "type.__prepare__"),(.type "type")],#[]⟩ ::
 hD 4 (hE P "__module__" 214 (.str "fewboxes.errors" 187) :: hE P "__qualname__" 216 (.str "TooFew" 215) :: hE P "__firstlineno__" 218 (.int 4 217) :: hE P "__static_attributes__" 219 (.ref 35) :: []) ::
 hU [] ::
 hZ [] ::
 hC "TooFew" 209 4 0 0 31 false 181 32 .none .none .none 212 ::
 ⟨(.type "frame"),none,.plain,#[some (.ref 33),some (.ref 3),some (.ref 30),none,some (.str "fewboxes.errors" 187),none,some (.ref 0)]⟩ ::
 hU [] ::
 hD 2 (hE P "__module__" 214 (.str "fewboxes.errors" 187) :: hE P "__firstlineno__" 218 (.int 4 217) :: hE P "__static_attributes__" 219 (.ref 35) :: hE P "__doc__" 220 .none :: []) ::
 ⟨(.type "type"),none,.cls ⟨"TooFew",[(.ref 24)],[(.ref 37),(.ref 24),(.type "ValueError"),(.type "Exception"),(.type "BaseException"),(.type "object")],36,"TooFew",true,[],[],false,none,false⟩,#[some (.ref 28),none,some (.str "TooFew" 207),some (.str "TooFew" 215),some (.builtin "ValueError.__new__"),some (.bool true)]⟩ ::
 ⟨(.type "super"),none,.fields #[(.ref 37),(.ref 37),(.ref 37)],#[]⟩ ::
 ⟨(.type "builtin_function_or_method"),none,.fields #[(.builtin "object.__init_subclass__"),(.ref 37)],#[]⟩ ::
 hU [(.ref 24)] ::
 ⟨(.type "builtin_function_or_method"),none,.fields #[(.builtin "type.__prepare__"),(.type "type")],#[]⟩ ::
 hD 4 (hE P "__module__" 230 (.str "fewboxes.errors" 187) :: hE P "__qualname__" 232 (.str "NoDeed" 231) :: hE P "__firstlineno__" 234 (.int 6 233) :: hE P "__static_attributes__" 235 (.ref 47) :: []) ::
 hU [] ::
 hZ [] ::
 hC "NoDeed" 225 6 0 0 43 false 181 44 .none .none .none 228 ::
 ⟨(.type "frame"),none,.plain,#[some (.ref 45),some (.ref 3),some (.ref 42),none,some (.str "fewboxes.errors" 187),none,some (.ref 0)]⟩ ::
 hU [] ::
 hD 2 (hE P "__module__" 230 (.str "fewboxes.errors" 187) :: hE P "__firstlineno__" 234 (.int 6 233) :: hE P "__static_attributes__" 235 (.ref 47) :: hE P "__doc__" 236 .none :: []) ::
 ⟨(.type "type"),none,.cls ⟨"NoDeed",[(.ref 24)],[(.ref 49),(.ref 24),(.type "ValueError"),(.type "Exception"),(.type "BaseException"),(.type "object")],48,"NoDeed",true,[],[],false,none,false⟩,#[some (.ref 40),none,some (.str "NoDeed" 223),some (.str "NoDeed" 231),some (.builtin "ValueError.__new__"),some (.bool true)]⟩ ::
 ⟨(.type "super"),none,.fields #[(.ref 49),(.ref 49),(.ref 49)],#[]⟩ ::
 ⟨(.type "builtin_function_or_method"),none,.fields #[(.builtin "object.__init_subclass__"),(.ref 49)],#[]⟩ ::
 hU [(.ref 24)] ::
 ⟨(.type "builtin_function_or_method"),none,.fields #[(.builtin "type.__prepare__"),(.type "type")],#[]⟩ ::
 hD 4 (hE P "__module__" 246 (.str "fewboxes.errors" 187) :: hE P "__qualname__" 248 (.str "NotHeld" 247) :: hE P "__firstlineno__" 250 (.int 8 249) :: hE P "__static_attributes__" 251 (.ref 59) :: []) ::
 hU [] ::
 hZ [] ::
 hC "NotHeld" 241 8 0 0 55 false 181 56 .none .none .none 244 ::
 ⟨(.type "frame"),none,.plain,#[some (.ref 57),some (.ref 3),some (.ref 54),none,some (.str "fewboxes.errors" 187),none,some (.ref 0)]⟩ ::
 hU [] ::
 hD 2 (hE P "__module__" 246 (.str "fewboxes.errors" 187) :: hE P "__firstlineno__" 250 (.int 8 249) :: hE P "__static_attributes__" 251 (.ref 59) :: hE P "__doc__" 252 .none :: []) ::
 ⟨(.type "type"),none,.cls ⟨"NotHeld",[(.ref 24)],[(.ref 61),(.ref 24),(.type "ValueError"),(.type "Exception"),(.type "BaseException"),(.type "object")],60,"NotHeld",true,[],[],false,none,false⟩,#[some (.ref 52),none,some (.str "NotHeld" 239),some (.str "NotHeld" 247),some (.builtin "ValueError.__new__"),some (.bool true)]⟩ ::
 ⟨(.type "super"),none,.fields #[(.ref 61),(.ref 61),(.ref 61)],#[]⟩ ::
 ⟨(.type "builtin_function_or_method"),none,.fields #[(.builtin "object.__init_subclass__"),(.ref 61)],#[]⟩ ::
 hU [] ::
 hZ [] ::
 hU [(.str "deed" 260)] ::
 hU [] ::
 hG "box_numbers" 6 ::
 hC "box_numbers" 257 11 1 3 64 true 181 65 (.ref 66) (.ref 67) (.ref 68) 261 ::
 hF "box_numbers" 6 (.str "fewboxes.machine" 255) (.ref 69) ::
 hU [] ::
 hZ [] ::
 hU [(.str "deed" 267)] ::
 hU [] ::
 hG "shelf_numbers" 7 ::
 hC "shelf_numbers" 264 17 1 3 71 true 181 72 (.ref 73) (.ref 74) (.ref 75) 268 ::
 hF "shelf_numbers" 7 (.str "fewboxes.machine" 255) (.ref 76) ::
 hU [] ::
 hZ [] ::
 hU [(.str "deed" 274),(.str "asked" 275),(.str "there" 276),(.str "number" 277)] ::
 hU [] ::
 hG "check_numbers" 8 ::
 hC "check_numbers" 271 23 3 3 78 true 181 79 (.ref 80) (.ref 81) (.ref 82) 278 ::
 hF "check_numbers" 8 (.str "fewboxes.machine" 255) (.ref 83) ::
 hU [] ::
 hZ [] ::
 hU [(.str "deed" 284),(.str "state" 285)] ::
 hU [] ::
 hG "check_deed" 9 ::
 hC "check_deed" 281 27 2 3 85 true 181 86 (.ref 87) (.ref 88) (.ref 89) 286 ::
 hF "check_deed" 9 (.str "fewboxes.machine" 255) (.ref 90) ::
 hU [] ::
 hZ [] ::
 hU [(.str "deed" 292),(.str "state" 293)] ::
 hU [] ::
 hG "moved_value" 10 ::
 hC "moved_value" 289 30 2 3 92 true 181 93 (.ref 94) (.ref 95) (.ref 96) 294 ::
 hF "moved_value" 10 (.str "fewboxes.machine" 255) (.ref 97) ::
 hU [] ::
 hZ [] ::
 hU [(.str "deed" 300),(.str "state" 301),(.str "value" 302),(.str "boxes" 303),(.str "shelf" 304)] ::
 hU [] ::
 hG "state_behind" 11 ::
 hC "state_behind" 297 34 3 3 99 true 181 100 (.ref 101) (.ref 102) (.ref 103) 305 ::
 hF "state_behind" 11 (.str "fewboxes.machine" 255) (.ref 104) ::
 hU [] ::
 hZ [] ::
 hU [(.str "tree" 313)] ::
 hU [] ::
 hG "is_leaf" 13 ::
 hC "is_leaf" 310 43 1 3 106 true 181 107 (.ref 108) (.ref 109) (.ref 110) 314 ::
 hF "is_leaf" 13 (.str "fewboxes.trees" 308) (.ref 111) ::
 hU [] ::
 hZ [] ::
 hG "places" 14 ::
 hC "places" 317 45 1 3 113 true 181 114 .none .none (.ref 115) 320 ::
 hF "places" 14 (.str "fewboxes.trees" 308) (.ref 116) ::
 hU [] ::
 hZ [] ::
 hG "leaves" 15 ::
 hC "leaves" 323 52 1 3 118 true 181 119 .none .none (.ref 120) 326 ::
 hF "leaves" 15 (.str "fewboxes.trees" 308) (.ref 121) :: []).foldl (fun (x : PySem.W.BT × Nat) o=>(x.1.ins x.2 o,x.2 + 1)) (.nil,0)).1
noncomputable def hS1 (w : World) (os : OsState) : PySem.W.SharedT:=⟨hT1 w.params,123,{},Array.mk [],{},329,os⟩
theorem hM (w : World) (os : OsState) : PySem.W.segRunT PySem.W.Fast.tw14364793385576792824 PySem.Challenge.pw_fewboxes_k92_whole_every_row w 11 (some (.ref 6)) 1 1136 (hS w os) (PySem.W.piecesOf (hb.take 16) hN (.body hb hN) ⟨0,0,0,0⟩ [PySem.W.topFrame ⟨0,0,0,0⟩]) = some (.next,hS1 w os,.body hb hN,⟨52,0,53,77⟩):=by
 kernel_rfl
noncomputable def hP (w : World) : Prop:=(fun os=>(PySem.W.segRunT PySem.W.Fast.tw14364793385576792824 PySem.Challenge.pw_fewboxes_k92_whole_every_row w 11 (some (.ref 6)) 1 1097 (hS1 w os) (PySem.W.piecesOf (hb.drop 16) hN (.body hb hN) ⟨52,0,53,77⟩ [PySem.W.topFrame ⟨0,0,0,0⟩])).map (fun x=>(x.1,x.2.2.1,x.2.2.2,(PySem.W.topRun PySem.W.Fast.tw14364793385576792824 PySem.Challenge.pw_fewboxes_k92_whole_every_row w 11 (some (.ref 6)) 2 x.2.1.abs ⟨PySem.W.doneF .next,.body hb hN,⟨291,0,313,79⟩,[PySem.W.topFrame ⟨0,0,0,0⟩]⟩).map fun s =>
 ((PySem.W.staticsOk (PySem.W.Fast.tw5923862056798008813 PySem.Challenge.pw_fewboxes_k92_whole_every_row.main.body) (PySem.W.boot_heap w.params) s.heap && PySem.W.namesBound PySem.Challenge.pw_fewboxes_k92_whole_every_row s.heap && PySem.W.gensDone s && PySem.W.laidKept (PySem.W.boot_heap w.params) s.heap),PySem.W.Fast.tw4187177175401517315 hV [] (PySem.W.Fast.tw5923862056798008813 PySem.Challenge.pw_fewboxes_k92_whole_every_row.main.body) (fun s=>PySem.W.xlAt hV [] s && PySem.W.recOk (PySem.W.Fast.tw2368527892694137696 PySem.Challenge.rw_fewboxes_k92_whole_every_row).toRowW.records s) true s,hA.map s.heap.get?)))) = fun _=>some (.next,.body hb hN,⟨291,0,313,79⟩,some (true,PySem.W.openGood hV [],(hK w.params).map fun p=>some p.2))
theorem hW (w : World) : hP w:=by
 unfold hP
 kernel_rfl
end K92
open PySem PySem.W PyProof.Rows
set_option maxRecDepth 100000 in
set_option maxHeartbeats 0 in
theorem PySem.Challenge.cw_fewboxes_k92_whole_every_row_holds : PySem.Challenge.rw_fewboxes_k92_whole_every_row.Holds := by
 w_on; o_law
 refine holds_open (q := K92.hV) (loose := []) (Xt := fun s => xlAt K92.hV [] s && recOk (PySem.Challenge.rw_fewboxes_k92_whole_every_row.row.toRowW.records) s) (XP := XL K92.hV []) (Yf := fun s => K92.hA.map s.heap.get?) (Ya := fun w => (K92.hK w.params).map fun p => some p.2) (YP := InK K92.hK) (N := 4512) ?hl (InK.of fun _ => by kernel_rfl) InK.keeps
  (fun s e => xl_of s (Bool.and_eq_true_iff.mp e).1) XL.keeps (by rfl) (by rfl) (by rfl) (fun s e => recFacts_of (Bool.and_eq_true_iff.mp e).2) (by rfl) (by assumption) (by decide +kernel) ⟨rfl,rfl,rfl,rfl,rfl,by decide +kernel⟩ ?hw ?hc
 case hl =>
  refine L2.left_tree2 (p := PySem.Challenge.pw_fewboxes_k92_whole_every_row) (S := K92.hS) (S1 := K92.hS1) (b' := K92.hb.take 16) (b2 := K92.hb.drop 16) (F1 := 1136) (ps1 := ⟨52,0,53,77⟩) (b := K92.hb) (env := K92.hN) (m₀ := 11) (ann := some (.ref 6)) (a := 12) (b1 := 1) (F := 1097) (G := 2) (ps := ⟨0,0,0,0⟩) (ps' := ⟨0,0,0,0⟩) (pl := ⟨291,0,313,79⟩) (fq := ⟨0,0,0,0⟩) (List.take_append_drop _ _) (by kernel_rfl) (fun _ => rfl) (by decide) (fun _ => by kernel_rfl) ?_ ?_ ?_ ?_ (by decide)
  · rw [PySem.W.Fast.te14364793385576792824]; exact K92.h1
  · rw [PySem.W.Fast.te14364793385576792824]; exact K92.h2
  · rw [PySem.W.Fast.te14364793385576792824]; exact K92.hM
  · rw [PySem.W.Fast.te4187177175401517315,PySem.W.Fast.te5923862056798008813,PySem.W.Fast.te2368527892694137696,PySem.W.Fast.te14364793385576792824]; exact fun w os => congrFun (K92.hW w) os
 case hw => w_witness2
 k_fill
 refine K92.walk (l := PySem.Challenge.rw_fewboxes_k92_whole_every_row) rfl rfl (fun w h Y => Y) ?F
 case F =>
  intro w mg fa h KX G hmg
  refine' K92.all_mk KX G ?a0 ?l0 ?c0 ?k0 ?a1 ?l1 ?c1 ?k1 ?a2 ?l2 ?c2 ?k2 ?a3 ?l3 ?c3 ?k3 ?a4 ?l4 ?c4 ?k4 ?a5 ?l5 ?c5 ?k5 ?a6 ?l6 ?c6 ?k6 ?a7 ?l7 ?c7 ?k7 ?a8 ?l8 ?c8 ?k8 ?a9 ?l9 ?c9 ?k9 ?a10 ?l10 ?c10 ?k10 ?a11 ?l11 ?c11 ?k11 ?a12 ?l12 ?c12 ?k12 ?a13 ?l13 ?c13 ?k13 ?a14 ?l14 ?c14 ?k14 ?a15 ?l15 ?c15 ?k15 ?a16 ?l16 ?c16 ?k16 ?a17 ?l17 ?c17 ?k17 ?a18 ?l18 ?c18 ?k18 ?a19 ?l19 ?c19 ?k19 ?a20 ?l20 ?c20 ?k20 ?a21 ?l21 ?c21 ?k21 ?a22 ?l22 ?c22 ?k22 ?a23 ?l23 ?c23 ?k23 ?a24 ?l24 ?c24 ?k24 ?a25 ?l25 ?c25 ?k25 ?a26 ?l26 ?c26 ?k26 ?a27 ?l27 ?c27 ?k27 ?a28 ?l28 ?c28 ?k28 ?a29 ?l29 ?c29 ?k29 ?a30 ?l30 ?c30 ?k30 ?a31 ?l31 ?c31 ?k31 ?a32 ?l32 ?c32 ?k32 ?a33 ?l33 ?c33 ?k33 ?a34 ?l34 ?c34 ?k34 ?a35 ?l35 ?c35 ?k35 ?a36 ?l36 ?c36 ?k36 ?a37 ?l37 ?c37 ?k37 ?a38 ?l38 ?c38 ?k38 ?a39 ?l39 ?c39 ?k39 ?a40 ?l40 ?c40 ?k40 ?a41 ?l41 ?c41 ?k41 ?z0 ?z1 ?z2 ?z3 ?z4 ?z5 ?z6 ?z7 ?z8 ?z9 ?z10 ?ea_NotHeld ?ex_NotHeld ?ea_TooFew ?ex_TooFew ?u_NotHeld_NotHeld ?u_TooFew_NotHeld hmg
  (case a0 => k_is)
  (case l0 => k_is)
  (case c0 => k_is)
  (case k0 => k_is)
  (case a1 => k_is)
  (case l1 => k_is)
  (case c1 => k_is)
  (case k1 => k_is)
  (case a2 => k_is)
  (case l2 => k_is)
  (case c2 => k_is)
  (case k2 => k_is)
  (case a3 => k_is)
  (case l3 => k_is)
  (case c3 => k_is)
  (case k3 => k_is)
  (case a4 => k_is)
  (case l4 => k_is)
  (case c4 => k_is)
  (case k4 => k_is)
  (case a5 => k_is)
  (case l5 => k_is)
  (case c5 => k_is)
  (case k5 => k_is)
  (case a6 => k_is)
  (case l6 => k_is)
  (case c6 => k_is)
  (case k6 => k_is)
  (case a7 => k_is)
  (case l7 => k_is)
  (case c7 => k_is)
  (case k7 => k_is)
  (case a8 => k_is)
  (case l8 => k_is)
  (case c8 => k_is)
  (case k8 => k_is)
  (case a9 => k_is)
  (case l9 => k_is)
  (case c9 => k_is)
  (case k9 => k_is)
  (case a10 => k_is)
  (case l10 => k_is)
  (case c10 => k_is)
  (case k10 => k_is)
  (case a11 => k_is)
  (case l11 => k_is)
  (case c11 => k_is)
  (case k11 => k_is)
  (case a12 => k_is)
  (case l12 => k_is)
  (case c12 => k_is)
  (case k12 => k_is)
  (case a13 => k_is)
  (case l13 => k_is)
  (case c13 => k_is)
  (case k13 => k_is)
  (case a14 => k_is)
  (case l14 => k_is)
  (case c14 => k_is)
  (case k14 => k_is)
  (case a15 => k_is)
  (case l15 => k_is)
  (case c15 => k_is)
  (case k15 => k_is)
  (case a16 => k_is)
  (case l16 => k_is)
  (case c16 => k_is)
  (case k16 => k_is)
  (case a17 => k_is)
  (case l17 => k_is)
  (case c17 => k_is)
  (case k17 => k_is)
  (case a18 => k_is)
  (case l18 => k_is)
  (case c18 => k_is)
  (case k18 => k_is)
  (case a19 => k_is)
  (case l19 => k_is)
  (case c19 => k_is)
  (case k19 => k_is)
  (case a20 => k_is)
  (case l20 => k_is)
  (case c20 => k_is)
  (case k20 => k_is)
  (case a21 => k_is)
  (case l21 => k_is)
  (case c21 => k_is)
  (case k21 => k_is)
  (case a22 => k_is)
  (case l22 => k_is)
  (case c22 => k_is)
  (case k22 => k_is)
  (case a23 => k_is)
  (case l23 => k_is)
  (case c23 => k_is)
  (case k23 => k_is)
  (case a24 => k_is)
  (case l24 => k_is)
  (case c24 => k_is)
  (case k24 => k_is)
  (case a25 => k_is)
  (case l25 => k_is)
  (case c25 => k_is)
  (case k25 => k_is)
  (case a26 => k_is)
  (case l26 => k_is)
  (case c26 => k_is)
  (case k26 => k_is)
  (case a27 => k_is)
  (case l27 => k_is)
  (case c27 => k_is)
  (case k27 => k_is)
  (case a28 => k_is)
  (case l28 => k_is)
  (case c28 => k_is)
  (case k28 => k_is)
  (case a29 => k_is)
  (case l29 => k_is)
  (case c29 => k_is)
  (case k29 => k_is)
  (case a30 => k_is)
  (case l30 => k_is)
  (case c30 => k_is)
  (case k30 => k_is)
  (case a31 => k_is)
  (case l31 => k_is)
  (case c31 => k_is)
  (case k31 => k_is)
  (case a32 => k_is)
  (case l32 => k_is)
  (case c32 => k_is)
  (case k32 => k_is)
  (case a33 => k_is)
  (case l33 => k_is)
  (case c33 => k_is)
  (case k33 => k_is)
  (case a34 => k_is)
  (case l34 => k_is)
  (case c34 => k_is)
  (case k34 => k_is)
  (case a35 => k_is)
  (case l35 => k_is)
  (case c35 => k_is)
  (case k35 => k_is)
  (case a36 => k_is)
  (case l36 => k_is)
  (case c36 => k_is)
  (case k36 => k_is)
  (case a37 => k_is)
  (case l37 => k_is)
  (case c37 => k_is)
  (case k37 => k_is)
  (case a38 => k_is)
  (case l38 => k_is)
  (case c38 => k_is)
  (case k38 => k_is)
  (case a39 => k_is)
  (case l39 => k_is)
  (case c39 => k_is)
  (case k39 => k_is)
  (case a40 => k_is)
  (case l40 => k_is)
  (case c40 => k_is)
  (case k40 => k_is)
  (case a41 => k_is)
  (case l41 => k_is)
  (case c41 => k_is)
  (case k41 => k_is)
  (case z0 => k_is)
  (case z1 => k_is)
  (case z2 => k_is)
  (case z3 => k_is)
  (case z4 => k_is)
  (case z5 => k_is)
  (case z6 => k_is)
  (case z7 => k_is)
  (case z8 => k_is)
  (case z9 => k_is)
  (case z10 => k_is)
  (case ea_NotHeld => k_is)
  (case ex_NotHeld => k_exc)
  (case ea_TooFew => k_is)
  (case ex_TooFew => k_exc)
  (case u_NotHeld_NotHeld => k_is)
  (case u_TooFew_NotHeld => k_is)
#print axioms PySem.Challenge.cw_fewboxes_k92_whole_every_row_holds
