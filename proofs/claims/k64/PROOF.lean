import PyProof.Rows.All
import Wide.All
import OpenK.AllK
import Wide.FinOn
import Lean
import PyProof.EqAt
import PyProof.EqKinds
import PyProof.NeKinds
import PyProof.TupleCall
import PyProof.WalksEnum
import PyProof.EnumStmt
import PyProof.ZipIter
import PyProof.Draws
import PyProof.EnumMake
import PyProof.WalksMore
import KE.KIntText
import PyProof.CallStr
import PyProof.StrCalls2
import PyProof.StrLawsTight
import PyProof.Rows.StrItems
import PySem.Challenge.RW_fewboxes_k64_judgements_refused
set_option Elab.async false
set_option compiler.extract_closed false
set_option genSizeOf false
set_option linter.all false
set_option maxRecDepth 100000
namespace L2
open PySem PySem.Spec PyProof.Rows
noncomputable abbrev Key:=Sum Int Str
noncomputable def uR:Key→Value→Bool
 | .inl k,v=>Value.isInt k v
 | .inr x,v=>Value.isStrOf x v
noncomputable def Ub (w:World):Key→Int
 | .inl k=>hashInt k
 | .inr x=>hashStr w x
theorem bX:∀{k:Key}{v:Value},uR k v=true→(∃i t,k=Sum.inl i∧v=Value.int i t)∨(∃x t,k=Sum.inr x∧v=Value.str x t)
 | .inl i,v,h=>by
  obtain⟨t,e⟩:=Value.isInt_shape (k:=i) (v:=v) h
  exact .inl ⟨i,t,rfl,e⟩
 | .inr x,v,h=>by
  obtain⟨t,e⟩:=Value.isStrOf_shape (x:=x) (v:=v) h
  exact .inr ⟨x,t,rfl,e⟩
theorem Cd (i:Int) (t:Tok):uR (.inl i) (.int i t)=true:=by simp [uR,Value.isInt]
theorem Cw (x:Str) (t:Tok):uR (.inr x) (.str x t)=true:=by simp [uR,Value.isStrOf]
theorem LV (a b:Int):decide ((Sum.inl a:Key)=Sum.inl b)=(a==b):=by
 by_cases e:a=b
 · subst e;simp
 · have h:¬(Sum.inl a:Key)=Sum.inl b:=fun q=>e (Sum.inl.inj q)
   rw [decide_eq_false h]
   exact(beq_eq_false_iff_ne.mpr e).symm
theorem Nm (a b:Str):decide ((Sum.inr a:Key)=Sum.inr b)=decide (a=b):=by
 by_cases e:a=b
 · subst e;simp
 · have h:¬(Sum.inr a:Key)=Sum.inr b:=fun q=>e (Sum.inr.inj q)
   rw [decide_eq_false h,decide_eq_false e]
theorem MU (a:Int) (b:Str):decide ((Sum.inl a:Key)=Sum.inr b)=false:=decide_eq_false (fun q=>nomatch q)
theorem Me (a:Str) (b:Int):decide ((Sum.inr a:Key)=Sum.inl b)=false:=decide_eq_false (fun q=>nomatch q)
noncomputable def bY (prog:Program) (w:World):PySem.KeyKind prog w Key where
 is:=uR
 hash:=Ub w
 inj:=fun v a b ha hb=>by
  rcases bX ha with ⟨i,t,rfl,rfl⟩|⟨x,t,rfl,rfl⟩
  · rcases bX hb with ⟨j,u,rfl,e⟩|⟨y,u,rfl,e⟩
    · injection e with e1 _;rw [e1]
    · exact nomatch e
  · rcases bX hb with ⟨j,u,rfl,e⟩|⟨y,u,rfl,e⟩
    · exact nomatch e
    · injection e with e1 _;rw [e1]
 byValue:=fun k v h=>by
  rcases bX h with ⟨i,t,rfl,rfl⟩|⟨x,t,rfl,rfl⟩<;>rfl
 pyHash:=fun hv h=>by
  rcases bX hv with ⟨i,t,rfl,rfl⟩|⟨x,t,rfl,rfl⟩
  · exact wpAny_pyHash_int h
  · exact wpAny_pyHash_str h
 eqBool:=fun hu hv h=>by
  rcases bX hu with ⟨i,t,rfl,rfl⟩|⟨x,t,rfl,rfl⟩
  · rcases bX hv with ⟨j,u,rfl,rfl⟩|⟨y,u,rfl,rfl⟩
    · rw [LV] at h;exact wpAny_eqBool_int h
    · rw [MU] at h;exact SeqAt.EqAt.int_str i t y u _ _ _ _ h
  · rcases bX hv with ⟨j,u,rfl,rfl⟩|⟨y,u,rfl,rfl⟩
    · rw [Me] at h;exact SeqAt.EqAt.str_int x t j u _ _ _ _ h
    · rw [Nm] at h;exact wpAny_eqBool_str h
 «strs»:=fun k x t v h=>by
  rcases bX h with ⟨i,u,rfl,e⟩|⟨y,u,rfl,e⟩
  · exact nomatch e
  · injection e with e1 _
    subst e1
    cases v<;>rfl
theorem yv (prog:Program) (w:World) (i:Int) (t:Tok):(bY prog w).is (.inl i) (.int i t)=true:=Cd i t
theorem yA (prog:Program) (w:World) (x:Str) (t:Tok):(bY prog w).is (.inr x) (.str x t)=true:=Cw x t
end L2
namespace L2
open PySem PySem.Spec PyProof.Rows
inductive V where
 | non|bl (b:Bool)|int (i:Int)|str (x:Str)|byt (b:Array UInt8)|flt (b:UInt64)|ref (a:Addr)|ty (n:String)
 deriving DecidableEq
noncomputable def RelV:V→Value→Prop
 | .non,u=>u=Value.none
 | .bl b,u=>u=Value.bool b
 | .int i,u=>∃t,u=Value.int i t
 | .str x,u=>∃t,u=Value.str x t
 | .byt b,u=>∃t,u=Value.bytes b t
 | .flt b,u=>∃t,u=Value.float b t
 | .ref a,u=>u=Value.ref a
 | .ty n,u=>u=Value.type n
noncomputable abbrev Vals:List V→List Value→Prop:=Paired RelV
theorem Vals.length {xs:List V}{us:List Value} (r:Vals xs us):xs.length=us.length:=Paired.length r
theorem Vals.get:∀{xs:List V}{us:List Value}{i:Nat}{x:V},Vals xs us→xs[i]? = some x→∃u,us[i]? = some u∧RelV x u
 | _,_,_,_,.nil,e=>by simp at e
 | _,_,0,_,.cons r _,e=>by simp at e;subst e;exact⟨_,rfl,r⟩
 | _,_,i+1,x,.cons _ t,e=>by
  obtain⟨u,h1,h2⟩:=Vals.get (i:=i) (x:=x) t (by simpa using e)
  exact⟨u,by simpa using h1,h2⟩
theorem Vals.set {x:V}{u:Value} (r:RelV x u):∀{xs:List V}{us:List Value} (i:Nat),Vals xs us→Vals (xs.set i x) (us.set i u)
 | _,_,_,.nil=>.nil
 | _,_,0,.cons _ t=>.cons r t
 | _,_,i+1,.cons q t=>.cons q (Vals.set r i t)
theorem Vals.append:∀{xs ys:List V}{us ws:List Value},Vals xs us→Vals ys ws→Vals (xs++ys) (us++ws)
 | _,_,_,_,.nil,s=>s
 | _,_,_,_,.cons r t,s=>.cons r (Vals.append t s)
theorem Vals.take:∀{xs:List V}{us:List Value} (n:Nat),Vals xs us→Vals (xs.take n) (us.take n)
 | _,_,0,_=>.nil
 | _,_,_+1,.nil=>.nil
 | _,_,n+1,.cons r t=>.cons r (Vals.take n t)
theorem Vals.drop:∀{xs:List V}{us:List Value} (n:Nat),Vals xs us→Vals (xs.drop n) (us.drop n)
 | _,_,0,r=>r
 | _,_,_+1,.nil=>.nil
 | _,_,n+1,.cons _ t=>Vals.drop n t
noncomputable def qD:Option V→Option Value→Prop
 | some v,some u=>RelV v u
 | none,none=>True
 | _,_=>False
noncomputable def KV {κ:Type}:List (κ×V)→List (κ×Value)→Prop:=Paired fun (p:κ×V) (q:κ×Value)=>p.1=q.1∧RelV p.2 q.2
noncomputable def kV:Key→V
 | .inl i=>.int i
 | .inr x=>.str x
inductive HO where
 | lst (xs:List V)
 | tup (xs:List V)
 | dK (aK:List (Key×V))|dT (aK:List (List Key×V))
 | set (S:Int→Bool) (n:Nat)
 | ins (C dx:Addr) (fs:List (Str×V))
 | own (x:Addr)
 | xd (fs:List (Str×V))
 | met (f x:Addr)
 | rng (lo hi:Int)
 | frz (o:Obj) (u:HO)
 | tbl (ps:Array Value)
 | ext (φ:Heap→Prop)
noncomputable abbrev Hp:=Addr→Option HO
noncomputable def upd (H:Hp) (a:Addr) (o:HO):Hp:=fun b=>if b=a then some o else H b
theorem aT {H:Hp}{a:Addr}{o:HO}:upd H a o a=some o:=by unfold upd;rw [if_pos rfl]
theorem aL {H:Hp}{a b:Addr}{o:HO} (h:b≠a):upd H a o b=H b:=by unfold upd;rw [if_neg h]
theorem lM {H:Hp}{a b:Addr}{o u:HO} (h:H a=some o) (h':H b=some u) (d:o≠u):a≠b:=by
 intro e;subst e;rw [h] at h';exact d (Option.some.inj h')
theorem aF {H:Hp}{a b:Addr}{o:HO} (h:H a=some o) (h':H b=none):a≠b:=by
 intro e;subst e;rw [h] at h';cases h'
section
variable (P : Program) (w : World)
noncomputable def bS (H:Hp) (h:Heap) (a:Addr):HO→Prop
 | .lst xs=>xs.length≤sizeLine∧∃(aq:List Value) (n:Nat),Vals xs aq∧h.get? a=some {cls:=.type "list",data:=.seq aq.toArray n}
 | .tup xs=>xs.length≤sizeLine∧∃aq:List Value,Vals xs aq∧IsTup h a aq.toArray
 | .dK aK=>aK.length≤sizeLine∧(a==sysModules)=false∧∃vs,KV aK vs∧h.DictOf (bY P w) a vs
 | .dT aK=>aK.length≤sizeLine∧(a==sysModules)=false∧∃xs:List (List Key×Addr×Value),
  Paired (fun (p:List Key×V) (q:List Key×Addr×Value)=>p.1=q.1∧H q.2.1=some (.tup (p.1.map kV))∧RelV p.2 q.2.2) aK xs∧
  ∃o es ep,h.get? a=some o∧o.ExactDict∧o.data = .dict es ep∧es.toList=xs.map (entryOfKey (tupleKind (bY P w)))∧(xs.map (·.1)).Nodup
 | .set S n=>h.SetOf (intKind P w) a S n
 | .ins C dx fs=>H dx=some (.own a)∧fs.length≤1000∧dx≠a∧h.get? a=some (PySem.W.instObj C dx)∧
  ∃mA,h.Ns1 dx mA∧(∀f,qD (fs.lookup f) (mA f))∧PySem.Within mA (fs.map (·.1))
 | .own _=>∃o,h.get? a=some o
 | .xd fs=>∃mA,h.Ns1 a mA∧∀f,qD (fs.lookup f) (mA f)
 | .rng lo hi=>∃t u v,h.get? a=some {cls:=.type "range",data:=.fields #[.int lo t,.int hi u,.int 1 v]}
 | .frz o u=>h.get? a=some o∧bS H h a u
 | .tbl ps=>h.get? a=some {cls:=.none,data:=.fields ps}
 | .met f x=>h.get? a=some (PySem.W.methodObj (.ref f) (.ref x))
 | .ext φ=>φ h∧(∃o,h.get? a=some o)∧∀h1 h2:Heap,φ h1→(∀o,h1.get? a=some o→h2.get? a=some o)→φ h2
noncomputable def fN (H:Hp) (h:Heap):Prop:=∀a o,H a=some o→bS P w H h a o
end
section
variable {P : Program} {w : World} {H H' : Hp} {h h' : Heap} {a : Addr} {o : HO}
theorem bS.lt (x:bS P w H h a o):a<h.objs.size:=by
 cases o with
 | lst xs=>obtain⟨_,_,_,_,e⟩:=x;exact Heap.lt_size e
 | tup xs=>obtain⟨_,_,_,p⟩:=x;exact p.lt
 | dK aK=>obtain⟨_,_,_,_,o,_,_,e,_⟩:=x;exact Heap.lt_size e
 | dT aK=>obtain⟨_,_,_,_,o,_,_,e,_⟩:=x;exact Heap.lt_size e
 | set S n=>obtain⟨o,_,_,_,e,_⟩:=x;exact Heap.lt_size e
 | ins C dx fs=>obtain⟨_,_,_,e,_⟩:=x;exact Heap.lt_size e
 | own y=>obtain⟨_,e⟩:=x;exact Heap.lt_size e
 | xd fs=>obtain⟨_,⟨_,_,_,e,_⟩,_⟩:=x;exact Heap.lt_size e
 | rng lo hi=>obtain⟨_,_,_,e⟩:=x;exact Heap.lt_size e
 | frz ob u=>obtain⟨e,_⟩:=x;exact Heap.lt_size e
 | tbl ps=>exact Heap.lt_size (show h.get? a=some _ from x)
 | met f y=>exact Heap.lt_size (show h.get? a=some _ from x)
 | ext φ=>obtain⟨_,⟨_,e⟩,_⟩:=x;exact Heap.lt_size e
theorem Paired.Lj {α β:Type}{F G:α→β→Prop}:∀{l₁:List α}{l₂:List β},Paired F l₁ l₂→(∀a b,F a b→G a b)→Paired G l₁ l₂
 | _,_,.nil,_=>.nil
 | _,_,.cons r t,f=>.cons (f _ _ r) (Paired.Lj t f)
theorem bS.gP (x:bS P w H h a o) (k:∀b u,(b=a∨H b=some (.own a))→h.get? b=some u→h'.get? b=some u)
 (ho:∀b,H b=some (.own a)→H' b=some (.own a)) (ht:∀b xs,H b=some (.tup xs)→H' b=some (.tup xs)):bS P w H' h' a o:=by
 induction o with
 | lst xs=>obtain⟨z,aq,n,r,e⟩:=x;exact⟨z,aq,n,r,k _ _ (.inl rfl) e⟩
 | tup xs=>obtain⟨z,aq,r,ob,e,c⟩:=x;exact⟨z,aq,r,ob,k _ _ (.inl rfl) e,c⟩
 | dK aK=>obtain⟨z,y,vs,r,ob,es,ep,e,c⟩:=x;exact⟨z,y,vs,r,ob,es,ep,k _ _ (.inl rfl) e,c⟩
 | dT aK=>
  obtain⟨z,y,xs,r,ob,es,ep,e,c⟩:=x
  exact⟨z,y,xs,Paired.Lj r fun p q z=>⟨z.1,ht _ _ z.2.1,z.2.2⟩,ob,es,ep,k _ _ (.inl rfl) e,c⟩
 | set S n=>obtain⟨ob,es,ep,t,e,c⟩:=x;exact⟨ob,es,ep,t,k _ _ (.inl rfl) e,c⟩
 | ins C dx fs=>
  obtain⟨d,z,ne,e,mA,⟨od,es,ep,e2,c⟩,r⟩:=x
  exact⟨ho _ d,z,ne,k _ _ (.inl rfl) e,mA,⟨od,es,ep,k _ _ (.inr d) e2,c⟩,r⟩
 | own y=>obtain⟨ob,e⟩:=x;exact⟨ob,k _ _ (.inl rfl) e⟩
 | xd fs=>obtain⟨mA,⟨od,es,ep,e,c⟩,r⟩:=x;exact⟨mA,⟨od,es,ep,k _ _ (.inl rfl) e,c⟩,r⟩
 | rng lo hi=>obtain⟨t,u,v,e⟩:=x;exact⟨t,u,v,k _ _ (.inl rfl) e⟩
 | frz ob u ih=>obtain⟨e,q⟩:=x;exact⟨k _ _ (.inl rfl) e,ih q⟩
 | tbl ps=>
  have e:h.get? a=some {cls:=.none,data:=.fields ps}:=x
  show h'.get? a=some {cls:=.none,data:=.fields ps}
  exact k a _ (.inl rfl) e
 | met f y=>
  have e:h.get? a=some (PySem.W.methodObj (.ref f) (.ref y)):=x
  show h'.get? a=some (PySem.W.methodObj (.ref f) (.ref y))
  exact k a _ (.inl rfl) e
 | ext φ=>obtain⟨p,⟨o,e⟩,st⟩:=x;exact⟨st _ _ p fun o q=>k _ _ (.inl rfl) q,⟨o,k _ _ (.inl rfl) e⟩,st⟩
theorem fN.lt (x:fN P w H h) (e:H a=some o):a<h.objs.size:=(x a o e).lt
theorem fN.fresh (x:fN P w H h) (e:h.objs.size≤a):H a=none:=by
 cases q:H a with
 | none=>rfl
 | some u=>exact absurd (Nat.lt_of_lt_of_le (x.lt q) e) (Nat.lt_irrefl _)
theorem fN.kept (x:fN P w H h) (k:∀b u,h.get? b=some u→h'.get? b=some u):fN P w H h':=fun a o e=>
 (x a o e).gP (fun b u _ q=>k b u q) (fun _ q=>q) fun _ _ q=>q
theorem fN.laid (x:fN P w H h) (k:∀b u,h.get? b=some u→h'.get? b=some u) (hp:h.objs.size≤a) (new:bS P w (upd H a o) h' a o):fN P w (upd H a o) h':=fun b u e=>by
 have hn:=x.fresh hp
 by_cases hb:b=a
 · subst hb;rw [aT] at e;cases e;exact new
 · rw [aL hb] at e
   exact(x b u e).gP (fun c v _ q=>k c v q) (fun c q=>by rw [aL (aF q hn)];exact q) fun c xs q=>by rw [aL (aF q hn)];exact q
end
noncomputable def Rd (H:Hp) (a:Addr) (u:HO):Prop:=H a=some u∨∃o,H a=some (.frz o u)
theorem Rd.of {H:Hp}{a:Addr}{u:HO} (h:H a=some u):Rd H a u:=.inl h
theorem Rd.ok {P:Program}{w:World}{H:Hp}{h:Heap}{a:Addr}{u:HO} (r:Rd H a u) (x:fN P w H h):bS P w H h a u:=by
 rcases r with r|⟨o,r⟩
 · exact x a u r
 · obtain⟨_,q⟩:=x a _ r
   exact q
noncomputable def QB:Option HO→Prop
 | some (.lst _)=>True
 | some (.dK _)=>True
 | some (.dT _)=>True
 | some (.set _ _)=>True
 | some (.ins _ _ _)=>True
 | some (.ext _)=>True
 | _=>False
section
variable {P : Program} {w : World} {H : Hp} {h h' : Heap} {x e : Addr} {o' : HO}
theorem fN.write (ok:fN P w H h) (mu:QB (H x)) (he:e=x∨H e=some (.own x)) (k:∀b u,b≠e→h.get? b=some u→h'.get? b=some u) (NU:∃u,h'.get? e=some u)
 (new:bS P w (upd H x o') h' x o'):fN P w (upd H x o') h':=fun b u q=>by
 have QV:∀c y,H c=some (.own y)→c≠x:=fun c y r z=>by subst z;rw [r] at mu;exact mu
 have aaH:∀c xs,H c=some (.tup xs)→c≠x:=fun c xs r z=>by subst z;rw [r] at mu;exact mu
 by_cases hb:b=x
 · subst hb;rw [aT] at q;cases q;exact new
 · rw [aL hb] at q
   by_cases M5:b=e
   · have q':H b=some (.own x):=by
      rcases he with z|z
      · exact absurd (M5.trans z) hb
      · rw [M5];exact z
     rw [q] at q';cases q'
     obtain⟨v,hv⟩:=NU
     exact⟨v,by rw [M5];exact hv⟩
   · refine (ok b u q).gP (fun c v hc r=>k c v ?_ r) (fun c r=>by rw [aL (QV c b r)];exact r) fun c xs r=>by rw [aL (aaH c xs r)];exact r
     rcases hc with rfl|hc
     · exact M5
     · rintro rfl
       rcases he with z|z
       · exact QV c b hc z
       · rw [hc] at z;cases z;exact hb rfl
end
structure Un (fs ex:List Addr) (H H':Hp) (h h':Heap):Prop where
 keep:∀b o,h.get? b=some o→H b=none→b∉fs→b∉ex→h'.get? b=some o
 slot:∀b o,h.get? b=some o→H b=none→b∈fs→b∉ex→∃sl,h'.get? b=some {o with slots:=sl}
 free:∀b o,h.get? b=some o→H b=none→b∉ex→H' b=none
 there:∀b o,h.get? b=some o→b∉ex→∃o',h'.get? b=some o'
 bU:∀b xs,H b=some (.tup xs)→H' b=some (.tup xs)
 fk:∀b o u,H b=some (.frz o u)→H' b=some (.frz o u)
 gH:∀b ps,H b=some (.tbl ps)→∃more,H' b=some (.tbl (ps++more))
section
variable {fs fs' ex R6 : List Addr} {H H1 H2 : Hp} {h h1 h2 h' : Heap} {a x e : Addr} {o : HO}
theorem Un.any (u:Un fs ex H H1 h h1) {b:Addr}{ob:Obj} (q:h.get? b=some ob) (n:H b=none) (hx:b∉ex):∃sl,h1.get? b=some {ob with slots:=sl}:=by
 by_cases hb:b∈fs
 · exact u.slot b ob q n hb hx
 · exact⟨ob.slots,u.keep b ob q n hb hx⟩
theorem Un.trans (a:Un fs ex H H1 h h1) (b:Un fs ex H1 H2 h1 h2):Un fs ex H H2 h h2 where
 keep:=fun c ob q n hc hx=>b.keep c ob (a.keep c ob q n hc hx) (a.free c ob q n hx) hc hx
 slot:=fun c ob q n hc hx=>by
  obtain⟨sl,e1⟩:=a.slot c ob q n hc hx
  obtain⟨sl',e2⟩:=b.slot c _ e1 (a.free c ob q n hx) hc hx
  exact⟨sl',e2⟩
 free:=fun c ob q n hx=>by
  obtain⟨o',e1⟩:=a.there c ob q hx
  exact b.free c o' e1 (a.free c ob q n hx) hx
 there:=fun c ob q hx=>by
  obtain⟨o',e1⟩:=a.there c ob q hx
  exact b.there c o' e1 hx
 bU:=fun c xs q=>b.bU c xs (a.bU c xs q)
 fk:=fun c ob xs q=>b.fk c ob xs (a.fk c ob xs q)
 gH:=fun c ps q=>by
  obtain⟨m1,e1⟩:=a.gH c ps q
  obtain⟨m2,e2⟩:=b.gH c _ e1
  exact⟨m1++m2,by rw [e2,Array.append_assoc]⟩
theorem Un.kept (k:∀b u,h.get? b=some u→h'.get? b=some u):Un fs ex H H h h':=
 ⟨fun b ob q _ _ _=>k b ob q,fun b ob q _ _ _=>⟨ob.slots,k b ob q⟩,fun _ _ _ n _=>n,fun b ob q _=>⟨ob,k b ob q⟩,fun _ _ q=>q,fun _ _ _ q=>q,fun _ ps q=>⟨#[],by rw [q];simp⟩⟩
theorem Un.refl:Un fs ex H H h h:=Un.kept fun _ _ q=>q
theorem Un.laid (k:∀b u,h.get? b=some u→h'.get? b=some u) (hp:h.objs.size≤a) (hn:H a=none):Un fs ex H (upd H a o) h h' where
 keep:=fun b u q _ _ _=>k b u q
 slot:=fun b u q _ _ _=>⟨u.slots,k b u q⟩
 free:=fun b u q n _=>by rw [aL (Nat.ne_of_lt (Nat.lt_of_lt_of_le (Heap.lt_size q) hp))];exact n
 there:=fun b u q _=>⟨u,k b u q⟩
 bU:=fun b xs q=>by rw [aL (aF q hn)];exact q
 fk:=fun b u xs q=>by rw [aL (aF q hn)];exact q
 gH:=fun b ps q=>⟨#[],by rw [aL (aF q hn),q];simp⟩
theorem Un.write (mu:QB (H x)) (he:e=x∨H e=some (.own x)) (k:∀b u,b≠e→h.get? b=some u→h'.get? b=some u) (NU:∃u,h'.get? e=some u):Un fs ex H (upd H x o) h h':=by
 have hx:∀b,H b=none→b≠x:=fun b n z=>by subst z;rw [n] at mu;exact mu
 have hb:∀b,H b=none→b≠e:=fun b n z=>by
  subst z
  rcases he with r|r
  · exact hx b n r
  · rw [n] at r;cases r
 have hm:∀b u,H b=some u→¬QB (some u)→b≠x:=fun b u q nm z=>by subst z;rw [q] at mu;exact nm mu
 refine⟨fun b u q n _ _=>k b u (hb b n) q,fun b u q n _ _=>⟨u.slots,k b u (hb b n) q⟩,fun b u q n _=>by rw [aL (hx b n)];exact n,fun b u q _=>?_,
  fun b xs q=>by rw [aL (hm b _ q fun z=>z)];exact q,fun b u xs q=>by rw [aL (hm b _ q fun z=>z)];exact q,fun b ps q=>⟨#[],by rw [aL (hm b _ q fun z=>z),q];simp⟩⟩
 by_cases M5:b=e
 · subst M5;exact NU
 · exact⟨u,k b u M5 q⟩
theorem Un.mono (u:Un fs ex H H1 h h1) (hs:∀b∈fs,b∈fs') (hx:∀b∈ex,b∈R6):Un fs' R6 H H1 h h1:=
 ⟨fun b ob q n hb he=>u.keep b ob q n (fun z=>hb (hs b z)) fun z=>he (hx b z),fun _ _ q n _ he=>u.any q n fun z=>he (hx _ z),fun b ob q n he=>u.free b ob q n fun z=>he (hx b z),fun b ob q he=>u.there b ob q fun z=>he (hx b z),u.bU,u.fk,u.gH⟩
end
noncomputable def RB (h:Heap) (H:Hp):List Addr:=(List.range h.objs.size).filter fun a=>(H a).isSome
noncomputable def wB (h:Heap) (H:Hp):Heap:=PySem.W.hideAll h (RB h H)
theorem Cu (h:Heap) (H:Hp):(wB h H).objs.size=h.objs.size:=PySem.W.hideAll_size _ _
theorem GS {h:Heap}{H:Hp}{b:Addr}{o:Obj} (e:h.get? b=some o) (n:H b=none):(wB h H).get? b=some o:=
 PySem.W.hideAll_get _ e fun hm=>by
  have q:(H b).isSome=true:=(List.mem_filter.mp hm).2
  rw [n] at q;simp at q
theorem Jh {h:Heap}{H:Hp}{b:Addr}{o:Obj} (e:(wB h H).get? b=some o):h.get? b=some o∧H b=none:=by
 have e':h.get? b=some o:=PySem.W.of_hideAll (RB h H) e
 refine⟨e',?_⟩
 cases q:H b with
 | none=>rfl
 | some x=>
  have hm:b∈RB h H:=List.mem_filter.mpr ⟨List.mem_range.mpr (Heap.lt_size e'),by simp [q]⟩
  have z:(wB h H).get? b=none:=PySem.W.hideAll_none (RB h H) hm
  rw [z] at e;cases e
noncomputable def HN (g h:Heap) (L:Addr):List (Addr×Obj):=(List.range h.objs.size).filterMap fun a=>if a=L∨(g.get? a).isSome=true then none else (h.get? a).map fun o=>(a,o)
noncomputable def rest (g h:Heap) (L d:Addr):List (Addr×Obj):=(HN g h L).filter fun p=>decide (p.1≠d)
end L2
namespace L2
open PySem PySem.Spec PyProof.Rows
structure Mod (K:PySem.W.Frag) (mg:Str→Option Value) (base:Heap):Prop where
 NP:K.In base
 glob:base.Ns mainGlobals mg
 blt:∃mb,base.Ns builtinsNs mb∧∀x:Str,x≠"__name__"→mb x=bootBuiltins x
 nolimit:base.NoLimit
structure Cx where
 prog:Program
 w:World
 K:PySem.W.Frag
 mg:Str→Option Value
 base:Heap
 A:Around
 N:List Str
 s₀:Shared
 H₀:Hp
 env:Env
 outer:List Env
 stack:List Env
 ex:List Addr
 fn:Str→Bool
 calm:Bool
 pn:List (Addr×Obj)
 xe:Value→Shared→Prop
noncomputable def cR (l:List Env):List Addr:=l.filterMap (·.frame)
noncomputable abbrev Cx.fs (X:Cx):List Addr:=cR X.outer
noncomputable def Qw (sc:Scope) (x:Str):Prop:=sc.names.lookup x=some .local ∨ sc.names.lookup x=some .cell∨sc.names.lookup x=some .free
noncomputable def Loc (sc:Scope) (x:Str):Prop:=sc.names.lookup x=some .local ∨ sc.names.lookup x=some .cell
noncomputable def Look (env:Env) (h:Heap) (m:Str→Option Value) (x:Str) (u:Value):Prop:=
 (env.kindOf x=some .local ∧ m x=some u)∨((env.kindOf x=some .cell∨env.kindOf x=some .free)∧∃c,env.cells.lookup x=some c∧h.IsCell c (some u))
structure Cx.Ok (X:Cx):Prop where
 mod:Mod X.K X.mg X.base
 kind:X.env.scope.kind = .function
 glob:X.env.globals=mainGlobals
 blt:X.env.builtins=builtinsNs
 above:X.s₀.heap.objs.size≤X.env.locals
 inj:∀x y c,X.env.cells.lookup x=some c→X.env.cells.lookup y=some c→x=y
 has:∀x,(X.env.kindOf x=some .cell∨X.env.kindOf x=some .free)→∃c,X.env.cells.lookup x=some c
 G4:∀x c,X.fn x=true→X.env.cells.lookup x=some c→X.s₀.heap.objs.size≤c
 hd:X.calm=true→X.A.handled=none
 frames:X.A.frames=some X.stack
 qT:X.stack=X.outer∨(X.stack=X.env::X.outer∧X.env.frame=some X.env.locals)
 oA:∀b∈X.ex,b≠X.env.locals∧∀x c,X.env.cells.lookup x=some c→c≠b
 bs:∀b o,X.base.get? b=some o→X.s₀.heap.get? b=some o∧X.H₀ b=none
 Ah:X.base.objs.size≤X.s₀.heap.objs.size
 sy:∀b o,X.base.get? b=some o→b∉X.ex
 km:∀b∈X.ex,b∉X.fs
 jN:X.s₀.heap.FunFrames X.base X.outer
 Dz:∀b∈X.fs,X.H₀ b=none
structure Inv (X:Cx) (pins:List (Addr×Obj)) (σ:List (Option V)) (H:Hp) (s:Shared):Prop where
 ok:X.Ok
 os:s.os=X.s₀.os
 bare:AllBare s.gens
 base:Un X.fs X.ex X.H₀ H X.s₀.heap s.heap
 loc:∃m,s.heap.Ns X.env.locals m∧∀(i:Nat) (x:Str) (v:V),X.N[i]? = some x→σ[i]? = some (some v)→Qw X.env.scope x→∃u,RelV v u∧Look X.env s.heap m x u
 cell:∀x c,X.env.cells.lookup x=some c→∃v,s.heap.IsCell c v
 free:H X.env.locals=none
 eV:∀x c,X.env.cells.lookup x=some c→H c=none
 pin:∀p∈X.pn++pins,s.heap.get? p.1=some p.2∧H p.1=none∧p.1≠X.env.locals∧p.1∉X.fs∧∀v,p.2.data ≠ .cell v
 aO:fN X.prog X.w H s.heap
 len:σ.length=X.N.length
section
variable {X : Cx} {pins : List (Addr × Obj)} {σ : List (Option V)} {H H' : Hp} {s : Shared} {h' : Heap}
theorem Cx.Ok.TM (ok:X.Ok) {b:Addr}{o:Obj} (e:X.base.get? b=some o):b∉X.fs:=fun hb=>by
 have:=(ok.jN.mem hb).1
 rw [e] at this;cases this
theorem Inv.bs (I:Inv X pins σ H s):∀b o,X.base.get? b=some o→s.heap.get? b=some o∧H b=none:=fun b o e=>
 ⟨I.base.keep b o (I.ok.bs b o e).1 (I.ok.bs b o e).2 (I.ok.TM e) (I.ok.sy b o e),I.base.free b o (I.ok.bs b o e).1 (I.ok.bs b o e).2 (I.ok.sy b o e)⟩
theorem Inv.bk (I:Inv X pins σ H s):∀b o,X.base.get? b=some o→s.heap.get? b=some o:=fun b o e=>(I.bs b o e).1
theorem Inv.mod (I:Inv X pins σ H s):Mod X.K X.mg X.base:=I.ok.mod
theorem Inv.rq (I:Inv X pins σ H s):X.K.In s.heap:=I.ok.mod.NP.keeps I.bk
theorem Inv.nolimit (I:Inv X pins σ H s):s.heap.NoLimit:=I.ok.mod.nolimit.keeps I.bk
theorem Inv.fr (I:Inv X pins σ H s):∃m,Fr X.base X.env.locals s.heap m:=
 let ⟨m,hn,_⟩:=I.loc
 ⟨m,hn,I.bk,Nat.le_trans I.ok.Ah I.ok.above⟩
theorem Inv.lt (I:Inv X pins σ H s):X.env.locals<s.heap.objs.size:=let ⟨_,hn,_⟩:=I.loc;hn.lt
theorem Inv.sz (I:Inv X pins σ H s):X.s₀.heap.objs.size≤s.heap.objs.size:=Nat.le_trans I.ok.above (Nat.le_of_lt I.lt)
theorem Inv.Qv (I:Inv X pins σ H s) {a:Addr} (h:s.heap.objs.size≤a):a∉X.fs:=fun hb=>by
 obtain⟨_,o,ho,_⟩:=I.ok.jN.mem hb
 exact absurd (Nat.lt_of_lt_of_le (Heap.lt_size ho) (Nat.le_trans I.sz h)) (Nat.lt_irrefl _)
theorem Inv.Gz (I:Inv X pins σ H s):∀x c,X.env.cells.lookup x=some c→c≠X.env.locals:=fun x c e z=>by
 obtain⟨v,o,ho,hd⟩:=I.cell x c e
 obtain⟨m,⟨o',es,ep,uZ,RE,_⟩,_⟩:=I.loc
 rw [z,uZ] at ho;cases ho;rw [RE] at hd;cases hd
theorem Inv.jN (I:Inv X pins σ H s):s.heap.FunFrames X.base X.outer:=by
 have all:∀(l:List Env),(∀b∈cR l,b∈X.fs)→X.s₀.heap.FunFrames X.base l→s.heap.FunFrames X.base l:=by
  intro l
  induction l with
  | nil=>intro _ _;trivial
  | cons env r ih=>
   intro hs hl
   obtain⟨hk,⟨L,o,hf,hn,ho,hd⟩,hr⟩:=hl
   have hL:L∈X.fs:=hs L (by unfold cR;rw [List.filterMap_cons,hf];exact List.mem_cons_self)
   obtain⟨sl,e⟩:=I.base.slot L o ho (I.ok.Dz L hL) hL fun z=>I.ok.km L z hL
   exact⟨hk,⟨L,_,hf,hn,e,hd⟩,ih (fun b hb=>hs b (by unfold cR;rw [List.filterMap_cons,hf];exact List.mem_cons_of_mem _ hb)) hr⟩
 exact all X.outer (fun _ hb=>hb) I.ok.jN
theorem Inv.stack (I:Inv X pins σ H s):s.heap.FunFrames X.base X.stack:=by
 rcases I.ok.qT with e|⟨e,hf⟩
 · rw [e];exact I.jN
 · rw [e]
   obtain⟨m,hn,_⟩:=I.loc
   refine .cons (by rw [I.ok.kind];decide) hf hn ?_ I.jN
   exact Heap.get?_none_of_le (Nat.le_trans I.ok.Ah I.ok.above)
theorem Inv.Ap (I:Inv X pins σ H s):∀b∈cR X.stack,b∈X.env.locals::X.fs:=fun b hb=>by
 rcases I.ok.qT with e|⟨e,hf⟩
 · rw [e] at hb;exact List.mem_cons_of_mem _ hb
 · rw [e] at hb
   unfold cR at hb
   rw [List.filterMap_cons,hf] at hb
   exact hb
theorem Inv.ia (I:Inv X pins σ H s):∀b∈cR X.stack,H b=none:=fun b hb=>by
 rcases List.mem_cons.mp (I.Ap b hb) with e|hb
 · rw [e];exact I.free
 · obtain⟨_,o,ho,_⟩:=I.ok.jN.mem hb
   exact I.base.free b o ho (I.ok.Dz b hb) fun z=>I.ok.km b z hb
theorem Inv.step {g':Array GenState}{t':Nat}{d':Drawn}{ch:List Addr} (I:Inv X pins σ H s)
 (GX:∀b∈ch,(b∈X.ex∨X.s₀.heap.objs.size≤b)∧b≠X.env.locals∧(∀x c,X.env.cells.lookup x=some c→c≠b)∧∀p∈X.pn++pins,p.1≠b)
 (keep:∀b o,b≠X.env.locals→b∉X.fs→b∉ch→s.heap.get? b=some o→H b=none→h'.get? b=some o)
 (slot:∀b o,b≠X.env.locals→b∈X.fs→b∉ch→s.heap.get? b=some o→H b=none→∃sl,h'.get? b=some {o with slots:=sl}) (free:∀b o,b∉ch→s.heap.get? b=some o→H b=none→H' b=none)
 (there:∀b o,b∉ch→s.heap.get? b=some o→∃o',h'.get? b=some o')
 (bU:∀b xs,H b=some (.tup xs)→H' b=some (.tup xs)) (fk:∀b o u,H b=some (.frz o u)→H' b=some (.frz o u)) (gH:∀b ps,H b=some (.tbl ps)→∃more,H' b=some (.tbl (ps++more)))
 (ns:∀m,s.heap.Ns X.env.locals m→h'.Ns X.env.locals m) (aO:fN X.prog X.w H' h') (hg:AllBare g') :
 Inv X pins σ H' {s with heap:=h',gens:=g',drawn:=d',toks:=t'}:=by
 have neL:∀b o,X.s₀.heap.get? b=some o→b≠X.env.locals:=fun b o e=>Nat.ne_of_lt (Nat.lt_of_lt_of_le (Heap.lt_size e) I.ok.above)
 have RT:∀b o,X.s₀.heap.get? b=some o→b∉X.ex→b∉ch:=fun b o e hx hb=>by
  rcases (GX b hb).1 with z|z
  · exact hx z
  · exact absurd (Nat.lt_of_lt_of_le (Heap.lt_size e) z) (Nat.lt_irrefl _)
 have cellK:∀x c,X.env.cells.lookup x=some c→∀v,s.heap.IsCell c v→h'.IsCell c v:=fun x c e v ⟨o,ho,hd⟩=>by
  have N4:c∉ch:=fun z=>(GX c z).2.2.1 x c e rfl
  by_cases hc:c∈X.fs
  · obtain⟨sl,q⟩:=slot c o (I.Gz x c e) hc N4 ho (I.eV x c e)
    exact⟨_,q,hd⟩
  · exact⟨o,keep c o (I.Gz x c e) hc N4 ho (I.eV x c e),hd⟩
 refine⟨I.ok,I.os,hg,⟨fun b o e n hb hx=>?_,fun b o e n hb hx=>?_,fun b o e n hx=>?_,fun b o e hx=>?_,fun b xs e=>bU b xs (I.base.bU b xs e),fun b o xs e=>fk b o xs (I.base.fk b o xs e),fun b ps e=>?_⟩,?_,fun x c e=>?_,?_,fun x c e=>?_,fun p hp=>?_,aO,I.len⟩
 · exact keep b o (neL b o e) hb (RT b o e hx) (I.base.keep b o e n hb hx) (I.base.free b o e n hx)
 · obtain⟨sl,e1⟩:=I.base.slot b o e n hb hx
   obtain⟨sl',e2⟩:=slot b _ (neL b o e) hb (RT b o e hx) e1 (I.base.free b o e n hx)
   exact⟨sl',e2⟩
 · obtain⟨o',e1⟩:=I.base.there b o e hx
   exact free b o' (RT b o e hx) e1 (I.base.free b o e n hx)
 · obtain⟨o',e1⟩:=I.base.there b o e hx
   exact there b o' (RT b o e hx) e1
 · obtain⟨m1,e1⟩:=I.base.gH b ps e
   obtain⟨m2,e2⟩:=gH b _ e1
   exact⟨m1++m2,by rw [e2,Array.append_assoc]⟩
 · obtain⟨m,hn,hl⟩:=I.loc
   refine⟨m,ns m hn,fun i x v e1 e2 e3=>?_⟩
   obtain⟨u,r,l⟩:=hl i x v e1 e2 e3
   refine⟨u,r,?_⟩
   rcases l with l|⟨k,c,e,z⟩
   · exact .inl l
   · exact .inr ⟨k,c,e,cellK x c e _ z⟩
 · obtain⟨v,z⟩:=I.cell x c e
   exact⟨v,cellK x c e v z⟩
 · obtain⟨m,⟨o,_,_,ho,_⟩,_⟩:=I.loc
   exact free _ o (fun z=>(GX _ z).2.1 rfl) ho I.free
 · obtain⟨v,o,ho,hd⟩:=I.cell x c e
   exact free c o (fun z=>(GX c z).2.2.1 x c e rfl) ho (I.eV x c e)
 · obtain⟨e,n,ne,nf,d⟩:=I.pin p hp
   have N4:p.1∉ch:=fun z=>(GX p.1 z).2.2.2 p hp rfl
   exact⟨keep p.1 p.2 ne nf N4 e n,free p.1 p.2 N4 e n,ne,nf,d⟩
theorem Inv.un {t':Nat} (I:Inv X pins σ H s) (u:Un X.fs [] H H' s.heap h') (aO:fN X.prog X.w H' h'):Inv X pins σ H' {s with heap:=h',toks:=t'}:=by
 obtain⟨m,⟨o,es,ep,ho,r⟩,_⟩:=id I.loc
 obtain⟨sl,hL⟩:=u.any ho I.free (by simp)
 exact I.step (g':=s.gens) (d':=s.drawn) (ch:=[]) (fun _ z=>nomatch z) (fun b o _ hb _ e n=>u.keep b o e n hb (by simp)) (fun b o _ hb _ e n=>u.slot b o e n hb (by simp)) (fun b o _ e n=>u.free b o e n (by simp)) (fun b o _ e=>u.there b o e (by simp)) u.bU u.fk u.gH (fun m' hm=>by
  obtain⟨o',J2,YX,uZ,r'⟩:=hm
  rw [ho] at uZ;cases uZ
  exact⟨_,J2,YX,hL,r'⟩) aO I.bare
theorem Inv.call {g':Array GenState}{t':Nat}{d':Drawn}{ch:List Addr} (I:Inv X pins σ H s) (u:Un (cR X.stack) ch H H' s.heap h') (aO:fN X.prog X.w H' h') (hg:AllBare g')
 (GX:∀b∈ch,(b∈X.ex∨X.s₀.heap.objs.size≤b)∧b≠X.env.locals∧(∀x c,X.env.cells.lookup x=some c→c≠b)∧∀p∈X.pn++pins,p.1≠b) :
 Inv X pins σ H' {s with heap:=h',gens:=g',drawn:=d',toks:=t'}:=by
 obtain⟨m,⟨o,es,ep,ho,r⟩,_⟩:=id I.loc
 obtain⟨sl,hL⟩:=u.any ho I.free fun z=>(GX _ z).2.1 rfl
 exact I.step (ch:=ch) GX (fun b o hL hb hc e n=>u.keep b o e n (fun z=>(List.mem_cons.mp (I.Ap b z)).elim hL hb) hc) (fun b o _ _ hc e n=>u.any e n hc) (fun b o hc e n=>u.free b o e n hc) (fun b o hc e=>u.there b o e hc) u.bU u.fk u.gH (fun m' hm=>by
  obtain⟨o',J2,YX,uZ,r'⟩:=hm
  rw [ho] at uZ;cases uZ
  exact⟨_,J2,YX,hL,r'⟩) aO hg
theorem Inv.turned {t':Nat}{it:Addr} (I:Inv X pins σ H s) (k:∀b o,b≠it→s.heap.get? b=some o→h'.get? b=some o) (hn:H it=none) (hL:it≠X.env.locals)
 (h1:it∈X.ex∨X.s₀.heap.objs.size≤it) (h2:∀x c,X.env.cells.lookup x=some c→c≠it) (h3:∀p∈X.pn++pins,p.1≠it):Inv X pins σ H {s with heap:=h',toks:=t'}:=by
 have QH:∀b u,H b=some u→b≠it:=fun b u e z=>by rw [z,hn] at e;cases e
 refine I.step (g':=s.gens) (d':=s.drawn) (ch:=[it]) (fun b hb=>?_) (fun b o _ _ hc e _=>k b o (fun z=>hc (by simp [z])) e) (fun b o _ _ hc e _=>⟨o.slots,k b o (fun z=>hc (by simp [z])) e⟩) (fun _ _ _ _ n=>n)
  (fun b o hc e=>⟨o,k b o (fun z=>hc (by simp [z])) e⟩) (fun _ _ e=>e) (fun _ _ _ e=>e) (fun b ps e=>⟨#[],by rw [e];simp⟩) (fun m hm=>?_) (fun b u e=>?_) I.bare
 · have e:b=it:=by simpa using hb
   subst e
   exact⟨h1,hL,h2,h3⟩
 · obtain⟨o,es,ep,ho,r⟩:=hm
   exact⟨o,es,ep,k _ o (Ne.symm hL) ho,r⟩
 · refine (I.aO b u e).gP (fun c v hc q=>k c v ?_ q) (fun _ q=>q) fun _ _ q=>q
   rcases hc with z|z
   · rw [z];exact QH b u e
   · exact QH c _ z
theorem Inv.tok (I:Inv X pins σ H s) (t:Nat):Inv X pins σ H {s with toks:=t}:=I.un (h':=s.heap) (t':=t) Un.refl I.aO
theorem Inv.kept {t':Nat} (I:Inv X pins σ H s) (k:∀b u,s.heap.get? b=some u→h'.get? b=some u):Inv X pins σ H {s with heap:=h',toks:=t'}:=I.un (Un.kept k) (I.aO.kept k)
theorem Inv.laid {a:Addr}{o:HO}{t':Nat} (I:Inv X pins σ H s) (k:∀b u,s.heap.get? b=some u→h'.get? b=some u) (hp:s.heap.objs.size≤a) (new:bS X.prog X.w (upd H a o) h' a o) :
 Inv X pins σ (upd H a o) {s with heap:=h',toks:=t'}:=I.un (Un.laid k hp (I.aO.fresh hp)) (I.aO.laid k hp new)
theorem Inv.write {x e:Addr}{o:HO}{t':Nat} (I:Inv X pins σ H s) (mu:QB (H x)) (he:e=x∨H e=some (.own x)) (k:∀b u,b≠e→s.heap.get? b=some u→h'.get? b=some u) (NU:∃u,h'.get? e=some u)
 (new:bS X.prog X.w (upd H x o) h' x o):Inv X pins σ (upd H x o) {s with heap:=h',toks:=t'}:=I.un (Un.write mu he k NU) (I.aO.write mu he k NU new)
theorem Inv.weak {σ':List (Option V)} (I:Inv X pins σ H s) (hl:σ'.length=σ.length) (w:∀(i:Nat) v,σ'[i]? = some (some v)→σ[i]? = some (some v)):Inv X pins σ' H s:=
 ⟨I.ok,I.os,I.bare,I.base,let ⟨m,hn,wq⟩:=I.loc;⟨m,hn,fun i x v e1 e2 e3=>wq i x v e1 (w i v e2) e3⟩,I.cell,I.free,I.eV,I.pin,I.aO,hl.trans I.len⟩
theorem Inv.dw {D8:List (Addr×Obj)} (I:Inv X pins σ H s) (h:∀p∈D8,s.heap.get? p.1=some p.2∧H p.1=none∧p.1≠X.env.locals∧p.1∉X.fs∧∀v,p.2.data ≠ .cell v):Inv X D8 σ H s:=
 ⟨I.ok,I.os,I.bare,I.base,I.loc,I.cell,I.free,I.eV,fun p hp=>(List.mem_append.mp hp).elim (fun z=>I.pin p (List.mem_append_left _ z)) (h p),I.aO,I.len⟩
theorem rj {N:List Str} (hN:N.Nodup) {i j:Nat}{x:Str} (a:N[i]? = some x) (b:N[j]? = some x):i=j:=by
 obtain⟨h1,e1⟩:=List.getElem?_eq_some_iff.mp a
 obtain⟨h2,e2⟩:=List.getElem?_eq_some_iff.mp b
 exact(List.getElem_inj hN).mp (e1.trans e2.symm)
theorem oj {M:Model}{A:Around}{E:Value→Shared→Prop}{i:Nat}{x:Str}{v:V}{u:Value}{Q:Unit→Shared→Prop} (I:Inv X pins σ H s) (hN:X.N.Nodup) (hi:X.N[i]? = some x) (hx:Loc X.env.scope x) (r:RelV v u)
 (h:∀s',Inv X pins (σ.set i (some v)) H s'→(∃a,Heap.SameBut a s.heap s'.heap∧(a=X.env.locals∨X.env.cells.lookup x=some a))→Q () s') (hf:X.fn x=true∨X.env.scope.names.lookup x=some .local:=by first|exact .inl rfl|exact .inr rfl|assumption):wpAny M A (storeName X.env x u) Q E s:=by
 obtain⟨m,hn,hl⟩:=id I.loc
 have M9:(X.env.scope.kind == .class||(X.env.scope.kind == .module&&X.env.locals != X.env.globals))=false:=by rw [I.ok.kind];rfl
 have Ra:i<σ.length:=by rw [I.len];exact(List.getElem?_eq_some_iff.mp hi).1
 have Gz:=I.Gz
 have tracked:∀{a:Addr}{h':Heap},(∃o,s.heap.get? a=some o∧H a=none)→Heap.SameBut a s.heap h'→fN X.prog X.w H h':=fun {a h'} ha hs b ob e=>by
  obtain⟨_,_,iW⟩:=ha
  refine (I.aO b ob e).gP (fun c w' hc q=>(hs.2 c ?_).trans q) (fun _ q=>q) fun _ _ q=>q
  rintro rfl
  rcases hc with rfl|hc
  · rw [iW] at e;cases e
  · rw [iW] at hc;cases hc
 rcases hx with hk|hk
 · refine wpAny_storeName_local hk hn (fun h' DH hs=>?_) M9
   obtain⟨oL,_,_,hoL,_⟩:=id hn
   refine h _ ⟨I.ok,I.os,I.bare,⟨fun b o e n hb hx=>?_,fun b o e n hb hx=>?_,I.base.free,fun b o e hx=>?_,I.base.bU,I.base.fk,I.base.gH⟩,⟨_,DH,fun j y v' e1 e2 e3=>?_⟩,fun y c e=>?_,I.free,I.eV,fun p hp=>?_,tracked ⟨oL,hoL,I.free⟩ hs,by simpa using I.len⟩ ⟨_,hs,.inl rfl⟩
   · exact(hs.2 b (Nat.ne_of_lt (Nat.lt_of_lt_of_le (Heap.lt_size e) I.ok.above))).trans (I.base.keep b o e n hb hx)
   · obtain⟨sl,e1⟩:=I.base.slot b o e n hb hx
     exact⟨sl,(hs.2 b (Nat.ne_of_lt (Nat.lt_of_lt_of_le (Heap.lt_size e) I.ok.above))).trans e1⟩
   · obtain⟨o',e1⟩:=I.base.there b o e hx
     exact⟨o',(hs.2 b (Nat.ne_of_lt (Nat.lt_of_lt_of_le (Heap.lt_size e) I.ok.above))).trans e1⟩
   · by_cases hj:j=i
     · subst hj
       rw [hi] at e1;cases e1
       rw [List.getElem?_set_self Ra] at e2
       cases e2
       exact⟨u,r,.inl ⟨hk,by simp⟩⟩
     · rw [List.getElem?_set_ne (Ne.symm hj)] at e2
       obtain⟨u',r',q⟩:=hl j y v' e1 e2 e3
       refine⟨u',r',?_⟩
       rcases q with ⟨k,e⟩|⟨k,c,e,z⟩
       · refine .inl ⟨k,?_⟩
         have:y≠x:=fun e=>hj (rj hN e1 (e▸hi))
         simp [this,e]
       · exact .inr ⟨k,c,e,z.sameBut hs (Gz y c e)⟩
   · obtain⟨w',z⟩:=I.cell y c e
     exact⟨w',z.sameBut hs (Gz y c e)⟩
   · obtain⟨e,n,ne,nf,d⟩:=I.pin p hp
     exact⟨(hs.2 p.1 ne).trans e,n,ne,nf,d⟩
 · have Xi:X.fn x=true:=by
    rcases hf with z|z
    · exact z
    · rw [z] at hk;cases hk
   obtain⟨c,hc⟩:=I.ok.has x (.inl hk)
   obtain⟨w',z⟩:=I.cell x c hc
   refine wpAny_storeName_cell I.ok.kind hk hc z (fun h' jw hs=>?_)
   obtain⟨oc,Q2,abn⟩:=id z
   refine h {s with heap:=h'} ⟨I.ok,I.os,I.bare,⟨fun b o e n hb hx=>?_,fun b o e n hb hx=>?_,I.base.free,fun b o e hx=>?_,I.base.bU,I.base.fk,I.base.gH⟩,⟨m,hn.sameBut hs (Ne.symm (Gz x c hc)),fun j y v' e1 e2 e3=>?_⟩,fun y c' e=>?_,I.free,I.eV,fun p hp=>?_,tracked ⟨oc,Q2,I.eV x c hc⟩ hs,by simpa using I.len⟩ ⟨c,hs,.inr hc⟩
   · exact(hs.2 b (Nat.ne_of_lt (Nat.lt_of_lt_of_le (Heap.lt_size e) (I.ok.G4 x c Xi hc)))).trans (I.base.keep b o e n hb hx)
   · obtain⟨sl,e1⟩:=I.base.slot b o e n hb hx
     exact⟨sl,(hs.2 b (Nat.ne_of_lt (Nat.lt_of_lt_of_le (Heap.lt_size e) (I.ok.G4 x c Xi hc)))).trans e1⟩
   · obtain⟨o',e1⟩:=I.base.there b o e hx
     exact⟨o',(hs.2 b (Nat.ne_of_lt (Nat.lt_of_lt_of_le (Heap.lt_size e) (I.ok.G4 x c Xi hc)))).trans e1⟩
   · by_cases hj:j=i
     · subst hj
       rw [hi] at e1;cases e1
       rw [List.getElem?_set_self Ra] at e2
       cases e2
       exact⟨u,r,.inr ⟨.inl hk,c,hc,jw⟩⟩
     · rw [List.getElem?_set_ne (Ne.symm hj)] at e2
       obtain⟨u',r',q⟩:=hl j y v' e1 e2 e3
       refine⟨u',r',?_⟩
       rcases q with q|⟨k,c',e,z'⟩
       · exact .inl q
       · refine .inr ⟨k,c',e,z'.sameBut hs ?_⟩
         rintro rfl
         exact hj (rj hN e1 (I.ok.inj _ _ _ e hc▸hi))
   · by_cases hcc:c'=c
     · subst hcc;exact⟨_,jw⟩
     · obtain⟨w2,z2⟩:=I.cell y c' e
       exact⟨w2,z2.sameBut hs hcc⟩
   · obtain⟨e,n,ne,nf,d⟩:=I.pin p hp
     refine⟨(hs.2 p.1 ?_).trans e,n,ne,nf,d⟩
     intro q
     rw [q,Q2] at e
     have q':oc=p.2:=Option.some.inj e
     exact d w' (by rw [←q'];exact abn)
theorem mU {M:Model}{A:Around}{E:Value→Shared→Prop}{i:Nat}{x:Str}{v:V}{u:Value}{Q:Unit→Shared→Prop} (I:Inv X pins σ H s) (hN:X.N.Nodup) (hi:X.N[i]? = some x) (hx:Loc X.env.scope x) (r:RelV v u)
 (h:∀s',Inv X pins (σ.set i (some v)) H s'→Q () s') (hf:X.fn x=true∨X.env.scope.names.lookup x=some .local:=by first|exact .inl rfl|exact .inr rfl|assumption):wpAny M A (storeName X.env x u) Q E s:=
 oj I hN hi hx r (fun s' I' _=>h s' I') hf
theorem Inv.qw {s':Shared}{ch:List Addr} (I:Inv X pins σ H s) (ho:s'.os=s.os) (u:Un (cR X.stack) ch H H' s.heap s'.heap) (aO:fN X.prog X.w H' s'.heap) (hg:AllBare s'.gens)
 (GX:∀b∈ch,(b∈X.ex∨X.s₀.heap.objs.size≤b)∧b≠X.env.locals∧(∀x c,X.env.cells.lookup x=some c→c≠b)∧∀p∈X.pn++pins,p.1≠b):Inv X pins σ H' s':=by
 obtain⟨h',g',d',t',o'⟩:=s'
 have e:o'=s.os:=ho
 subst e
 exact I.call (g':=g') (t':=t') (d':=d') u aO hg GX
end
noncomputable abbrev XK:=Value→Option Addr→Hp→Prop
noncomputable abbrev St:=List (Option V)
noncomputable abbrev VK:=V→Hp→Prop
noncomputable abbrev TE:=St→Hp→VK→Prop
noncomputable abbrev TT:=St→Hp→(Bool→Hp→Prop)→Prop
noncomputable abbrev TA:=St→Hp→(List V→Hp→Prop)→Prop
structure Ends where
 nx:St→Hp→Prop
 rt:VK
 bk:St→Hp→Prop:=fun _ _=>False
 ct:St→Hp→Prop:=fun _ _=>False
noncomputable abbrev TS:=Ends→St→Hp→Prop
noncomputable def EP (X:Cx) (pins:List (Addr×Obj)) (σ:St) (Q:VK) (u:Value) (s':Shared):Prop:=∃v H',Inv X pins σ H' s'∧RelV v u∧Q v H'
noncomputable def TP (X:Cx) (pins:List (Addr×Obj)) (σ:St) (Q:Bool→Hp→Prop) (b:Bool) (s':Shared):Prop:=∃H',Inv X pins σ H' s'∧Q b H'
noncomputable def AP (X:Cx) (pins:List (Addr×Obj)) (σ:St) (Q:List V→Hp→Prop) (us:List Value) (s':Shared):Prop:=∃vs H',Inv X pins σ H' s'∧Vals vs us∧Q vs H'
noncomputable def SP (X:Cx) (pins:List (Addr×Obj)) (D:Ends) (f:Flow) (s':Shared):Prop:=
 match f with
 | .next=>∃σ' H',Inv X pins σ' H' s'∧D.nx σ' H'
 | .brk=>∃σ' H',Inv X pins σ' H' s'∧D.bk σ' H'
 | .cont=>∃σ' H',Inv X pins σ' H' s'∧D.ct σ' H'
 | .ret u=>∃v σ' H',Inv X pins σ' H' s'∧RelV v u∧D.rt v H'
noncomputable def PE (X:Cx) (e:Expr) (t:TE):Prop:=
 ∀(pins:List (Addr×Obj)) (s:Shared) (σ:St) (H:Hp) (Q:VK),Inv X pins σ H s→t σ H Q→wpAny (model X.prog X.w) X.A (eval e X.env) (EP X pins σ Q) X.xe s
noncomputable def PT (X:Cx) (e:Expr) (t:TT):Prop:=
 ∀(pins:List (Addr×Obj)) (s:Shared) (σ:St) (H:Hp) (Q:Bool→Hp→Prop),Inv X pins σ H s→t σ H Q→wpAny (model X.prog X.w) X.A (isTrue e X.env (eval e X.env)) (TP X pins σ Q) X.xe s
noncomputable def PW (X:Cx) (e:Expr) (t:TT):Prop:=
 ∀(whole:Sem Value) (pins:List (Addr×Obj)) (s:Shared) (σ:St) (H:Hp) (Q:Bool→Hp→Prop),Inv X pins σ H s→t σ H Q→wpAny (model X.prog X.w) X.A (isTrue e X.env whole) (TP X pins σ Q) X.xe s
theorem PW.pt {X:Cx}{e:Expr}{t:TT} (h:PW X e t):PT X e t:=h _
noncomputable def PA (X:Cx) (es:List Expr) (t:TA):Prop:=
 ∀(pos:Pos) (pins:List (Addr×Obj)) (s:Shared) (σ:St) (H:Hp) (Q:List V→Hp→Prop),Inv X pins σ H s→t σ H Q→wpAny (model X.prog X.w) X.A (spliced (backTo pos (starEach es X.env))) (AP X pins σ Q) X.xe s
noncomputable def PS (X:Cx) (st:Stmt) (t:TS):Prop:=
 ∀(pins:List (Addr×Obj)) (s:Shared) (σ:St) (H:Hp) (D:Ends),Inv X pins σ H s→t D σ H→wpAny (model X.prog X.w) X.A (exec st X.env) (SP X pins D) X.xe s
noncomputable def nz (X:Cx) (st:List Stmt) (t:TS):Prop:=
 ∀(pins:List (Addr×Obj)) (s:Shared) (σ:St) (H:Hp) (D:Ends),Inv X pins σ H s→t D σ H→wpAny (model X.prog X.w) X.A (execs st X.env) (SP X pins D) X.xe s
theorem bD {α:Type}{t:Sem α}{Q Q':α→Shared→Prop}{M:Model}{A:Around}{E:Value→Shared→Prop}{s:Shared} (h:wpAny M A t Q E s) (hQ:∀a s,Q a s→Q' a s):wpAny M A t Q' E s:=wpAny_mono h hQ fun _ _ x=>x
end L2
namespace L2
open PySem PySem.Spec PyProof.Rows
section
variable {X : Cx}
noncomputable def DW (i:Nat):TE:=fun σ H Q=>∃v,σ[i]? = some (some v)∧Q v H
noncomputable def tC (v:V):TE:=fun _ H Q=>Q v H
theorem M4 {i:Nat}{x:Str}{pos:Pos} (hN:X.N[i]? = some x) (hv:Qw X.env.scope x) (hd:(x==("__debug__":Str))=false:=by decide) (De:(x==("__classdict__":Str))=false:=by decide):PE X (.Name x pos) (DW i):=by
 intro pins s σ H Q I h
 obtain⟨v,e,h⟩:=h
 obtain⟨m,hn,hl⟩:=I.loc
 obtain⟨u,r,l⟩:=hl i x v hN e hv
 have fin:EP X pins σ Q u s:=⟨v,H,I,r,h⟩
 rcases l with ⟨hk,hm⟩|⟨hk,c,hc,hcell⟩
 · exact wpAny_Name (wpAny_loadName_local I.ok.kind hk hn hm fin) hd
 · rcases hk with hk|hk
   · exact wpAny_Name (wpAny_loadName_cell I.ok.kind hk hc hcell fin) hd
   · exact wpAny_Name (wpAny_loadName_free I.ok.kind hk hc hcell fin De) hd
theorem ae {i j pos}:PE X (.Constant (.int i) j pos) (tC (.int i)):=fun _ _ _ H _ I h=>wpAny_Constant_int ⟨.int i,H,I.tok _,⟨_,rfl⟩,h⟩
theorem uT {b j pos}:PE X (.Constant (.bool b) j pos) (tC (.bl b)):=fun _ _ _ H _ I h=>Constant_bool ⟨.bl b,H,I,rfl,h⟩
theorem mL {j pos}:PE X (.Constant .none j pos) (tC .non):=fun _ _ _ H _ I h=>Constant_none ⟨.non,H,I,rfl,h⟩
theorem az {x j pos}:PE X (.Constant (.str x) j pos) (tC (.str x)):=fun _ _ _ H _ I h=>Calls.Constant_str ⟨.str x,H,I.tok _,⟨_,rfl⟩,h⟩
noncomputable def Gl (X:Cx) (x:Str):Prop:=X.env.kindOf x=some .globalImplicit
theorem je {E:Value→Shared→Prop}{pins:List (Addr×Obj)}{s:Shared}{σ:St}{H:Hp}{x:Str}{u:Value}{pos:Pos}{Q:Value→Shared→Prop} (I:Inv X pins σ H s) (hg:Gl X x) (hm:X.mg x=some u) (h:Q u s)
 (hd:(x==("__debug__":Str))=false:=by decide):wpAny (model X.prog X.w) X.A (eval (.Name x pos) X.env) Q E s:=
 Calls.Name_function_global I.ok.kind hg (Calls.loadGlobal_global (by rw [I.ok.glob];exact I.mod.glob.keeps I.bk) hm h) hd
theorem rS {E:Value→Shared→Prop}{pins:List (Addr×Obj)}{s:Shared}{σ:St}{H:Hp}{x:Str}{u:Value}{pos:Pos}{Q:Value→Shared→Prop} (I:Inv X pins σ H s) (hg:Gl X x) (hm:X.mg x=none) (hv:bootBuiltins x=some u) (h:Q u s)
 (hn:x≠"__name__":=by decide) (hd:(x==("__debug__":Str))=false:=by decide):wpAny (model X.prog X.w) X.A (eval (.Name x pos) X.env) Q E s:=by
 obtain⟨mb,h1,h2⟩:=I.mod.blt
 exact Calls.Name_function_global I.ok.kind hg (Calls.loadGlobal_builtin (by rw [I.ok.glob];exact I.mod.glob.keeps I.bk) hm (by rw [I.ok.blt];exact h1.keeps I.bk) ((h2 x hn).trans hv) h) hd
theorem fG {x:Str}{v:V}{u:Value}{pos:Pos} (hg:Gl X x) (hm:X.mg x=some u) (r:RelV v u) (hd:(x==("__debug__":Str))=false:=by decide):PE X (.Name x pos) (tC v):=
 fun _ _ _ H _ I h=>je I hg hm ⟨v,H,I,r,h⟩ hd
theorem Bj {x:Str}{v:V}{u:Value}{pos:Pos} (hg:Gl X x) (hm:X.mg x=none) (hv:bootBuiltins x=some u) (r:RelV v u) (hn:x≠"__name__":=by decide) (hd:(x==("__debug__":Str))=false:=by decide):PE X (.Name x pos) (tC v):=
 fun _ _ _ H _ I h=>rS I hg hm hv ⟨v,H,I,r,h⟩ hn hd
variable {a b : Expr} {ta tb : TE} {pos : Pos}
noncomputable def PC (X:Cx) (op:CmpOp) (a b:Expr) (t:TE):Prop:=
 ∀(pins:List (Addr×Obj)) (s:Shared) (σ:St) (H:Hp) (Q:VK),Inv X pins σ H s→t σ H Q→
  wpAny (model X.prog X.w) X.A (eval a X.env) (fun v s₁=>wpAny (model X.prog X.w) X.A (eval b X.env) (fun u s₂=>wpAny (model X.prog X.w) X.A (compareOp op v u) (EP X pins σ Q) X.xe s₂) X.xe s₁) X.xe s
theorem EX (b:Expr) {op:CmpOp} (h:op ≠ .In) (h2:op ≠ .NotIn):behindInMarks op b=false:=by
 have e1:(op==CmpOp.In)=false:=by cases op<;>first|rfl|exact absurd rfl h
 have e2:(op==CmpOp.NotIn)=false:=by cases op<;>first|rfl|exact absurd rfl h2
 cases b<;>simp [behindInMarks,e1,e2]
noncomputable def OP (ta:TE):TE:=fun σ H Q=>ta σ H fun x H1=>Q (.bl (decide (x = .non))) H1
theorem RelV.EA {x:V}{v:Value} (r:RelV x v):(v==Value.none)=decide (x = .non):=by
 cases x with
 | non=>cases r;rfl
 | bl _=>cases r;rfl
 | int _=>obtain⟨t,rfl⟩:=r;rfl
 | str _=>obtain⟨t,rfl⟩:=r;rfl
 | byt _=>obtain⟨t,rfl⟩:=r;rfl
 | flt _=>obtain⟨t,rfl⟩:=r;rfl
 | ref _=>cases r;rfl
 | ty _=>cases r;rfl
theorem Ef {j pos'} (ha:PE X a ta):PC X .Is a (.Constant .none j pos') (OP ta):=by
 intro pins s σ H Q I h
 refine bD (ha pins s σ H _ I h) fun v s1 ⟨x,H1,I1,r1,q1⟩=>?_
 exact Constant_none (is_none_gen ⟨.bl _,H1,I1,by rw [r1.EA];rfl,q1⟩)
noncomputable def tB (t:TE):TT:=fun σ H Q=>t σ H fun x H1=>∃c,x = .bl c∧Q c H1
theorem wy {op:CmpOp}{t:TE} (h:PC X op a b t) (h1:behindInMarks op b=false:=by first|exact EX _ (by decide) (by decide)|rfl):PT X (.Compare a [op] [b] pos) (tB t):=by
 intro pins s σ H Q I hw
 refine wpAny_isTrue_Compare1 (bD (h pins s σ H _ I hw) fun v s1 h1=>bD h1 fun u s2 h2=>bD h2 fun c s3 ⟨x,H1,I1,r1,q1⟩=>?_) h1
 obtain⟨d,rfl,q⟩:=q1
 cases r1
 exact wpAny_truthy_bool ⟨H1,I1,q⟩
theorem dD {e:Expr}{t:TE} (h:PE X e t) (he:∀whole,isTrue e X.env whole=(do let v ←whole;standAt e.pos;holding [v] (truthy v)):=by intro _;rfl):PT X e (tB t):=by
 intro pins s σ H Q I hw
 refine isTrue_plain (bD (h pins s σ H _ I hw) fun v s1 ⟨x,H1,I1,r1,q1⟩=>?_) (he _)
 obtain⟨d,rfl,q⟩:=q1
 cases r1
 exact wpAny_truthy_bool ⟨H1,I1,q⟩
variable {tA R7 : TT} {rest : List Expr}
noncomputable def QJ (t u:TT):TT:=fun σ H Q=>t σ H fun c H1=>if c=true then u σ H1 Q else Q false H1
noncomputable def tOr (t u:TT):TT:=fun σ H Q=>t σ H fun c H1=>if c=true then Q true H1 else u σ H1 Q
noncomputable def QM (t:TT):TT:=fun σ H Q=>t σ H fun c H1=>Q (!c) H1
theorem ib (ha:PT X a tA):PW X (.BoolOp .And [a] pos) tA:=by
 intro wh pins s σ H Q I h
 refine isTrue_and (bD (ha pins s σ H Q I h) fun c s1 e=>?_)
 cases c with
 | true=>exact isTrue_and_nil e
 | false=>exact e
theorem mF (ha:PT X a tA):PW X (.BoolOp .Or [a] pos) tA:=by
 intro wh pins s σ H Q I h
 refine isTrue_or (bD (ha pins s σ H Q I h) fun c s1 e=>?_)
 cases c with
 | false=>exact isTrue_or_nil e
 | true=>exact e
theorem jM (ha:PT X a tA) (hb:PW X (.BoolOp .And (b::rest) pos) R7):PW X (.BoolOp .And (a::b::rest) pos) (QJ tA R7):=by
 intro wh pins s σ H Q I h
 refine isTrue_and (bD (ha pins s σ H _ I h) fun c s1 ⟨H1,I1,q1⟩=>?_)
 cases c with
 | true=>exact hb wh pins s1 σ H1 Q I1 q1
 | false=>exact⟨H1,I1,q1⟩
theorem tu (ha:PT X a tA) (hb:PW X (.BoolOp .Or (b::rest) pos) R7):PW X (.BoolOp .Or (a::b::rest) pos) (tOr tA R7):=by
 intro wh pins s σ H Q I h
 refine isTrue_or (bD (ha pins s σ H _ I h) fun c s1 ⟨H1,I1,q1⟩=>?_)
 cases c with
 | true=>exact⟨H1,I1,q1⟩
 | false=>exact hb wh pins s1 σ H1 Q I1 q1
theorem mJ (ha:PT X a tA):PT X (.UnaryOp .Not a pos) (QM tA):=by
 intro pins s σ H Q I h
 exact isTrue_not (ha pins s σ H (fun c H1=>Q (!c) H1) I h)
noncomputable def JX (ta tb:TE):TE:=fun σ H Q=>ta σ H fun x H1=>∃c,x = .bl c∧if c=true then tb σ H1 Q else Q (.bl false) H1
noncomputable def Oz (ta tb:TE):TE:=fun σ H Q=>ta σ H fun x H1=>∃c,x = .bl c∧if c=true then Q (.bl true) H1 else tb σ H1 Q
noncomputable def KL (ta:TE):TE:=fun σ H Q=>ta σ H fun x H1=>∃c,x = .bl c∧Q (.bl (!c)) H1
theorem kM {op}{t:TE} (h:PE X a t):PE X (.BoolOp op [a] pos) t:=fun pins s σ H Q I hw=>BoolOp_one (h pins s σ H Q I hw)
theorem vm (ha:PE X a ta) (hb:PE X (.BoolOp .And (b::rest) pos) tb):PE X (.BoolOp .And (a::b::rest) pos) (JX ta tb):=by
 intro pins s σ H Q I h
 refine BoolOp_and (bD (ha pins s σ H _ I h) fun v s1 ⟨x,H1,I1,r1,q1⟩=>?_)
 obtain⟨c,rfl,q1⟩:=q1
 cases r1
 refine wpAny_truthy_bool ?_
 cases c with
 | true=>exact hb pins s1 σ H1 Q I1 q1
 | false=>exact⟨.bl false,H1,I1,rfl,q1⟩
theorem xm (ha:PE X a ta) (hb:PE X (.BoolOp .Or (b::rest) pos) tb):PE X (.BoolOp .Or (a::b::rest) pos) (Oz ta tb):=by
 intro pins s σ H Q I h
 refine BoolOp_or (bD (ha pins s σ H _ I h) fun v s1 ⟨x,H1,I1,r1,q1⟩=>?_)
 obtain⟨c,rfl,q1⟩:=q1
 cases r1
 refine wpAny_truthy_bool ?_
 cases c with
 | false=>exact hb pins s1 σ H1 Q I1 q1
 | true=>exact⟨.bl true,H1,I1,rfl,q1⟩
theorem K9 (ha:PE X a ta):PE X (.UnaryOp .Not a pos) (KL ta):=by
 intro pins s σ H Q I h
 refine UnaryOp_ (bD (ha pins s σ H _ I h) fun v s1 ⟨x,H1,I1,r1,q1⟩=>?_)
 obtain⟨c,rfl,q1⟩:=q1
 cases r1
 exact not_of (wpAny_truthy_bool ⟨.bl (!c),H1,I1,rfl,q1⟩)
noncomputable def tIf (t:TT) (ta tb:TE):TE:=fun σ H Q=>t σ H fun c H1=>if c=true then ta σ H1 Q else tb σ H1 Q
theorem FA {c:Expr} (hc:PT X c tA) (ha:PE X a ta) (hb:PE X b tb):PE X (.IfExp c a b pos) (tIf tA ta tb):=by
 intro pins s σ H Q I h
 refine wpAny_IfExp (bD (hc pins s σ H _ I h) fun d s1 ⟨H1,I1,q1⟩=>?_)
 cases d with
 | true=>exact ha pins s1 σ H1 Q I1 q1
 | false=>exact hb pins s1 σ H1 Q I1 q1
end
end L2
namespace L2
open PySem PySem.Spec PyProof.Rows
noncomputable def fD (K:PySem.W.Frag) (H:Hp) (a:Addr) (xs:List V):Prop:=
 Rd H a (.lst xs) ∨
  ∃(o:Obj) (aq:Array Value) (n:Nat),K.lookup a=some o∧o.cls = .type "list"∧o.dict=none∧o.data = .seq aq n∧aq.size≤sizeLine∧Vals xs aq.toList
noncomputable def jr (K:PySem.W.Frag) (H:Hp) (a:Addr) (xs:List V):Prop:=
 Rd H a (.tup xs) ∨
  ∃(o:Obj) (aq:Array Value) (n:Nat),K.lookup a=some o∧o.cls = .type "tuple"∧o.data = .seq aq n∧aq.size≤sizeLine∧Vals xs aq.toList
noncomputable def Vc:Value→Option V
 | .none=>some .non
 | .bool b=>some (.bl b)
 | .int i _=>some (.int i)
 | .str x _=>some (.str x)
 | .bytes b _=>some (.byt b)
 | .float b _=>some (.flt b)
 | .ref a=>some (.ref a)
 | .type n=>some (.ty n)
 | _=>none
theorem RelV.abs {x:V}{u:Value} (r:RelV x u):Vc u=some x:=by
 cases x with
 | non=>cases r;rfl
 | bl _=>cases r;rfl
 | int _=>obtain⟨t,rfl⟩:=r;rfl
 | str _=>obtain⟨t,rfl⟩:=r;rfl
 | byt _=>obtain⟨t,rfl⟩:=r;rfl
 | flt _=>obtain⟨t,rfl⟩:=r;rfl
 | ref _=>cases r;rfl
 | ty _=>cases r;rfl
theorem RelV.inj {x y:V}{u:Value} (r:RelV x u) (q:RelV y u):x=y:=Option.some.inj (r.abs.symm.trans q.abs)
theorem Vals.inj:∀{xs ys:List V}{us:List Value},Vals xs us→Vals ys us→xs=ys
 | _,_,_,.nil,.nil=>rfl
 | _,_,_,.cons r t,.cons r' t'=>by rw [r.inj r',Vals.inj t t']
section
variable {X : Cx} {pins : List (Addr × Obj)} {σ : St} {H : Hp} {s : Shared} {a : Addr} {xs ys : List V}
theorem fD.of {K:PySem.W.Frag} (h:H a=some (.lst xs)):fD K H a xs:=.inl (.inl h)
theorem jr.of {K:PySem.W.Frag} (h:H a=some (.tup xs)):jr K H a xs:=.inl (.inl h)
theorem Inv.list (I:Inv X pins σ H s) (h:fD X.K H a xs):∃aq:List Value,Vals xs aq∧PlainL s.heap a aq.toArray∧xs.length≤sizeLine:=by
 rcases h with h|⟨o,aq,n,hk,hc,hd,hs,hz,r⟩
 · obtain⟨z,aq,n,r,e⟩:=h.ok I.aO
   exact⟨aq,r,⟨_,n,e,rfl,rfl,rfl⟩,z⟩
 · refine⟨aq.toList,r,⟨o,n,I.rq a o hk,hc,hd,by simpa using hs⟩,?_⟩
   have e:=r.length
   simp only [Array.length_toList] at e
   omega
theorem Inv.tuple (I:Inv X pins σ H s) (h:jr X.K H a xs):∃aq:List Value,Vals xs aq∧IsTup s.heap a aq.toArray∧xs.length≤sizeLine:=by
 rcases h with h|⟨o,aq,n,hk,hc,hs,hz,r⟩
 · obtain⟨z,aq,r,p⟩:=h.ok I.aO
   exact⟨aq,r,p,z⟩
 · refine⟨aq.toList,r,⟨o,I.rq a o hk,hc,n,by simpa using hs⟩,?_⟩
   have e:=r.length
   simp only [Array.length_toList] at e
   omega
theorem Inv.xf (I:Inv X pins σ H s) (h:fD X.K H a xs) (h':fD X.K H a ys):xs=ys:=by
 obtain⟨aq,r,⟨o,n,e,_,_,d⟩,_⟩:=I.list h
 obtain⟨its',r',⟨o',n',e',_,_,d'⟩,_⟩:=I.list h'
 rw [e] at e';cases e'
 rw [d] at d'
 injection d' with d1 _
 have:aq=its':=by simpa using congrArg Array.toList d1
 subst this
 exact r.inj r'
theorem Inv.uo (I:Inv X pins σ H s) (h:jr X.K H a xs) (h':jr X.K H a ys):xs=ys:=by
 obtain⟨aq,r,⟨o,e,_,n,d⟩,_⟩:=I.tuple h
 obtain⟨its',r',⟨o',e',_,n',d'⟩,_⟩:=I.tuple h'
 rw [e] at e';cases e'
 rw [d] at d'
 injection d' with d1 _
 have:aq=its':=by simpa using congrArg Array.toList d1
 subst this
 exact r.inj r'
end
noncomputable abbrev Cx.g0 (X:Cx) (E:Value→Shared→Prop):Cx:={X with xe:=E}
noncomputable abbrev Cx.Jt (X:Cx):Cx:=X.g0 fun _ _=>False
theorem Cx.Ok.g0 {X:Cx} (ok:X.Ok) (E:Value→Shared→Prop):(X.g0 E).Ok:=
 ⟨ok.mod,ok.kind,ok.glob,ok.blt,ok.above,ok.inj,ok.has,ok.G4,ok.hd,ok.frames,ok.qT,ok.oA,ok.bs,ok.Ah,ok.sy,ok.km,ok.jN,ok.Dz⟩
theorem Cx.Ok.cO {X:Cx}{E:Value→Shared→Prop} (ok:(X.g0 E).Ok):X.Ok:=
 ⟨ok.mod,ok.kind,ok.glob,ok.blt,ok.above,ok.inj,ok.has,ok.G4,ok.hd,ok.frames,ok.qT,ok.oA,ok.bs,ok.Ah,ok.sy,ok.km,ok.jN,ok.Dz⟩
section
variable {X : Cx} {pins : List (Addr × Obj)} {σ : St} {H : Hp} {s : Shared} {E : Value→Shared→Prop}
theorem Inv.g0 (I:Inv X pins σ H s) (E:Value→Shared→Prop):Inv (X.g0 E) pins σ H s:=⟨I.ok.g0 E,I.os,I.bare,I.base,I.loc,I.cell,I.free,I.eV,I.pin,I.aO,I.len⟩
theorem Inv.cO (I:Inv (X.g0 E) pins σ H s):Inv X pins σ H s:=⟨I.ok.cO,I.os,I.bare,I.base,I.loc,I.cell,I.free,I.eV,I.pin,I.aO,I.len⟩
theorem SP.cO {D:Ends}{f:Flow}{s':Shared} (h:SP (X.g0 E) pins D f s'):SP X pins D f s':=by
 cases f with
 | next=>obtain⟨σ',H',I,q⟩:=h;exact⟨σ',H',I.cO,q⟩
 | brk=>obtain⟨σ',H',I,q⟩:=h;exact⟨σ',H',I.cO,q⟩
 | cont=>obtain⟨σ',H',I,q⟩:=h;exact⟨σ',H',I.cO,q⟩
 | ret u=>obtain⟨v,σ',H',I,r,q⟩:=h;exact⟨v,σ',H',I.cO,r,q⟩
theorem PE.Jt {e:Expr}{t:TE} (h:PE X.Jt e t):PE X e t:=fun pins s σ H Q I hw=>
 wpAny_mono (h pins s σ H Q (I.g0 _) hw) (fun _ _ ⟨v,H',I',r,q⟩=>⟨v,H',I'.cO,r,q⟩) fun _ _ z=>False.elim z
theorem PT.Jt {e:Expr}{t:TT} (h:PT X.Jt e t):PT X e t:=fun pins s σ H Q I hw=>
 wpAny_mono (h pins s σ H Q (I.g0 _) hw) (fun _ _ ⟨H',I',q⟩=>⟨H',I'.cO,q⟩) fun _ _ z=>False.elim z
theorem nz.Jt {st:List Stmt}{t:TS} (h:nz X.Jt st t):nz X st t:=fun pins s σ H D I hw=>
 wpAny_mono (h pins s σ H D (I.g0 _) hw) (fun _ _ q=>q.cO) fun _ _ z=>False.elim z
end
section
variable {X : Cx} {st : Stmt} {rest : List Stmt} {t u : TS} {e : Expr} {te : TE} {pos : Pos}
noncomputable def Kl:TS:=fun D σ H=>D.nx σ H
noncomputable def gX (t u:TS):TS:=fun D σ H=>t {D with nx:=u D} σ H
theorem aE:nz X [] Kl:=fun _ _ σ H _ I h=>wpAny_execs_nil ⟨σ,H,I,h⟩
theorem ag (h1:PS X st t) (h2:nz X rest u):nz X (st::rest) (gX t u):=by
 intro pins s σ H D I h
 refine wpAny_execs_cons (bD (h1 pins s σ H {D with nx:=u D} I h) fun f s1 q=>?_)
 cases f with
 | next=>
  obtain⟨σ',H',I',q⟩:=q
  exact h2 pins s1 σ' H' D I' q
 | ret v=>exact q
 | brk=>exact q
 | cont=>exact q
theorem ai (h1:PS X st t):nz X [st] t:=by
 intro pins s σ H D I h
 refine wpAny_execs_cons (bD (h1 pins s σ H D I h) fun f s1 q=>?_)
 cases f with
 | next=>exact wpAny_execs_nil q
 | ret v=>exact q
 | brk=>exact q
 | cont=>exact q
theorem Inv.quiet {pins:List (Addr×Obj)}{σ:St}{H:Hp}{s:Shared} (I:Inv X pins σ H s):interactive X.env=false:=by simp [interactive,I.ok.kind]
noncomputable def Ki (te:TE):TS:=fun D σ H=>te σ H fun _ H1=>D.nx σ H1
theorem gk (he:PE X e te) (hs:swapsWith e none pos.line X.env=pure false:=by rfl):PS X (.Expr e pos) (Ki te):=by
 intro pins s σ H D I h
 exact wpAny_Expr_any (bD (he pins s σ H _ I h) fun v s1 ⟨x,H1,I1,r1,q1⟩=>⟨σ,H1,I1,q1⟩) I.quiet hs
noncomputable def OI (te:TE):TS:=fun D σ H=>te σ H D.rt
theorem ax (he:PE X e te):PS X (.Return (some e) pos) (OI te):=by
 intro pins s σ H D I h
 exact wpAny_Return_some (bD (he pins s σ H _ I h) fun v s1 ⟨x,H1,I1,r1,q1⟩=>⟨x,σ,H1,I1,r1,q1⟩)
noncomputable def Pg (c:TT) (t u:TS):TS:=fun D σ H=>c σ H fun b H1=>if b=true then t D σ H1 else u D σ H1
theorem aW {c:Expr}{a b:List Stmt}{tc:TT} (hc:PT X c tc) (ha:nz X a t) (hb:nz X b u):PS X (.If c a b pos) (Pg tc t u):=by
 intro pins s σ H D I h
 refine wpAny_If (bD (hc pins s σ H _ I h) fun d s1 ⟨H1,I1,q1⟩=>?_)
 cases d with
 | true=>exact ha pins s1 σ H1 D I1 q1
 | false=>exact hb pins s1 σ H1 D I1 q1
noncomputable def Eh:TS:=fun _ _ _=>False
theorem iX:PS X st Eh:=fun _ _ _ _ _ _ h=>h.elim
end
noncomputable abbrev TG:=V→St→Hp→(St→Hp→Prop)→Prop
noncomputable abbrev Ik:=List V→St→Hp→(St→Hp→Prop)→Prop
noncomputable def PG (X:Cx) (target:Expr) (t:TG):Prop:=
 ∀(pins:List (Addr×Obj)) (s:Shared) (σ:St) (H:Hp) (v:V) (u:Value) (Q:St→Hp→Prop),Inv X pins σ H s→RelV v u→t v σ H Q→
  wpAny (model X.prog X.w) X.A (assign target X.env u) (fun _ s'=>∃σ' H',Inv X pins σ' H' s'∧Q σ' H') X.xe s
noncomputable def Rh (X:Cx) (ts:List Expr) (t:Ik):Prop:=
 ∀(pins:List (Addr×Obj)) (s:Shared) (σ:St) (H:Hp) (vs:List V) (us:List Value) (Q:St→Hp→Prop),Inv X pins σ H s→Vals vs us→t vs σ H Q→
  wpAny (model X.prog X.w) X.A (assignInOrder ((assignEach ts X.env).map (·.2)) us) (fun _ s'=>∃σ' H',Inv X pins σ' H' s'∧Q σ' H') X.xe s
noncomputable abbrev Jg:=V→V→V→Hp→(Hp→Prop)→Prop
noncomputable def O3 (X:Cx) (t:Jg):Prop:=
 ∀(pins:List (Addr×Obj)) (s:Shared) (σ:St) (H:Hp) (o i v:V) (ov iv u:Value) (Q:Hp→Prop),Inv X pins σ H s→RelV o ov→RelV i iv→RelV v u→t o i v H Q→
  wpAny (model X.prog X.w) X.A (setItem ov iv u) (fun _ s'=>∃H',Inv X pins σ H' s'∧Q H') X.xe s
noncomputable abbrev QS:=V→V→Hp→VK→Prop
noncomputable def PIp (X:Cx) (op:Operator) (t:QS):Prop:=
 ∀(pins:List (Addr×Obj)) (s:Shared) (σ:St) (H:Hp) (x y:V) (v u:Value) (Q:VK),Inv X pins σ H s→RelV x v→RelV y u→t x y H Q→
  wpAny (model X.prog X.w) X.A (inplaceOp op v u) (EP X pins σ Q) X.xe s
section
variable {X : Cx} {pos : Pos}
noncomputable def DK (i:Nat):TG:=fun v σ H Q=>Q (σ.set i (some v)) H
theorem dA {i:Nat}{x:Str} (hN:X.N.Nodup) (hi:X.N[i]? = some x) (hx:Loc X.env.scope x) (hf:X.fn x=true∨X.env.scope.names.lookup x=some .local:=by first|exact .inl rfl|exact .inr rfl|assumption):PG X (.Name x pos) (DK i):=by
 intro pins s σ H v u Q I r h
 exact wpAny_assign_Name (mU I hN hi hx r (fun s' I'=>⟨_,H,I',h⟩) hf)
noncomputable def ON:Ik:=fun vs σ H Q=>vs=[]∧Q σ H
noncomputable def Kp (t:TG) (u:Ik):Ik:=fun vs σ H Q=>∃v r,vs=v::r∧t v σ H fun σ' H'=>u r σ' H' Q
theorem Be:Rh X [] ON:=by
 intro pins s σ H vs us Q I r h
 obtain⟨e,h⟩:=h
 subst e
 cases r
 exact assignInOrder_nil ⟨σ,H,I,h⟩
theorem nV {e:Expr}{es:List Expr}{t:TG}{u:Ik} (h1:PG X e t) (h2:Rh X es u)
 (hs:(assignEach (e::es) X.env).map (·.2)=assign e X.env::(assignEach es X.env).map (·.2):=by rfl):Rh X (e::es) (Kp t u):=by
 intro pins s σ H vs us Q I r h
 obtain⟨v,vr,e1,h⟩:=h
 subst e1
 cases r with
 | cons r rr=>
  rw [hs]
  refine assignInOrder_cons (bD (h1 pins s σ H _ _ _ I r h) fun _ s1 ⟨σ1,H1,I1,q1⟩=>?_)
  exact h2 pins s1 σ1 H1 _ _ Q I1 rr q1
noncomputable def Pz (K:PySem.W.Frag) (n:Nat) (t:Ik):TG:=fun v σ H Q=>∃a xs,v = .ref a∧jr K H a xs∧xs.length=n∧t xs σ H Q
theorem Fw {es:List Expr}{k:Nat}{t:Ik}{n:Nat} (hc:X.calm=true) (h:Rh X es t)
 (hn:(assignEach es X.env).length=n:=by rfl) (Zf:(assignEach es X.env).findIdx? (·.1)=none:=by rfl):PG X (.Tuple es k pos) (Pz X.K n t):=by
 intro pins s σ H v u Q I r hw
 obtain⟨a,xs,e1,hq,hl,hw⟩:=hw
 subst e1
 cases r
 obtain⟨aq,rv,ht,hz⟩:=I.tuple hq
 refine assign_Tuple_tuple (I.ok.hd hc) ht (by simp [hn,←hl,rv.length]) Zf fun h' hx=>?_
 have I1:Inv X pins σ H {s with heap:=h'}:=I.kept (t':=s.toks) fun b o e=>hx b o (Nat.ne_of_lt (Heap.lt_size e)) e
 exact h pins _ σ H xs _ Q I1 (by simpa using rv) hw
noncomputable def N2 (to ti:TE) (t:Jg):TG:=fun v σ H Q=>to σ H fun o H1=>ti σ H1 fun i H2=>t o i v H2 fun H3=>Q σ H3
theorem zM {o i:Expr}{to ti:TE}{t:Jg} (ho:PE X o to) (hi:PE X i ti) (hs:O3 X t)
 (ha:∀v,assign (.Subscript o i pos) X.env v=(do
   let ov ←holding [v] (eval o X.env)
   let iv ←holding [v,ov] (eval i X.env)
   standAt pos
   holding [v,ov,iv] (setItem ov iv v)
   release [v,ov,iv] []):=by intro _;rfl):PG X (.Subscript o i pos) (N2 to ti t):=by
 intro pins s σ H v u Q I r h
 rw [ha]
 refine wpAny_bind (wpAny_holding (bD (ho pins s σ H _ I h) fun ov s1 ⟨x,H1,I1,r1,q1⟩=>?_))
 refine wpAny_bind (wpAny_holding (bD (hi pins s1 σ H1 _ I1 q1) fun iv s2 ⟨y,H2,I2,r2,q2⟩=>?_))
 refine wpAny_bind (wpAny_standAt (wpAny_bind (wpAny_holding (bD (hs pins s2 σ H2 x y v ov iv u _ I2 r1 r2 r q2) fun _ s3 ⟨H3,I3,q3⟩=>?_))))
 exact wpAny_release ⟨σ,H3,I3,q3⟩
noncomputable def La (te:TE) (g:TG):TS:=fun D σ H=>te σ H fun x H1=>g x σ H1 D.nx
theorem zN {tg e:Expr}{te:TE}{g:TG} (he:PE X e te) (hg:PG X tg g) (hs:swapsWithSole [tg] e pos.line X.env=pure false:=by rfl) (hw:swappedStores [tg] e X.env=pure none:=by rfl)
 (h1:(assignEach [tg] X.env).map (·.2)=[assign tg X.env]:=by rfl):PS X (.Assign [tg] e pos) (La te g):=by
 intro pins s σ H D I h
 refine wpAny_Assign_stores (bD (he pins s σ H _ I h) fun v s1 ⟨x,H1,I1,r1,q1⟩=>?_) hs hw
 rw [h1]
 exact bD (hg pins s1 σ H1 x v _ I1 r1 q1) fun _ s2 q=>q
theorem LU {i:Nat}{x:Str}{e:Expr}{te:TE}{pos':Pos} (hN:X.N.Nodup) (hi:X.N[i]? = some x) (hx:Loc X.env.scope x) (he:PE X e te) (hs:swapsWith e (some (.Name x pos')) pos.line X.env=pure false:=by rfl) (hf:X.fn x=true∨X.env.scope.names.lookup x=some .local:=by first|exact .inl rfl|exact .inr rfl|assumption) :
 PS X (.Assign [.Name x pos'] e pos) (La te (DK i)):=by
 intro pins s σ H D I h
 refine wpAny_Assign_Name (bD (he pins s σ H _ I h) fun v s1 ⟨y,H1,I1,r1,q1⟩=>?_) hs
 exact mU I1 hN hi hx r1 (fun s2 I2=>⟨_,H1,I2,q1⟩) hf
noncomputable def Px (i:Nat) (te:TE) (ti:QS):TS:=fun D σ H=>∃x,σ[i]? = some (some x)∧te σ H fun y H1=>ti x y H1 fun z H2=>D.nx (σ.set i (some z)) H2
theorem Mz {i:Nat}{x:Str}{e:Expr}{te:TE}{op:Operator}{ti:QS}{pos':Pos} (hN:X.N.Nodup) (hi:X.N[i]? = some x) (hx:Loc X.env.scope x) (he:PE X e te) (ho:PIp X op ti) (hf:X.fn x=true∨X.env.scope.names.lookup x=some .local:=by first|exact .inl rfl|exact .inr rfl|assumption) :
 PS X (.AugAssign (.Name x pos') op e pos) (Px i te ti):=by
 intro pins s σ H D I h
 obtain⟨v,e1,h⟩:=h
 obtain⟨m,hn,hl⟩:=I.loc
 have vis:Qw X.env.scope x:=by rcases hx with k|k;exact .inl k;exact .inr (.inl k)
 obtain⟨u,r,l⟩:=hl i x v hi e1 vis
 refine wpAny_AugAssign_Name ?_
 have go:wpAny (model X.prog X.w) X.A (eval e X.env) (fun w s₂=>wpAny (model X.prog X.w) X.A (inplaceOp op u w) (fun r s₃=>wpAny (model X.prog X.w) X.A (storeName X.env x r) (fun _=>SP X pins D .next) X.xe s₃) X.xe s₂) X.xe s:=by
  refine bD (he pins s σ H _ I h) fun w s1 ⟨y,H1,I1,r1,q1⟩=>?_
  refine bD (ho pins s1 σ H1 v y u w _ I1 r r1 q1) fun z s2 ⟨zv,H2,I2,r2,q2⟩=>?_
  exact mU I2 hN hi hx r2 (fun s3 I3=>⟨_,H2,I3,q2⟩) hf
 rcases l with ⟨hk,hm⟩|⟨hk,c,hc,hcell⟩
 · exact wpAny_loadName_local I.ok.kind hk hn hm go
 · rcases hk with hk|hk
   · exact wpAny_loadName_cell I.ok.kind hk hc hcell go
   · rcases hx with k|k
     · have:X.env.scope.names.lookup x=some .free:=hk
       rw [k] at this;cases this
     · have:X.env.scope.names.lookup x=some .free:=hk
       rw [k] at this;cases this
noncomputable def ipI (f:Int→Int→Int):QS:=fun x y H Q=>∃i j,x = .int i∧y = .int j∧Q (.int (f i j)) H
theorem M8:PIp X .Add (ipI fun i j=>i+j):=by
 intro pins s σ H x y v u Q I r1 r2 h
 obtain⟨i,j,e1,e2,q⟩:=h
 subst e1;subst e2
 obtain⟨t,rfl⟩:=r1
 obtain⟨t',rfl⟩:=r2
 exact iadd_int ⟨.int _,H,I.tok _,⟨_,rfl⟩,q⟩
end
section
variable {X : Cx} {pos : Pos}
noncomputable def Lg (c:TT) (tb:TS):TS:=fun D σ H=>∃W:Nat→St→Hp→Prop,(∃m,W m σ H)∧∀m σ H,W m σ H→
 c σ H fun b H1=>if b=true then ∃N:St→Hp→Prop,(∀σ' H',N σ' H'→∃m',m'<m∧W m' σ' H')∧tb {D with nx:=N,ct:=N,bk:=D.nx} σ H1 else D.nx σ H1
theorem wM {c:Expr}{body:List Stmt}{tc:TT}{tb:TS} (hp:PassesOwn (model X.prog X.w) X.A X.env X.xe) (hc:PT X c tc) (hb:nz X body tb):PS X (.While c body [] pos) (Lg tc tb):=by
 intro pins s σ H D I h
 obtain⟨W,⟨m0,w0⟩,turn⟩:=h
 refine wpAny_While (codeAny_whileLoop (fun n s'=>∃σ' H',Inv X pins σ' H' s'∧W n σ' H') ?_ m0 ⟨σ,H,I,w0⟩)
 rintro n s1 ⟨σ1,H1,I1,w1⟩
 refine wpAny_passesOwn hp (bD (hc pins s1 σ1 H1 _ I1 (turn n σ1 H1 w1)) fun b s2 ⟨H2,I2,q2⟩=>?_)
 cases b with
 | true=>
  obtain⟨N,hN,q2⟩:=q2
  rw [if_pos rfl]
  refine wpAny_passesOwn hp (bD (hb pins s2 σ1 H2 _ I2 q2) fun f s3 q3=>?_)
  cases f with
  | next=>
   obtain⟨σ3,H3,I3,n3⟩:=q3
   obtain⟨m',hm,w3⟩:=hN σ3 H3 n3
   exact⟨m',hm,σ3,H3,I3,w3⟩
  | cont=>
   obtain⟨σ3,H3,I3,n3⟩:=q3
   obtain⟨m',hm,w3⟩:=hN σ3 H3 n3
   exact⟨m',hm,σ3,H3,I3,w3⟩
  | brk=>exact q3
  | ret v=>exact q3
 | false=>
  rw [if_neg Bool.false_ne_true]
  exact wpAny_execs_nil ⟨σ1,H2,I2,q2⟩
end
structure It where
 go:Nat→Hp→Prop
 yT:Nat→Hp→V→Hp→Prop
 stop:Nat→Hp→Prop
noncomputable def bR (X:Cx) (pins:List (Addr×Obj)) (H:Hp) (b:Addr):Prop:=
 H b=none∧b≠X.env.locals∧b∉X.fs∧(b∈X.ex∨X.s₀.heap.objs.size≤b)∧(∀x c,X.env.cells.lookup x=some c→c≠b)∧∀p∈X.pn++pins,p.1≠b
theorem Inv.lG {X:Cx}{pins:List (Addr×Obj)}{σ:St}{H H':Hp}{s:Shared}{b:Addr} (I:Inv X pins σ H s) (hb:s.heap.objs.size≤b) (hn:H' b=none):bR X pins H' b:=by
 refine⟨hn,Nat.ne_of_gt (Nat.lt_of_lt_of_le I.lt hb),I.Qv hb,.inr (Nat.le_trans I.sz hb),fun x c e z=>?_,fun p hp z=>?_⟩
 · obtain⟨v,q⟩:=I.cell x c e
   exact absurd (Nat.lt_of_lt_of_le q.lt (by rw [z];exact hb)) (Nat.lt_irrefl _)
 · exact absurd (Nat.lt_of_lt_of_le (Heap.lt_size (I.pin p hp).1) (by rw [z];exact hb)) (Nat.lt_irrefl _)
structure Turn (P:Program) (w:World) (K:PySem.W.Frag) (tg:Expr) (J:It) (fp:List Addr) (it:Addr) (tn:Nat→Heap→Prop):Prop where
 mem:it∈fp
 obj:∀i h,tn i h→∀b∈fp,∃o,h.get? b=some o∧∀v,o.data ≠ .cell v
 keep:∀i h h',tn i h→(∀b∈fp,∀o,h.get? b=some o→h'.get? b=some o)→tn i h'
 item:∀(X:Cx),X.prog=P→X.w=w→X.K=K→X.calm=true→∀(i:Nat) (pins:List (Addr×Obj)) (s:Shared) (σ:St) (H:Hp) (E:Value→Shared→Prop),Inv X pins σ H s→(∀b∈fp,bR X pins H b)→tn i s.heap→J.go i H→
  wpAny (model P w) X.A (pyNext (.ref it)) (fun r s1=>∃u,r=some u∧
   wpAny (model P w) X.A (letOwnedTupleGo tg (.ref it) u) (fun _ s2=>∃x H',Inv X pins σ H' s2∧RelV x u∧J.yT i H x H'∧tn (i+1) s2.heap∧∀b∈fp,H' b=none) E s1) E s
 done:∀(X:Cx),X.prog=P→X.w=w→X.K=K→X.calm=true→∀(i:Nat) (pins:List (Addr×Obj)) (s:Shared) (σ:St) (H:Hp) (E:Value→Shared→Prop),Inv X pins σ H s→(∀b∈fp,bR X pins H b)→tn i s.heap→J.stop i H→
  wpAny (model P w) X.A (pyNext (.ref it)) (fun r s1=>r=none∧Inv X pins σ H s1) E s
 self:∀(A:Around) (i:Nat) (s:Shared) (Q:Value→Shared→Prop) (E:Value→Shared→Prop),tn i s.heap→Q (.ref it) s→wpAny (model P w) A (pyIter (.ref it)) Q E s
noncomputable abbrev TI:=St→Hp→(It→Hp→Prop)→Prop
noncomputable def PIE (X:Cx) (pins:List (Addr×Obj)) (σ:St) (tg:Expr) (R:It→Hp→Prop) (MV:Value) (s2:Shared):Prop:=
 ∃(it:Addr) (fp:List Addr) (tn:Nat→Heap→Prop) (J:It) (H':Hp),MV = .ref it∧Inv X pins σ H' s2∧Turn X.prog X.w X.K tg J fp it tn∧tn 0 s2.heap∧(∀b∈fp,bR X pins H' b)∧R J H'
noncomputable def PI (X:Cx) (tg iter:Expr) (wi:TI):Prop:=
 ∀(pins:List (Addr×Obj)) (s:Shared) (σ:St) (H:Hp) (R:It→Hp→Prop),Inv X pins σ H s→wi σ H R→
  wpAny (model X.prog X.w) X.A (eval iter X.env) (fun v s1=>wpAny (model X.prog X.w) X.A (pyIter v) (PIE X pins σ tg R) X.xe s1) X.xe s
theorem BM {M:Model}{A:Around}{E:Value→Shared→Prop}{s:Shared}{tg:Expr}{it:Addr}{u:Value}{o:Obj}{n:String}{vs:Array Value}{Q:Unit→Shared→Prop} (ho:s.heap.get? it=some o) (hc:o.cls = .type n) (hd:o.data = .fields vs)
 (hn:["enumerate","zip","dict_itemiterator","dict_reverseitemiterator","odict_iterator","itertools.zip_longest","itertools.pairwise"].contains n=false) (hQ:Q () s):wpAny M A (letOwnedTupleGo tg (.ref it) u) Q E s:=by
 unfold letOwnedTupleGo
 cases tg<;>first
  | exact wpAny_pure hQ
  | (cases u<;>first
      | exact wpAny_pure hQ
      | (refine wpAny_bind (wpAny_load ho ?_)
         rw [hc,hd]
         show wpAny M A (if (["enumerate","zip","dict_itemiterator","dict_reverseitemiterator","odict_iterator","itertools.zip_longest","itertools.pairwise"].contains n&&vs[0]? == some (rawInt _))=true then _ else _) Q E s
         rw [if_neg (by intro h;rw [hn,Bool.false_and] at h;cases h)]
         exact wpAny_pure hQ))
noncomputable def NX (K:PySem.W.Frag) (a:Addr):It:=
 ⟨fun i H=>∃xs x,fD K H a xs∧xs[i]? = some x,fun i H x H'=>H'=H∧∀xs,fD K H a xs→xs[i]? = some x,fun i H=>∃xs,fD K H a xs∧xs.length≤i⟩
noncomputable def NQ (K:PySem.W.Frag) (a:Addr):It:=
 ⟨fun i H=>∃xs x,jr K H a xs∧xs[i]? = some x,fun i H x H'=>H'=H∧∀xs,jr K H a xs→xs[i]? = some x,fun i H=>∃xs,jr K H a xs∧xs.length≤i⟩
noncomputable def GZ (lo:Int) (n:Nat):It:=⟨fun i _=>i<n,fun i H x H'=>H'=H∧x = .int (lo+i),fun i _=>n≤i⟩
theorem Cj {P:Program}{w:World}{K:PySem.W.Frag}{tg:Expr} (a it:Addr):Turn P w K tg (NX K a) [it] it (fun i h=>h.IsListIter it a i) where
 mem:=by simp
 obj:=fun i h st b hb=>by
  have e:b=it:=by simpa using hb
  subst e
  obtain⟨o,e,c,d⟩:=st
  exact⟨o,e,fun v z=>by rw [d] at z;cases z⟩
 keep:=fun i h h' st k=>st.at fun o e=>k it (by simp) o e
 item:=by
  intro X hP hw hK hc i pins s σ H E I hf st hg
  subst hP hw hK
  obtain⟨xs,x,hq,hx⟩:=hg
  obtain⟨aq,rv,p,hz⟩:=I.list hq
  obtain⟨u,hu,ru⟩:=rv.get hx
  obtain⟨f0,f1,f2,f3,f4,f5⟩:=hf it (by simp)
  refine wpAny_pyNext_list_item st p.isList (x:=u) (by simpa using hu) fun h' Fs sb=>?_
  have I1:Inv X pins σ H {s with heap:=h'}:=I.turned (t':=s.toks) (fun b o hb e=>(sb.2 b hb).trans e) f0 f1 f3 f4 f5
  obtain⟨o,e,c,d⟩:=id Fs
  exact⟨u,rfl,BM (s:={s with heap:=h'}) e c d (by decide) ⟨x,H,I1,ru,⟨rfl,fun ys hy=>by rw [I.xf hy hq];exact hx⟩,Fs,fun b hb=>(hf b hb).1⟩⟩
 done:=by
  intro X hP hw hK hc i pins s σ H E I hf st hg
  subst hP hw hK
  obtain⟨xs,hq,hx⟩:=hg
  obtain⟨aq,rv,p,hz⟩:=I.list hq
  obtain⟨f0,f1,f2,f3,f4,f5⟩:=hf it (by simp)
  have hl:=rv.length
  exact wpAny_pyNext_list_end (I.ok.hd hc) st p.isList (by simp;omega) fun h' eb=>⟨rfl,I.turned (t':=s.toks) (fun b o hb e=>eb b o hb e) f0 f1 f3 f4 f5⟩
 self:=fun _ _ _ _ _ st h=>wpAny_pyIter_listiter st h
theorem Au {P:Program}{w:World}{K:PySem.W.Frag}{tg:Expr} (a it:Addr):Turn P w K tg (NQ K a) [it] it (fun i h=>h.IsTupleIter it a i) where
 mem:=by simp
 obj:=fun i h st b hb=>by
  have e:b=it:=by simpa using hb
  subst e
  obtain⟨o,e,c,d⟩:=st
  exact⟨o,e,fun v z=>by rw [d] at z;cases z⟩
 keep:=fun i h h' st k=>st.at fun o e=>k it (by simp) o e
 item:=by
  intro X hP hw hK hc i pins s σ H E I hf st hg
  subst hP hw hK
  obtain⟨xs,x,hq,hx⟩:=hg
  obtain⟨aq,rv,p,hz⟩:=I.tuple hq
  obtain⟨u,hu,ru⟩:=rv.get hx
  obtain⟨f0,f1,f2,f3,f4,f5⟩:=hf it (by simp)
  refine wpAny_pyNext_tuple_item st (show s.heap.IsTuple a aq.toArray from p) (x:=u) (by simpa using hu) fun h' Fs sb=>?_
  have I1:Inv X pins σ H {s with heap:=h'}:=I.turned (t':=s.toks) (fun b o hb e=>(sb.2 b hb).trans e) f0 f1 f3 f4 f5
  obtain⟨o,e,c,d⟩:=id Fs
  exact⟨u,rfl,BM (s:={s with heap:=h'}) e c d (by decide) ⟨x,H,I1,ru,⟨rfl,fun ys hy=>by rw [I.uo hy hq];exact hx⟩,Fs,fun b hb=>(hf b hb).1⟩⟩
 done:=by
  intro X hP hw hK hc i pins s σ H E I hf st hg
  subst hP hw hK
  obtain⟨xs,hq,hx⟩:=hg
  obtain⟨aq,rv,p,hz⟩:=I.tuple hq
  obtain⟨f0,f1,f2,f3,f4,f5⟩:=hf it (by simp)
  have hl:=rv.length
  exact wpAny_pyNext_tuple_end (I.ok.hd hc) st (show s.heap.IsTuple a aq.toArray from p) (by simp;omega) fun h' eb=>⟨rfl,I.turned (t':=s.toks) (fun b o hb e=>eb b o hb e) f0 f1 f3 f4 f5⟩
 self:=fun _ _ _ _ _ st h=>wpAny_pyIter_tupleiter st h
theorem Av {P:Program}{w:World}{K:PySem.W.Frag}{tg:Expr} (it:Addr) (lo:Int) (n:Nat):Turn P w K tg (GZ lo n) [it] it (fun i h=>IsRangeIter h it (lo+(i:Nat)*1) ((n:Int) - (i:Nat)) 1) where
 mem:=by simp
 obj:=fun i h st b hb=>by
  have e:b=it:=by simpa using hb
  subst e
  exact⟨_,st,fun v z=>by
   have z':Data.fields _=Data.cell v:=z
   cases z'⟩
 keep:=fun i h h' st k=>k it (by simp) _ st
 item:=by
  intro X hP hw hK hc i pins s σ H E I hf st hg
  subst hP hw hK
  obtain⟨f0,f1,f2,f3,f4,f5⟩:=hf it (by simp)
  have W:=Walks.range (prog:=X.prog) (w:=X.w) (I.ok.hd hc) it lo 1 n
  refine W.item i s _ _ hg st fun v h' tk hv Fs kk=>?_
  obtain⟨t,rfl⟩:=hv
  have I1:Inv X pins σ H {s with heap:=h',toks:=tk}:=I.turned (fun b o hb e=>kk b o (by simpa using hb) e) f0 f1 f3 f4 f5
  refine⟨_,rfl,BM (s:={s with heap:=h',toks:=tk}) (n:="range_iterator") Fs rfl rfl (by decide) ⟨.int (lo+i),H,I1,⟨t,?_⟩,⟨rfl,rfl⟩,Fs,fun b hb=>(hf b hb).1⟩⟩
  rw [Int.mul_one]
 done:=by
  intro X hP hw hK hc i pins s σ H E I hf st hg
  subst hP hw hK
  obtain⟨f0,f1,f2,f3,f4,f5⟩:=hf it (by simp)
  exact wpAny_pyNext_range_end (I.ok.hd hc) st (by have:n≤i:=hg;omega) fun h' eb=>⟨rfl,I.turned (t':=s.toks) (fun b o hb e=>eb b o hb e) f0 f1 f3 f4 f5⟩
 self:=fun _ _ _ _ _ st h=>wpAny_pyIter_rangeiter st h
end L2
namespace L2
open PySem PySem.Spec PyProof.Rows
section
variable {X : Cx} {tg : Expr}
theorem E2 {pins:List (Addr×Obj)}{σ:St}{H:Hp}{s:Shared}{R:It→Hp→Prop}{E:Value→Shared→Prop}{lo hi:Int}{t u v:Tok}{tk:Nat} (I:Inv X pins σ H s) (h1 : -(2^62)≤lo) (h2:lo<2^62) (h3 : -(2^62)≤hi) (h4:hi<2^62)
 (q:R (GZ lo (hi - lo).toNat) H):wpAny (model X.prog X.w) X.A (pyIter (.ref s.heap.objs.size)) (PIE X pins σ tg R) E {s with heap:=s.heap.push {cls:=.type "range",data:=.fields #[.int lo t,.int hi u,.int 1 v]},toks:=tk}:=by
 refine wpAny_pyIter_range (IsRange.new ..) (small_one h1 h2 h3 h4) ?_
 have I1:Inv X pins σ H {s with heap:=s.heap.push {cls:=.type "range",data:=.fields #[.int lo t,.int hi u,.int 1 v]},toks:=tk}:=I.kept fun b o e=>Heap.get?_push_of_some _ e
 refine⟨(s.heap.push {cls:=.type "range",data:=.fields #[.int lo t,.int hi u,.int 1 v]}).objs.size,[(s.heap.push {cls:=.type "range",data:=.fields #[.int lo t,.int hi u,.int 1 v]}).objs.size],_,_,H,rfl,
  I1.kept (t':=tk) fun b o e=>Heap.get?_push_of_some _ e,Av _ lo (hi - lo).toNat,?_,fun b hb=>?_,q⟩
 · have e1:lo+((0:Nat):Int)*1=lo:=by simp
   have e2:(((hi - lo).toNat:Nat):Int) - ((0:Nat):Int)=Builtin.Range.rangeSize lo hi 1:=by rw [rangeSize_one];split<;>omega
   show IsRangeIter _ _ (lo+((0:Nat):Int)*1) ((((hi - lo).toNat:Nat):Int) - ((0:Nat):Int)) 1
   rw [e1,e2]
   exact Heap.get?_push_size _ rfl
 · have e:b=(s.heap.push {cls:=.type "range",data:=.fields #[.int lo t,.int hi u,.int 1 v]}).objs.size:=by simpa using hb
   subst e
   exact I1.lG (Nat.le_refl _) (I1.aO.fresh (Nat.le_refl _))
noncomputable def J9 (ta:TA):TI:=fun σ H R=>ta σ H fun vs H1=>∃j:Int,vs=[.int j] ∧ -(2^62)≤j∧j<2^62∧R (GZ 0 j.toNat) H1
theorem uw {a:Expr}{ta:TA}{p pos:Pos} (hg:Gl X "range") (hm:X.mg "range"=none) (ha:PA X [a] ta) (hs:starEach [a] X.env=[(false,eval a X.env)]:=by rfl):PI X tg (.Call (.Name "range" p) [a] [] pos) (J9 ta):=by
 intro pins s σ H R I h
 refine Call_ (rS I hg hm boot_range (PyProof.Rows.callWith_type1 (bD (ha pos pins s σ H _ I h) fun us s1 ⟨vs,H1,I1,r1,q1⟩=>?_) hs rfl))
 obtain⟨j,e,q1,q2,q⟩:=q1
 subst e
 cases r1 with
 | cons r rr=>
  cases rr
  obtain⟨t,rfl⟩:=r
  exact call_range_1 (E2 I1 (by omega) (by omega) q1 q2 (by simpa using q))
noncomputable def Pc (wi:TI) (g:TG) (tb:TS):TS:=fun D σ H=>wi σ H fun J H1=>∃W:Nat→Nat→St→Hp→Prop,(∃m,W 0 m σ H1)∧∀i m σ H,W i m σ H→
 (J.stop i H∧D.nx σ H)∨(J.go i H∧∃N:St→Hp→Prop,(∀σ' H',N σ' H'→∃m',m'<m∧W (i+1) m' σ' H')∧∀x H',J.yT i H x H'→g x σ H' fun σ2 H2=>tb {D with nx:=N,ct:=N,bk:=D.nx} σ2 H2)
noncomputable def cF (fp:List Addr) (h:Heap):List (Addr×Obj):=fp.filterMap fun b=>(h.get? b).map fun o=>(b,o)
theorem cm {fp:List Addr}{h:Heap}{b:Addr}{o:Obj} (hb:b∈fp) (e:h.get? b=some o):(b,o)∈cF fp h:=List.mem_filterMap.mpr ⟨b,hb,by rw [e];rfl⟩
theorem iF {fp:List Addr}{h:Heap}{p:Addr×Obj} (hp:p∈cF fp h):p.1∈fp∧h.get? p.1=some p.2:=by
 obtain⟨b,hb,e⟩:=List.mem_filterMap.mp hp
 cases q:h.get? b with
 | none=>rw [q] at e;cases e
 | some o=>
  rw [q] at e
  have e':(b,o)=p:=Option.some.inj e
  subst e'
  exact⟨hb,q⟩
theorem Inv.pinned {pins:List (Addr×Obj)}{σ:St}{H:Hp}{s:Shared}{fp:List Addr} (I:Inv X pins σ H s) (hf:∀b∈fp,bR X pins H b) (ho:∀b∈fp,∃o,s.heap.get? b=some o∧∀v,o.data ≠ .cell v):Inv X (pins++cF fp s.heap) σ H s:=
 I.dw fun p hp=>(List.mem_append.mp hp).elim (fun z=>I.pin p (List.mem_append_right _ z)) fun z=>by
  obtain⟨hb,e⟩:=iF z
  obtain⟨f0,f1,f2,_⟩:=hf p.1 hb
  obtain⟨o,e',d⟩:=ho p.1 hb
  rw [e] at e';cases e'
  exact⟨e,f0,f1,f2,d⟩
theorem Inv.jO {pins pl:List (Addr×Obj)}{σ:St}{H:Hp}{s:Shared} (I:Inv X (pins++pl) σ H s):Inv X pins σ H s:=I.dw fun p hp=>I.pin p (List.mem_append_right _ (List.mem_append_left _ hp))
theorem jF {iter:Expr}{body:List Stmt}{wi:TI}{g:TG}{tb:TS}{pos:Pos} (hp:PassesOwn (model X.prog X.w) X.A X.env X.xe) (hc:X.calm=true) (hi:PI X tg iter wi) (hg:PG X tg g) (hb:nz X body tb)
 (hs:∀x,foldedSetIterable iter X.env x=pure x:=by intro _;rfl):PS X (.For tg iter body [] pos) (Pc wi g tb):=by
 intro pins s σ H D I h
 refine wpAny_For (bD (hi pins s σ H _ I h) fun v s1 h1=>bD h1 fun MV s2 h2=>?_) hs
 obtain⟨it,fp,tn,J,H2,e,I2,T,jI,f2,W,⟨m0,w0⟩,turn⟩:=h2
 subst e
 have Lz:∀{H':Hp},(∀b∈fp,H' b=none)→∀b∈fp,bR X pins H' b:=fun hn b hb=>⟨hn b hb,(f2 b hb).2⟩
 refine codeAny_forLoop_any (fun n s'=>∃i σ' H',Inv X pins σ' H' s'∧tn i s'.heap∧(∀b∈fp,H' b=none)∧W i n σ' H') ?_ m0 ⟨0,σ,H2,I2,jI,fun b hb=>(f2 b hb).1,w0⟩
 rintro n s3 ⟨i,σ3,H3,I3,st3,fr3,w3⟩
 rcases turn i n σ3 H3 w3 with ⟨stop,qn⟩|⟨go,N,hN,step⟩
 · refine wpAny_passesOwn hp (bD (T.done X rfl rfl rfl hc i pins s3 σ3 H3 X.xe I3 (Lz fr3) st3 stop) fun r s4 ⟨hr,I4⟩=>?_)
   subst hr
   exact wpAny_execs_nil ⟨σ3,H3,I4,qn⟩
 · refine wpAny_passesOwn hp (bD (T.item X rfl rfl rfl hc i pins s3 σ3 H3 X.xe I3 (Lz fr3) st3 go) fun r s4 ⟨u,hr,h4⟩=>?_)
   subst hr
   refine wpAny_passesOwn hp (bD h4 fun _ s5 ⟨x,H5,I5,r5,y5,st5,fr5⟩=>?_)
   have I5':=I5.pinned (Lz fr5) (T.obj _ _ st5)
   refine wpAny_passesOwn hp (bD (hg _ s5 σ3 H5 x u _ I5' r5 (step x H5 y5)) fun _ s6 ⟨σ6,H6,I6,q6⟩=>?_)
   refine wpAny_passesOwn hp (bD (hb _ s6 σ6 H6 _ I6 q6) fun f s7 q7=>?_)
   have again:∀{σ7:St}{H7:Hp},Inv X (pins++cF fp s5.heap) σ7 H7 s7→N σ7 H7→∃m,m<n∧∃i σ' H',Inv X pins σ' H' s7∧tn i s7.heap∧(∀b∈fp,H' b=none)∧W i m σ' H':=fun {σ7 H7} I7 n7=>by
    obtain⟨m',hm,w7⟩:=hN σ7 H7 n7
    refine⟨m',hm,i+1,σ7,H7,I7.jO,T.keep _ _ _ st5 fun b hb o e=>(I7.pin (b,o) (List.mem_append_right _ (List.mem_append_right _ (cm hb e)))).1,fun b hb=>?_,w7⟩
    obtain⟨o,e,d⟩:=T.obj _ _ st5 b hb
    exact(I7.pin (b,o) (List.mem_append_right _ (List.mem_append_right _ (cm hb e)))).2.1
   cases f with
   | next=>obtain⟨σ7,H7,I7,n7⟩:=q7;exact again I7 n7
   | cont=>obtain⟨σ7,H7,I7,n7⟩:=q7;exact again I7 n7
   | brk=>obtain⟨σ7,H7,I7,q7⟩:=q7;exact⟨σ7,H7,I7.jO,q7⟩
   | ret v=>obtain⟨x7,σ7,H7,I7,r7,q7⟩:=q7;exact⟨x7,σ7,H7,I7.jO,r7,q7⟩
end
theorem Em {K:PySem.W.Frag}{a:Addr}{xs:List V}{g:TG}{tb:TS}{D:Ends}{σ:St}{H:Hp} (Pv:Nat→St→Hp→Prop) (h0:Pv 0 σ H) (hl:∀i σ H,i≤xs.length→Pv i σ H→fD K H a xs)
 (hs:∀i x σ H,xs[i]? = some x→Pv i σ H→g x σ H fun σ2 H2=>tb {D with nx:=Pv (i+1),ct:=Pv (i+1),bk:=D.nx} σ2 H2) (hd:∀σ H,Pv xs.length σ H→D.nx σ H) :
 ∃W:Nat→Nat→St→Hp→Prop,(∃m,W 0 m σ H)∧∀i m σ H,W i m σ H→
  ((NX K a).stop i H∧D.nx σ H)∨((NX K a).go i H∧∃N:St→Hp→Prop,(∀σ' H',N σ' H'→∃m',m'<m∧W (i+1) m' σ' H')∧∀x H',(NX K a).yT i H x H'→g x σ H' fun σ2 H2=>tb {D with nx:=N,ct:=N,bk:=D.nx} σ2 H2):=by
 refine⟨fun i m σ H=>m=xs.length - i∧i≤xs.length∧Pv i σ H,⟨xs.length,by simp,Nat.zero_le _,h0⟩,?_⟩
 rintro i m σ H ⟨rfl,hi,p⟩
 have q:=hl i σ H hi p
 by_cases dY:i<xs.length
 · refine .inr ⟨⟨xs,xs[i],q,by simp [dY]⟩,Pv (i+1),fun σ' H' p'=>⟨xs.length - (i+1),by omega,rfl,dY,p'⟩,fun x H' y=>?_⟩
   obtain⟨e,y⟩:=y
   subst e
   exact hs i x σ _ (y xs q) p
 · have e:i=xs.length:=by omega
   subst e
   exact .inl ⟨⟨xs,q,Nat.le_refl _⟩,hd σ H p⟩
theorem Ht {K:PySem.W.Frag}{a:Addr}{xs:List V}{g:TG}{tb:TS}{D:Ends}{σ:St}{H:Hp} (Pv:Nat→St→Hp→Prop) (h0:Pv 0 σ H) (hl:∀i σ H,i≤xs.length→Pv i σ H→jr K H a xs)
 (hs:∀i x σ H,xs[i]? = some x→Pv i σ H→g x σ H fun σ2 H2=>tb {D with nx:=Pv (i+1),ct:=Pv (i+1),bk:=D.nx} σ2 H2) (hd:∀σ H,Pv xs.length σ H→D.nx σ H) :
 ∃W:Nat→Nat→St→Hp→Prop,(∃m,W 0 m σ H)∧∀i m σ H,W i m σ H→
  ((NQ K a).stop i H∧D.nx σ H)∨((NQ K a).go i H∧∃N:St→Hp→Prop,(∀σ' H',N σ' H'→∃m',m'<m∧W (i+1) m' σ' H')∧∀x H',(NQ K a).yT i H x H'→g x σ H' fun σ2 H2=>tb {D with nx:=N,ct:=N,bk:=D.nx} σ2 H2):=by
 refine⟨fun i m σ H=>m=xs.length - i∧i≤xs.length∧Pv i σ H,⟨xs.length,by simp,Nat.zero_le _,h0⟩,?_⟩
 rintro i m σ H ⟨rfl,hi,p⟩
 have q:=hl i σ H hi p
 by_cases dY:i<xs.length
 · refine .inr ⟨⟨xs,xs[i],q,by simp [dY]⟩,Pv (i+1),fun σ' H' p'=>⟨xs.length - (i+1),by omega,rfl,dY,p'⟩,fun x H' y=>?_⟩
   obtain⟨e,y⟩:=y
   subst e
   exact hs i x σ _ (y xs q) p
 · have e:i=xs.length:=by omega
   subst e
   exact .inl ⟨⟨xs,q,Nat.le_refl _⟩,hd σ H p⟩
theorem Dc {lo:Int}{n:Nat}{g:TG}{tb:TS}{D:Ends}{σ:St}{H:Hp} (Pv:Nat→St→Hp→Prop) (h0:Pv 0 σ H)
 (hs:∀i σ H,i<n→Pv i σ H→g (.int (lo+i)) σ H fun σ2 H2=>tb {D with nx:=Pv (i+1),ct:=Pv (i+1),bk:=D.nx} σ2 H2) (hd:∀σ H,Pv n σ H→D.nx σ H) :
 ∃W:Nat→Nat→St→Hp→Prop,(∃m,W 0 m σ H)∧∀i m σ H,W i m σ H→
  ((GZ lo n).stop i H∧D.nx σ H)∨((GZ lo n).go i H∧∃N:St→Hp→Prop,(∀σ' H',N σ' H'→∃m',m'<m∧W (i+1) m' σ' H')∧∀x H',(GZ lo n).yT i H x H'→g x σ H' fun σ2 H2=>tb {D with nx:=N,ct:=N,bk:=D.nx} σ2 H2):=by
 refine⟨fun i m σ H=>m=n - i∧i≤n∧Pv i σ H,⟨n,by simp,Nat.zero_le _,h0⟩,?_⟩
 rintro i m σ H ⟨rfl,hi,p⟩
 by_cases dY:i<n
 · refine .inr ⟨dY,Pv (i+1),fun σ' H' p'=>⟨n - (i+1),by omega,rfl,dY,p'⟩,fun x H' y=>?_⟩
   obtain⟨e,y⟩:=y
   subst e y
   exact hs i σ _ dY p
 · have e:i=n:=by omega
   subst e
   exact .inl ⟨Nat.le_refl _,hd σ H p⟩
end L2
namespace L2
open PySem PySem.Spec PyProof.Rows
noncomputable abbrev R2:=V→V→Hp→VK→Prop
noncomputable def kg (X:Cx) (f:Value→Value→Sem Value) (r:R2):Prop:=
 ∀(pins:List (Addr×Obj)) (s:Shared) (σ:St) (H:Hp) (x y:V) (v u:Value) (Q:VK),Inv X pins σ H s→RelV x v→RelV y u→r x y H Q→
  wpAny (model X.prog X.w) X.A (f v u) (EP X pins σ Q) X.xe s
noncomputable def VB (X:Cx) (f:Value→Sem Value) (r:V→Hp→VK→Prop):Prop:=
 ∀(pins:List (Addr×Obj)) (s:Shared) (σ:St) (H:Hp) (x:V) (v:Value) (Q:VK),Inv X pins σ H s→RelV x v→r x H Q→
  wpAny (model X.prog X.w) X.A (f v) (EP X pins σ Q) X.xe s
noncomputable def ck (X:Cx) (f:Value) (r:List V→Hp→VK→Prop):Prop:=
 ∀(pins:List (Addr×Obj)) (s:Shared) (σ:St) (H:Hp) (xs:List V) (us:List Value) (Q:VK),Inv X pins σ H s→Vals xs us→r xs H Q→
  wpAny (model X.prog X.w) X.A (call f us) (EP X pins σ Q) X.xe s
noncomputable def NO (r:R2) (ta tb:TE):TE:=fun σ H Q=>ta σ H fun x H1=>tb σ H1 fun y H2=>r x y H2 Q
noncomputable def tUn (r:V→Hp→VK→Prop) (ta:TE):TE:=fun σ H Q=>ta σ H fun x H1=>r x H1 Q
noncomputable def rI (C:Int→Int→Prop) (g:Int→Int→V):R2:=fun x y H Q=>∃i j,x = .int i∧y = .int j∧C i j∧Q (g i j) H
noncomputable def Hy (g:Int→Int→V):R2:=fun x y H Q=>∃i j,x = .int i∧y = .int j∧Q (g i j) H
noncomputable def rU (g:Int→V):V→Hp→VK→Prop:=fun x H Q=>∃i,x = .int i∧Q (g i) H
section
variable {X : Cx} {a b c : Expr} {ta tb tc : TE} {pos : Pos}
theorem M0 (ha:PE X a ta) (hb:PE X b tb) {pins:List (Addr×Obj)}{s:Shared}{σ:St}{H:Hp}{R:V→V→Hp→Prop} (I:Inv X pins σ H s)
 (h:ta σ H fun x H1=>tb σ H1 fun y H2=>R x y H2) {Q:Value→Shared→Prop}{f:Value→Value→Sem Value}
 (hf:∀v u s2 x y H2,Inv X pins σ H2 s2→RelV x v→RelV y u→R x y H2→wpAny (model X.prog X.w) X.A (f v u) Q X.xe s2) :
 wpAny (model X.prog X.w) X.A (eval a X.env) (fun v s₁=>wpAny (model X.prog X.w) X.A (eval b X.env) (fun u s₂=>wpAny (model X.prog X.w) X.A (f v u) Q X.xe s₂) X.xe s₁) X.xe s:=by
 refine bD (ha pins s σ H _ I h) fun v s1 ⟨x,H1,I1,r1,q1⟩=>?_
 refine bD (hb pins s1 σ H1 _ I1 q1) fun u s2 ⟨y,H2,I2,r2,q2⟩=>?_
 exact hf v u s2 x y H2 I2 r1 r2 q2
theorem ao {op:Operator}{r:R2} (ho:kg X (binaryOp op) r) (ha:PE X a ta) (hb:PE X b tb):PE X (.BinOp a op b pos) (NO r ta tb):=by
 intro pins s σ H Q I h
 exact wpAny_BinOp (M0 ha hb I h fun v u s2 x y H2 I2 rx ry q=>ho pins s2 σ H2 x y v u Q I2 rx ry q)
theorem wW {op:UnaryOp}{r:V→Hp→VK→Prop} (ho:VB X (unaryOp op) r) (ha:PE X a ta):PE X (.UnaryOp op a pos) (tUn r ta):=by
 intro pins s σ H Q I h
 exact UnaryOp_ (bD (ha pins s σ H _ I h) fun v s1 ⟨x,H1,I1,r1,q1⟩=>ho pins s1 σ H1 x v Q I1 r1 q1)
theorem Sm {f:Value→Value→Sem Value}{C:Int→Int→Prop}{g:Int→Int→Int}
 (rule:∀(i j:Int) (t u:Tok) (s:Shared) (Q:Value→Shared→Prop) (E:Value→Shared→Prop),C i j→Q (.int (g i j) s.toks) {s with toks:=s.toks+1}→wpAny (model X.prog X.w) X.A (f (.int i t) (.int j u)) Q E s) :
 kg X f (rI C fun i j=>.int (g i j)):=by
 intro pins s σ H x y v u Q I rx ry h
 obtain⟨i,j,rfl,rfl,hc,q⟩:=h
 obtain⟨t,rfl⟩:=rx
 obtain⟨t',rfl⟩:=ry
 exact rule i j t t' s _ _ hc ⟨.int (g i j),H,I.tok _,⟨_,rfl⟩,q⟩
theorem OL {f:Value→Value→Sem Value}{g:Int→Int→Int}
 (rule:∀(i j:Int) (t u:Tok) (s:Shared) (Q:Value→Shared→Prop) (E:Value→Shared→Prop),Q (.int (g i j) s.toks) {s with toks:=s.toks+1}→wpAny (model X.prog X.w) X.A (f (.int i t) (.int j u)) Q E s) :
 kg X f (Hy fun i j=>.int (g i j)):=by
 intro pins s σ H x y v u Q I rx ry h
 obtain⟨i,j,rfl,rfl,q⟩:=h
 obtain⟨t,rfl⟩:=rx
 obtain⟨t',rfl⟩:=ry
 exact rule i j t t' s _ _ ⟨.int (g i j),H,I.tok _,⟨_,rfl⟩,q⟩
theorem JB {f:Value→Value→Sem Value}{g:Int→Int→Bool}
 (rule:∀(i j:Int) (t u:Tok) (s:Shared) (Q:Value→Shared→Prop) (E:Value→Shared→Prop),Q (.bool (g i j)) s→wpAny (model X.prog X.w) X.A (f (.int i t) (.int j u)) Q E s) :
 kg X f (Hy fun i j=>.bl (g i j)):=by
 intro pins s σ H x y v u Q I rx ry h
 obtain⟨i,j,rfl,rfl,q⟩:=h
 obtain⟨t,rfl⟩:=rx
 obtain⟨t',rfl⟩:=ry
 exact rule i j t t' s _ _ ⟨.bl (g i j),H,I,rfl,q⟩
noncomputable def XW (i j:Int):Prop:=0<j∧j<1073741824
noncomputable def Ea (i j:Int):Prop:=(-(2^64)<i∧i<2^64)∨(-(2^64)<j∧j<2^64)
theorem Ea.ok {i j:Int} (h:Ea i j):IntMulOk i j:=by
 rcases h with ⟨h1,h2⟩|⟨h1,h2⟩
 · exact .of_left (intBits_le_64 h1 h2)
 · exact .of_right (intBits_le_64 h1 h2)
theorem bI:kg X (binaryOp .Add) (Hy fun i j=>.int (i+j)):=OL fun _ _ _ _ _ _ _ q=>add_int q
theorem ff:kg X (binaryOp .Sub) (Hy fun i j=>.int (i - j)):=OL fun _ _ _ _ _ _ _ q=>sub_int q
theorem mq:kg X (binaryOp .Mult) (rI Ea fun i j=>.int (i*j)):=Sm fun _ _ _ _ _ _ _ hc q=>mul_int q hc.ok
theorem bz:kg X (binaryOp .FloorDiv) (rI XW fun i j=>.int (i / j)):=Sm fun i j _ _ _ _ _ hc q=>by
 have h1:(0:Int)<j:=hc.1
 have h2:j<1073741824:=hc.2
 exact floordiv_int (by omega) (by rw [Int.fdiv_eq_ediv_of_nonneg i (by omega)];exact q) (.inl (PyProof.noPylong_small (by omega)))
theorem aU:kg X (binaryOp .Mod) (rI (fun _ j=>0<j) fun i j=>.int (i % j)):=Sm fun i j _ _ _ _ _ hc q=>by
 have h1:(0:Int)<j:=hc
 exact mod_int' (by omega) (by rw [Int.fmod_eq_emod_of_nonneg i (by omega)];exact q)
theorem unI {f:Value→Sem Value}{g:Int→Int}
 (rule:∀(i:Int) (t:Tok) (s:Shared) (Q:Value→Shared→Prop) (E:Value→Shared→Prop),Q (.int (g i) s.toks) {s with toks:=s.toks+1}→wpAny (model X.prog X.w) X.A (f (.int i t)) Q E s) :
 VB X f (rU fun i=>.int (g i)):=by
 intro pins s σ H x v Q I rx h
 obtain⟨i,rfl,q⟩:=h
 obtain⟨t,rfl⟩:=rx
 exact rule i t s _ _ ⟨.int (g i),H,I.tok _,⟨_,rfl⟩,q⟩
theorem rQ:VB X (unaryOp .USub) (rU fun i=>.int (-i)):=unI fun _ _ _ _ _ q=>neg_int q
end
noncomputable def zi:V→V→Bool
 | .non,.non=>true | .non,.int _=>true | .int _,.non=>true | .non,.bl _=>true | .bl _,.non=>true | .non,.str _=>true | .str _,.non=>true
 | .int _,.int _=>true | .bl _,.bl _=>true | .str _,.str _=>true | .byt _,.byt _=>true
 | .int _,.str _=>true | .str _,.int _=>true | .bl _,.str _=>true | .str _,.bl _=>true
 | _,_=>false
noncomputable def rEq:R2:=fun x y H Q=>zi x y=true∧Q (.bl (decide (x=y))) H
noncomputable def rNe:R2:=fun x y H Q=>zi x y=true∧Q (.bl (!decide (x=y))) H
theorem Bf {i j:Int}:decide (V.int i=V.int j)=(i==j):=by
 rw [Bool.eq_iff_iff]
 simp
theorem E7 {i j:Bool}:decide (V.bl i=V.bl j)=(i==j):=by
 rw [Bool.eq_iff_iff]
 simp
theorem AO {i j:Str}:decide (V.str i=V.str j)=(i==j):=by
 rw [Bool.eq_iff_iff]
 simp
theorem Bl {i j:Array UInt8}:decide (V.byt i=V.byt j)=(i.toList==j.toList):=by
 rw [Bool.eq_iff_iff]
 cases i
 cases j
 simp
section
variable {X : Cx} {a b c : Expr} {ta tb tc : TE} {pos : Pos}
theorem bf {pins:List (Addr×Obj)}{σ:St}{H:Hp}{s:Shared}{Q:VK}{k k':Bool} (I:Inv X pins σ H s) (q:Q (.bl k) H) (e:k=k'):EP X pins σ Q (.bool k') s:=by
 subst e
 exact⟨.bl k,H,I,rfl,q⟩
theorem bj:kg X (compareOp .Eq) rEq:=by
 intro pins s σ H x y v u Q I rx ry h
 obtain⟨hs,q⟩:=h
 cases x with
 | non=>
  cases rx
  cases y with
  | non=>cases ry;exact PySem.EqNone.eq_none_none (bf I q (by simp))
  | bl j=>cases ry;exact PySem.EqNone.eq_none_bool (bf I q (by simp))
  | int j=>obtain⟨t',rfl⟩:=ry;exact PySem.EqNone.eq_none_int (bf I q (by simp))
  | str j=>obtain⟨t',rfl⟩:=ry;exact PySem.EqNone.eq_none_str (bf I q (by simp))
  | _=>exact absurd (show false=true from hs) Bool.false_ne_true
 | bl i=>
  cases rx
  cases y with
  | non=>cases ry;exact PySem.EqNone.eq_bool_none (bf I q (by simp))
  | bl j=>cases ry;exact eq_bool (bf I q E7)
  | str j=>obtain⟨t',rfl⟩:=ry;exact PySem.EqMixed.eq_bool_str (bf I q (by simp))
  | _=>exact absurd (show false=true from hs) Bool.false_ne_true
 | int i=>
  obtain⟨t,rfl⟩:=rx
  cases y with
  | non=>cases ry;exact PySem.EqNone.eq_int_none (bf I q (by simp))
  | int j=>obtain⟨t',rfl⟩:=ry;exact eq_int (bf I q Bf)
  | str j=>obtain⟨t',rfl⟩:=ry;exact PySem.EqMixed.eq_int_str (bf I q (by simp))
  | _=>exact absurd (show false=true from hs) Bool.false_ne_true
 | str i=>
  obtain⟨t,rfl⟩:=rx
  cases y with
  | non=>cases ry;exact PySem.EqNone.eq_str_none (bf I q (by simp))
  | bl j=>cases ry;exact PySem.EqMixed.eq_str_bool (bf I q (by simp))
  | int j=>obtain⟨t',rfl⟩:=ry;exact PySem.EqMixed.eq_str_int (bf I q (by simp))
  | str j=>obtain⟨t',rfl⟩:=ry;exact eq_str (bf I q AO)
  | _=>exact absurd (show false=true from hs) Bool.false_ne_true
 | byt i=>
  obtain⟨t,rfl⟩:=rx
  cases y with
  | byt j=>obtain⟨t',rfl⟩:=ry;exact PySem.W.eq_bytes (bf I q Bl)
  | _=>exact absurd (show false=true from hs) Bool.false_ne_true
 | _=>cases y<;>exact absurd (show false=true from hs) Bool.false_ne_true
theorem xp:kg X (compareOp .NotEq) rNe:=by
 intro pins s σ H x y v u Q I rx ry h
 obtain⟨hs,q⟩:=h
 cases x with
 | non=>
  cases rx
  cases y with
  | non=>cases ry;exact PySem.EqNone.ne_none_none (bf I q (by simp))
  | bl j=>cases ry;exact PySem.EqNone.ne_none_bool (bf I q (by simp))
  | int j=>obtain⟨t',rfl⟩:=ry;exact PySem.EqNone.ne_none_int (bf I q (by simp))
  | str j=>obtain⟨t',rfl⟩:=ry;exact PySem.EqNone.ne_none_str (bf I q (by simp))
  | _=>exact absurd (show false=true from hs) Bool.false_ne_true
 | bl i=>
  cases rx
  cases y with
  | non=>cases ry;exact PySem.EqNone.ne_bool_none (bf I q (by simp))
  | bl j=>cases ry;exact ne_bool (bf I q (congrArg not E7))
  | str j=>obtain⟨t',rfl⟩:=ry;exact PySem.EqMixed.ne_bool_str (bf I q (by simp))
  | _=>exact absurd (show false=true from hs) Bool.false_ne_true
 | int i=>
  obtain⟨t,rfl⟩:=rx
  cases y with
  | non=>cases ry;exact PySem.EqNone.ne_int_none (bf I q (by simp))
  | int j=>obtain⟨t',rfl⟩:=ry;exact ne_int (bf I q (congrArg not Bf))
  | str j=>obtain⟨t',rfl⟩:=ry;exact PySem.EqMixed.ne_int_str (bf I q (by simp))
  | _=>exact absurd (show false=true from hs) Bool.false_ne_true
 | str i=>
  obtain⟨t,rfl⟩:=rx
  cases y with
  | non=>cases ry;exact PySem.EqNone.ne_str_none (bf I q (by simp))
  | bl j=>cases ry;exact PySem.EqMixed.ne_str_bool (bf I q (by simp))
  | int j=>obtain⟨t',rfl⟩:=ry;exact PySem.EqMixed.ne_str_int (bf I q (by simp))
  | str j=>obtain⟨t',rfl⟩:=ry;exact ne_str (bf I q (congrArg not AO))
  | _=>exact absurd (show false=true from hs) Bool.false_ne_true
 | byt i=>
  obtain⟨t,rfl⟩:=rx
  cases y with
  | byt j=>obtain⟨t',rfl⟩:=ry;exact PySem.W.ne_bytes (bf I q (congrArg not Bl))
  | _=>exact absurd (show false=true from hs) Bool.false_ne_true
 | _=>cases y<;>exact absurd (show false=true from hs) Bool.false_ne_true
theorem yb:kg X (compareOp .Lt) (Hy fun i j=>.bl (decide (i<j))):=JB fun _ _ _ _ _ _ _ q=>lt_int q
theorem uS:kg X (compareOp .LtE) (Hy fun i j=>.bl (decide (i≤j))):=JB fun _ _ _ _ _ _ _ q=>le_int q
theorem lR:kg X (compareOp .Gt) (Hy fun i j=>.bl (decide (j<i))):=JB fun _ _ _ _ _ _ _ q=>gt_int q
theorem yf:kg X (compareOp .GtE) (Hy fun i j=>.bl (decide (j≤i))):=JB fun _ _ _ _ _ _ _ q=>ge_int q
theorem vB:kg X (compareOp .NotIn) (fun x y H Q=>∃i j,x = .str i∧y = .str j∧Q (.bl (!(!(Builtin.Str.occurrences j i 0 j.length 1).isEmpty))) H):=by
 intro pins s σ H x y v u Q I rx ry h
 obtain⟨i,j,rfl,rfl,q⟩:=h
 obtain⟨t,rfl⟩:=rx
 obtain⟨t',rfl⟩:=ry
 exact notIn_str (bf I q rfl)
theorem kg.or {f:Value→Value→Sem Value}{r r':R2} (h:kg X f r) (h':kg X f r'):kg X f (fun x y H Q=>r x y H Q∨r' x y H Q):=by
 intro pins s σ H x y v u Q I rx ry q
 rcases q with q|q
 · exact h pins s σ H x y v u Q I rx ry q
 · exact h' pins s σ H x y v u Q I rx ry q
theorem aB (b:Expr) {op:CmpOp} (h:op ≠ .In:=by decide) (h2:op ≠ .NotIn:=by decide):behindInMarks op b=false:=by
 have e1:(op==CmpOp.In)=false:=by cases op<;>first|rfl|exact absurd rfl h
 have e2:(op==CmpOp.NotIn)=false:=by cases op<;>first|rfl|exact absurd rfl h2
 cases b<;>simp [behindInMarks,e1,e2]
theorem bu {op:CmpOp}{r:R2} (ho:kg X (compareOp op) r) (ha:PE X a ta) (hb:PE X b tb) (hm:behindInMarks op b=false):PE X (.Compare a [op] [b] pos) (NO r ta tb):=by
 intro pins s σ H Q I h
 exact wpAny_Compare1 (M0 ha hb I h fun v u s2 x y H2 I2 rx ry q=>ho pins s2 σ H2 x y v u Q I2 rx ry q) hm
noncomputable def E8 (t:TE):TT:=fun σ H Q=>t σ H fun x H'=>∃k,x = .bl k∧Q k H'
theorem aC {op:CmpOp}{r:R2} (ho:kg X (compareOp op) r) (ha:PE X a ta) (hb:PE X b tb) (hm:behindInMarks op b=false):PT X (.Compare a [op] [b] pos) (E8 (NO r ta tb)):=by
 intro pins s σ H Q I h
 refine wpAny_isTrue_Compare1 (bD (ha pins s σ H _ I h) fun v s1 ⟨x,H1,I1,r1,q1⟩=>bD (hb pins s1 σ H1 _ I1 q1) fun u s2 ⟨y,H2,I2,r2,q2⟩=>
  bD (ho pins s2 σ H2 x y v u _ I2 r1 r2 q2) fun c s3 ⟨z,H3,I3,r3,k,e,q3⟩=>?_) hm
 subst e
 cases r3
 exact wpAny_truthy_bool ⟨H3,I3,q3⟩
noncomputable def zE (r r':R2) (ta tb tc:TE):TE:=fun σ H Q=>ta σ H fun x H1=>tb σ H1 fun y H2=>r x y H2 fun z H3=>∃k,z = .bl k∧
 (if k=true then tc σ H3 fun w' H4=>r' y w' H4 Q else Q (.bl false) H3)
theorem sd {op Ls:CmpOp}{r r':R2} (ho:kg X (compareOp op) r) (uZ:kg X (compareOp Ls) r') (ha:PE X a ta) (hb:PE X b tb) (hc:PE X c tc)
 (hm:lastMarks [op,Ls] [b,c]=false:=by with_unfolding_all rfl):PE X (.Compare a [op,Ls] [b,c] pos) (zE r r' ta tb tc):=by
 intro pins s σ H Q I h
 refine Compare_chain (bD (ha pins s σ H _ I h) fun v s1 ⟨x,H1,I1,r1,q1⟩=>chain_link (bD (hb pins s1 σ H1 _ I1 q1) fun u s2 ⟨y,H2,I2,r2,q2⟩=>
  bD (ho pins s2 σ H2 x y v u _ I2 r1 r2 q2) fun d s3 ⟨z,H3,I3,r3,k,e,q3⟩=>?_)) hm
 subst e
 cases r3
 refine wpAny_truthy_bool ?_
 cases k with
 | false=>exact ite_ff ⟨.bl false,H3,I3,rfl,q3⟩
 | true=>exact ite_tt (chain_last (bD (hc pins s3 σ H3 _ I3 q3) fun w' s4 ⟨z',H4,I4,r4,q4⟩=>uZ pins s4 σ H4 y z' u w' Q I4 r2 r4 q4))
theorem wZ {op Ls:CmpOp}{r r':R2} (ho:kg X (compareOp op) r) (uZ:kg X (compareOp Ls) r') (ha:PE X a ta) (hb:PE X b tb) (hc:PE X c tc)
 (hm:lastMarks [op,Ls] [b,c]=false:=by with_unfolding_all rfl):PT X (.Compare a [op,Ls] [b,c] pos) (E8 (zE r r' ta tb tc)):=by
 intro pins s σ H Q I h
 refine isTrue_chain (bD (ha pins s σ H _ I h) fun v s1 ⟨x,H1,I1,r1,q1⟩=>test_link (bD (hb pins s1 σ H1 _ I1 q1) fun u s2 ⟨y,H2,I2,r2,q2⟩=>
  bD (ho pins s2 σ H2 x y v u _ I2 r1 r2 q2) fun d s3 ⟨z,H3,I3,r3,k,e,q3⟩=>?_)) hm
 subst e
 cases r3
 refine wpAny_truthy_bool ?_
 cases k with
 | false=>
  obtain⟨k',e',q'⟩:=q3
  cases e'
  exact ite_ff ⟨H3,I3,q'⟩
 | true=>
  refine ite_tt (test_last (bD (hc pins s3 σ H3 _ I3 q3) fun w' s4 ⟨z',H4,I4,r4,q4⟩=>bD (uZ pins s4 σ H4 y z' u w' _ I4 r2 r4 q4) fun d' s5 ⟨z2,H5,I5,r5,k2,e2,q5⟩=>?_))
  subst e2
  cases r5
  exact wpAny_truthy_bool ⟨H5,I5,q5⟩
theorem nZ:(sizeLine:Nat)<2^63:=by rw [sizeLine_eq];decide
theorem d7:kg X (binaryOp .Add) (fun x y H Q=>∃i j,x = .str i∧y = .str j∧i.length+j.length≤sizeLine∧Q (.str (i++j)) H):=by
 intro pins s σ H x y v u Q I rx ry h
 obtain⟨i,j,rfl,rfl,hz,q⟩:=h
 obtain⟨t,rfl⟩:=rx
 obtain⟨t',rfl⟩:=ry
 exact add_str (fun t' tk=>⟨.str (i++j),H,I.tok _,⟨_,rfl⟩,q⟩) hz
theorem vals1 {x:V}{us:List Value} (r:Vals [x] us):∃u,us=[u]∧RelV x u:=by
 cases r with
 | cons r1 r2=>cases r2;exact⟨_,rfl,r1⟩
theorem vals2 {x y:V}{us:List Value} (r:Vals [x,y] us):∃u w',us=[u,w']∧RelV x u∧RelV y w':=by
 cases r with
 | cons r1 r2=>
  cases r2 with
  | cons r3 r4=>cases r4;exact⟨_,_,rfl,r1,r3⟩
theorem C7 (hc:X.calm=true):ck X (.builtin "max") (fun xs H Q=>∃i j,xs=[.int i,.int j]∧Q (.int (if j > i then j else i)) H):=by
 intro pins s σ H xs us Q I r h
 obtain⟨i,j,rfl,q⟩:=h
 obtain⟨u,w',rfl,⟨t,rfl⟩,⟨t',rfl⟩⟩:=vals2 r
 refine max_two_ints (I.ok.hd hc) fun h' tk k=>⟨_,H,I.kept k,?_,q⟩
 by_cases hj:j > i
 · rw [if_pos hj,if_pos hj];exact⟨_,rfl⟩
 · rw [if_neg hj,if_neg hj];exact⟨_,rfl⟩
theorem BW (hc:X.calm=true):ck X (.builtin "min") (fun xs H Q=>∃i j,xs=[.int i,.int j]∧Q (.int (if j<i then j else i)) H):=by
 intro pins s σ H xs us Q I r h
 obtain⟨i,j,rfl,q⟩:=h
 obtain⟨u,w',rfl,⟨t,rfl⟩,⟨t',rfl⟩⟩:=vals2 r
 refine min_two_ints (I.ok.hd hc) fun h' tk k=>⟨_,H,I.kept k,?_,q⟩
 by_cases hj:j<i
 · rw [if_pos hj,if_pos hj];exact⟨_,rfl⟩
 · rw [if_neg hj,if_neg hj];exact⟨_,rfl⟩
theorem Cg:ck X (.type "int") (fun xs H Q=>(∃i,xs=[.int i]∧Q (.int i) H)∨∃k,xs=[.bl k]∧Q (.int (if k then 1 else 0)) H):=by
 intro pins s σ H xs us Q I r h
 rcases h with ⟨i,rfl,q⟩|⟨k,rfl,q⟩
 · obtain⟨u,rfl,t,rfl⟩:=vals1 r
   exact call_int_int ⟨.int i,H,I,⟨_,rfl⟩,q⟩
 · obtain⟨u,rfl,r1⟩:=vals1 r
   cases r1
   exact call_int_bool ⟨.int (if k then 1 else 0),H,I.tok _,⟨_,rfl⟩,q⟩
end
end L2
namespace L2
open PySem PySem.Spec PyProof.Rows
structure GP (h:Heap) (x dx C:Addr) (mA:Str→Option Value):Prop where
 obj:h.get? x=some (PySem.W.instObj C dx)
 ns:h.Ns1 dx mA
 ne:dx≠x
theorem B2 {h:Heap}{dx:Addr}{mA:Str→Option Value} (n:h.Ns1 dx mA):∃od,h.get? dx=some od∧∀name,PySem.W.lookIn name od=some (mA name):=by
 obtain⟨o,es,ep,ho,hd,hk,_,hm⟩:=n
 refine⟨o,ho,fun name=>?_⟩
 have e:=hm name
 unfold nsFind findBy at e
 rw [←Array.find?_toList] at e
 unfold PySem.W.lookIn
 rw [hd]
 dsimp only
 split
 · rename_i y q
   rw [q] at e
   exact congrArg some e
 · rename_i q
   rw [q] at e
   have a:es.toList.any (·.refKey)=false:=by
    rw [List.any_eq_false]
    intro y hy
    obtain⟨z,t,WU⟩:=hk y (Array.mem_toList_iff.mp hy)
    simp [DictEntry.refKey,WU]
   have a':¬es.toList.any (·.refKey)=true:=by rw [a];exact Bool.false_ne_true
   rw [if_neg a']
   exact congrArg some e
theorem GP.look {h:Heap}{x dx C:Addr}{mA:Str→Option Value} (I:GP h x dx C mA):∃od,PySem.W.InstAt h x (PySem.W.instObj C dx) C (some od)∧∀name,PySem.W.lookIn name od=some (mA name):=
 let ⟨od,ho,hl⟩:=B2 I.ns
 ⟨od,⟨I.obj,rfl,rfl,ho⟩,hl⟩
section
variable {prog : Program} {w : World} {A : Around} {E : Value→Shared→Prop} {s : Shared} {K : PySem.W.Frag} {x dx C f : Addr} {mA : Str→Option Value} {name : Str} {v : Value}
theorem A8 {ns:List Str}{Q:Unit→Shared→Prop} (X:K.In s.heap) (I:GP s.heap x dx C mA)
 (hs:PySem.W.findIn K (.ref C) "__setattr__"=some (some (.builtin "object.__setattr__"))) (hp:PySem.W.plainOver K C=true) (ht:PySem.W.takerIn K C name=some none) (hh:PySem.W.hasDictIn K C=true)
 (hw:PySem.Within mA ns) (hsz:ns.length≤sizeLine)
 (h:∀h',GP h' x dx C (fun y=>if y=name then some v else mA y)→Heap.SameBut dx s.heap h'→Q () {s with heap:=h',toks:=s.toks+2}) :
 wpAny (model prog w) A (setAttr (.ref x) name v) Q E s:=by
 obtain⟨od,J,hl⟩:=I.look
 refine PySem.W.set_plain X J hs (PySem.W.osa_open (s:={s with toks:=s.toks+1}) (r:=none) X J hp ht fun b=>?_)
 obtain⟨cd,hc,RE⟩:=PySem.W.any_some hh
 have hx:s.heap.get? x=some ⟨.ref C,some dx,.plain,#[]⟩:=I.obj
 refine wpAny_bind (wpAny_pure (wpAny_bind (wpAny_bind (wpAny_loadPart hx (wpAny_bind (PySem.W.Looks.here (s:={s with toks:=s.toks+1}) (PySem.W.looks_clsIn X hc) ?_))))))
 rw [RE]
 refine wpAny_pure (a:=some dx) (wpAny_bind (wpAny_pure (wpAny_bind ?_)))
 refine wpAny_nsSet1 (s:={s with toks:=s.toks+1}) I.ns fun h' Kf Ot=>?_
 obtain⟨oD,esD,epD,hoD,hdD,hcD⟩:=Kf.count (PySem.Within.cons name v hw)
 refine wpAny_bind (wpAny_lookBehind hoD (by rw [hdD];exact pastItsLine_dict (Nat.le_trans hcD (by rw [List.length_cons];omega))) ?_)
 exact wpAny_pure (h _ ⟨(Ot.2 _ (Ne.symm I.ne)).trans I.obj,Kf,I.ne⟩ Ot)
end
theorem qD.some_of {v:V}{o:Option Value} (r:qD (some v) o):∃u,o=some u∧RelV v u:=by
 cases o with
 | none=>exact(show False from r).elim
 | some u=>exact⟨u,rfl,r⟩
section
variable {P : Program} {w : World} {H H' : Hp} {h h' : Heap} {a C dx : Addr} {fs fs' : List (Str × V)}
theorem Ii (aO:fN P w H h) (e:H a=some (.ins C dx fs)):∃mA,GP h a dx C mA∧(∀f,qD (fs.lookup f) (mA f))∧PySem.Within mA (fs.map (·.1))∧fs.length≤1000∧H dx=some (.own a):=by
 obtain⟨d,z,ne,ob,mA,n,r,q⟩:=(show bS P w H h a (.ins C dx fs) from aO a _ e)
 exact⟨mA,⟨ob,n,ne⟩,r,q,z,d⟩
end
structure Uc (K:PySem.W.Frag) (C:Addr):Prop where
 pg:PySem.W.plainGet K C Str.empty=true
 hd:PySem.W.hasDictIn K C=true
 po:PySem.W.plainOver K C=true
 sa:PySem.W.findIn K (.ref C) "__setattr__"=some (some (.builtin "object.__setattr__"))
theorem Uc.get {K:PySem.W.Frag}{C:Addr} (c:Uc K C) (f:Str):PySem.W.plainGet K C f=true:=c.pg
structure Con (K:PySem.W.Frag) (C:Addr) (f:Str) (v:V) (u:Value):Prop where
 at_:PySem.W.findIn K (.ref C) f=some (some u)
 rel:RelV v u
 get:PySem.W.specialIn K u "__get__"=some none
 cp:PySem.W.copiedNames.contains f=false
structure Meth (K:PySem.W.Frag) (C:Addr) (m:Str) (f:Addr):Prop where
 at_:PySem.W.findIn K (.ref C) m=some (some (.ref f))
 fn:PySem.W.isFn K (.ref f)=true
 kp:PySem.W.keepIn K (.ref f)=true
section
variable {X : Cx} {pins : List (Addr × Obj)} {σ : St} {H : Hp} {s : Shared} {a C dx : Addr} {fs : List (Str × V)} {f : Str} {v : V} {A : Around} {E : Value→Shared→Prop}
theorem Inv.made (I:Inv X pins σ H s):Inv X pins σ (upd (upd H s.heap.objs.size (.own (s.heap.objs.size+1))) (s.heap.objs.size+1) (.ins C s.heap.objs.size []))
 {s with heap:=(s.heap.push PySem.W.emptyDict).push (PySem.W.instObj C s.heap.objs.size)}:=by
 have e1:(s.heap.push PySem.W.emptyDict).get? s.heap.objs.size=some PySem.W.emptyDict:=Heap.get?_push_size s.heap rfl
 have e2:((s.heap.push PySem.W.emptyDict).push (PySem.W.instObj C s.heap.objs.size)).get? (s.heap.objs.size+1)=some (PySem.W.instObj C s.heap.objs.size):=by
  have:=Heap.get?_push_size (s.heap.push PySem.W.emptyDict) (o:=PySem.W.instObj C s.heap.objs.size) rfl
  rwa [Heap.size_push] at this
 have e3:(s.heap.push PySem.W.emptyDict).Ns s.heap.objs.size (fun _=>none):=⟨PySem.W.emptyDict,#[],_,e1,rfl,(fun e he=>absurd he (by simp)),fun _=>rfl⟩
 have I1:=I.laid (a:=s.heap.objs.size) (o:=.own (s.heap.objs.size+1)) (h':=s.heap.push PySem.W.emptyDict) (t':=s.toks) (fun b u q=>Heap.get?_push_of_some _ q) (Nat.le_refl _) ⟨_,e1⟩
 refine I1.laid (a:=s.heap.objs.size+1) (o:=.ins C s.heap.objs.size []) (t':=s.toks) (fun b u q=>Heap.get?_push_of_some _ q) (Nat.le_of_eq (Heap.size_push _ _)) ?_
 have ne:s.heap.objs.size≠s.heap.objs.size+1:=Nat.ne_of_lt (Nat.lt_succ_self _)
 refine⟨by rw [aL ne,aT],Nat.zero_le _,ne,e2,fun _=>none,(Heap.Ns1.of_empty e3).at fun o q=>Heap.get?_push_of_some _ q,fun _=>True.intro,fun y hy=>absurd rfl hy⟩
end
section
variable {X : Cx} {o e value : Expr} {f : Str} {pos pos' Uy : Pos} {ta tv : TE}
end
section
variable {X : Cx} {pins : List (Addr × Obj)} {σ : St} {H : Hp} {s : Shared} {A : Around} {E : Value→Shared→Prop} {Q : Value→Shared→Prop} {c : Value} {b : Bool}
inductive qK (K:PySem.W.Frag) (H:Hp):V→Value→Prop where
 | non:qK K H .non (.type "NoneType")
 | bl (x:Bool):qK K H (.bl x) (.type "bool")
 | int (i:Int):qK K H (.int i) (.type "int")
 | str (x:Str):qK K H (.str x) (.type "str")
 | flt (x:UInt64):qK K H (.flt x) (.type "float")
 | lst {a:Addr}{xs:List V} (e:H a=some (.lst xs)):qK K H (.ref a) (.type "list")
 | frz {a:Addr}{o:Obj}{xs:List V} (e:H a=some (.frz o (.lst xs))):qK K H (.ref a) (.type "list")
 | tup {a:Addr}{xs:List V} (e:H a=some (.tup xs)):qK K H (.ref a) (.type "tuple")
 | dK {a:Addr}{aK:List (Key×V)} (e:H a=some (.dK aK)):qK K H (.ref a) (.type "dict")
 | dT {a:Addr}{aK:List (List Key×V)} (e:H a=some (.dT aK)):qK K H (.ref a) (.type "dict")
 | ins {a C dx:Addr}{fs:List (Str×V)} (e:H a=some (.ins C dx fs)) (cl:Uc K C) (ha:PySem.W.findIn K (.ref C) "__class__"=some (some (.builtin "object.__class__")))
  (hn:PySem.W.specialIn K (.builtin "object.__class__") "__get__"=some (some (.builtin "getset_descriptor.__get__"))) (htk:PySem.W.takesIn K (.builtin "object.__class__")=some true)
  (hm:PySem.W.mroIn K C (.type "object")=some true):qK K H (.ref a) (.ref C)
theorem gr {x:V}{u t:Value} (I:Inv X pins σ H s) (rx:RelV x u) (ty:qK X.K H x t) (e:PySem.W.kitOne X.K t c=some b) (h:∀tk,Q (.bool b) {s with toks:=tk}) :
 wpAny (model X.prog X.w) A (call (.builtin "isinstance") [u,c]) Q E s:=by
 cases ty with
 | non=>cases (show u=Value.none from rx);exact PySem.W.kia_one PySem.W.kitx_none I.rq True.intro e (fun z=>nomatch z) h
 | bl y=>cases (show u=Value.bool y from rx);exact PySem.W.kia_one PySem.W.kitx_bool I.rq True.intro e (fun z=>nomatch z) h
 | int i=>obtain⟨t,q⟩:=(show ∃t,u=Value.int i t from rx);cases q;exact PySem.W.kia_one PySem.W.kitx_int I.rq True.intro e (fun z=>nomatch z) h
 | str y=>obtain⟨t,q⟩:=(show ∃t,u=Value.str y t from rx);cases q;exact PySem.W.kia_one PySem.W.kitx_str I.rq True.intro e (fun z=>nomatch z) h
 | flt y=>obtain⟨t,q⟩:=(show ∃t,u=Value.float y t from rx);cases q;exact PySem.W.kia_one PySem.W.kitx_float I.rq True.intro e (fun z=>nomatch z) h
 | @lst a xs ea=>
  cases (show u=Value.ref a from rx)
  obtain⟨_,_,n,_,h1⟩:=(show bS X.prog X.w H s.heap a (.lst xs) from I.aO a _ ea)
  exact PySem.W.kia_one PySem.W.kitx_list I.rq ⟨_,h1,rfl⟩ e (fun z=>nomatch z) h
 | @frz a ob xs ea=>
  cases (show u=Value.ref a from rx)
  obtain⟨_,_,_,n,_,h1⟩:=(show bS X.prog X.w H s.heap a (.frz ob (.lst xs)) from I.aO a _ ea)
  exact PySem.W.kia_one PySem.W.kitx_list I.rq ⟨_,h1,rfl⟩ e (fun z=>nomatch z) h
 | @tup a xs ea=>
  cases (show u=Value.ref a from rx)
  obtain⟨_,_,_,p⟩:=(show bS X.prog X.w H s.heap a (.tup xs) from I.aO a _ ea)
  obtain⟨o,h1,h2,_⟩:=p
  exact PySem.W.kia_one PySem.W.kitx_tuple I.rq ⟨o,h1,h2⟩ e (fun z=>nomatch z) h
 | @dK a aK ea=>
  cases (show u=Value.ref a from rx)
  obtain⟨_,_,vs,_,p⟩:=(show bS X.prog X.w H s.heap a (.dK aK) from I.aO a _ ea)
  obtain⟨o,es,ep,h1,h2,_⟩:=p
  exact PySem.W.kia_one PySem.W.kitx_dict I.rq ⟨o,h1,h2.1⟩ e (fun z=>nomatch z) h
 | @dT a aK ea=>
  cases (show u=Value.ref a from rx)
  obtain⟨_,_,xs,_,o,es,ep,h1,h2,_⟩:=(show bS X.prog X.w H s.heap a (.dT aK) from I.aO a _ ea)
  exact PySem.W.kia_one PySem.W.kitx_dict I.rq ⟨o,h1,h2.1⟩ e (fun z=>nomatch z) h
 | @ins a C dx fs ea cl ha hn htk hm=>
  cases (show u=Value.ref a from rx)
  obtain⟨mA,O,_⟩:=Ii I.aO ea
  obtain⟨od,J,_⟩:=O.look
  exact PySem.W.kia_one (PySem.W.kitx_own (cl.get _) cl.hd ha hn htk hm) I.rq J e (fun z=>nomatch z) h
end
end L2
namespace L2
open PySem PySem.Spec PyProof.Rows
structure fo (k:Nat) (A:Around):Prop where
 hd:A.handled=none
 dp:A.depth+3*k+5<recursionLimit
 un:A.units+16*k+200<cLine
 gd:A.guards=some []
theorem fo.mono {j k:Nat}{A:Around} (r:fo k A) (h:j≤k):fo j A:=⟨r.hd,by have:=r.dp;omega,by have:=r.un;omega,r.gd⟩
theorem fo.deeper {k:Nat}{A:Around} (r:fo (k+1) A) (env:Env):fo k (A.deeper env):=
 ⟨r.hd,by have:=r.dp;show A.depth+1+3*k+5<_;omega,by have:=r.un;show A.units+3+16*k+200<_;omega,r.gd⟩
theorem fo.in1 {k:Nat}{A:Around} (r:fo (k+1) A):fo k A.in1:=
 ⟨r.hd,by have:=r.dp;show A.depth+3*k+5<_;omega,by have:=r.un;show A.units+1+16*k+200<_;omega,r.gd⟩
theorem fo.depth {k:Nat}{A:Around} (r:fo k A):A.depth<recursionLimit:=by have:=r.dp;omega
theorem fo.units {k:Nat}{A:Around} (r:fo k A):A.units+64<cLine:=by have:=r.un;omega
noncomputable def MD:TA:=fun _ H Q=>Q [] H
noncomputable def Fb (ta:TE) (tr:TA):TA:=fun σ H Q=>ta σ H fun x H1=>tr σ H1 fun xs H2=>Q (x::xs) H2
section
variable {X : Cx} {e : Expr} {es : List Expr} {te : TE} {t : TA} {pos : Pos}
theorem af:PA X [] MD:=fun _ _ _ _ H Q I h=>Calls.spliced_nil ⟨[],H,I,.nil,h⟩
theorem aa (ha:PE X e te) (hr:PA X es t) (hs:starEach (e::es) X.env=(false,eval e X.env)::starEach es X.env:=by rfl):PA X (e::es) (Fb te t):=by
 intro pos pins s σ H Q I h
 rw [hs]
 show wpAny _ _ (spliced ((false,eval e X.env)::backTo pos (starEach es X.env))) _ _ s
 refine Calls.spliced_cons (bD (ha pins s σ H _ I h) fun u s1 ⟨x,H1,I1,r1,q1⟩=>?_)
 exact bD (hr pos pins s1 σ H1 _ I1 q1) fun us s2 ⟨xs,H2,I2,r2,q2⟩=>⟨x::xs,H2,I2,.cons r1 r2,q2⟩
noncomputable def Ni (t:TA):TE:=fun σ H Q=>t σ H fun xs H1=>xs.length≤sizeLine∧∀p,H1 p=none→Q (.ref p) (upd H1 p (.tup xs))
noncomputable def Po (t:TA):TE:=fun σ H Q=>t σ H fun xs H1=>xs.length≤sizeLine∧∀p,H1 p=none→Q (.ref p) (upd H1 p (.lst xs))
theorem bN {x1} (h:PA X es t):PE X (.Tuple es x1 pos) (Ni t):=by
 intro pins s σ H Q I hq
 refine wpAny_Tuple_spliced (bD (h pos pins s σ H _ I hq) fun us s1 ⟨xs,H1,I1,r,z,q⟩=>⟨by rw [←r.length];exact z,?_⟩)
 have hf:H1 s1.heap.objs.size=none:=I1.aO.fresh (Nat.le_refl _)
 refine⟨.ref s1.heap.objs.size,upd H1 s1.heap.objs.size (.tup xs),I1.laid (t':=s1.toks) (fun b u e=>Heap.get?_push_of_some _ e) (Nat.le_refl _) ?_,rfl,q _ hf⟩
 exact⟨z,us,r,⟨_,Heap.get?_push_size _ rfl,rfl,_,rfl⟩⟩
theorem br (h:PA X es t):PE X (.List es pos) (Po t):=by
 intro pins s σ H Q I hq
 refine wpAny_List_spliced (bD (h pos pins s σ H _ I hq) fun us s1 ⟨xs,H1,I1,r,z,q⟩=>⟨by rw [←r.length];exact z,?_⟩)
 have hf:H1 s1.heap.objs.size=none:=I1.aO.fresh (Nat.le_refl _)
 refine⟨.ref s1.heap.objs.size,upd H1 s1.heap.objs.size (.lst xs),I1.laid (t':=s1.toks) (fun b u e=>Heap.get?_push_of_some _ e) (Nat.le_refl _) ?_,rfl,q _ hf⟩
 exact⟨z,us,0,r,Heap.get?_push_size _ rfl⟩
end
noncomputable abbrev Sp:=List V→Hp→VK→XK→Prop
noncomputable abbrev CXT:=List Env→Hp→Shared→XK→Value→Shared→Prop
structure zJ (P:Program) (w:World) (K:PySem.W.Frag) (mg:Str→Option Value) (base:Heap) (A:Around) (outer:List Env) (s:Shared) (H:Hp):Prop where
 frames:A.frames=some outer
 mod:Mod K mg base
 bs:∀b o,base.get? b=some o→s.heap.get? b=some o∧H b=none
 Ah:base.objs.size≤s.heap.objs.size
 jN:s.heap.FunFrames base outer
 Dz:∀b∈cR outer,H b=none
 aO:fN P w H s.heap
 bare:AllBare s.gens
noncomputable def CE (outer:List Env) (P:Program) (w:World) (H:Hp) (s:Shared) (Q:VK) (u:Value) (s':Shared):Prop:=
 ∃v H',s'.os=s.os∧AllBare s'.gens∧Un (cR outer) [] H H' s.heap s'.heap∧fN P w H' s'.heap∧RelV v u∧Q v H'
noncomputable def CR (CX:CXT) (outer:List Env) (P:Program) (w:World) (H:Hp) (s:Shared) (Q:VK) (E:XK) (r:Result) (s':Shared):Prop:=
 match r with
 | .ok (.ret u)=>CE outer P w H s Q u s'
 | .ok _=>False
 | .error e=>CX outer H s E e s'
structure bg (P:Program) (w:World) (K:PySem.W.Frag) (mg:Str→Option Value) (base:Heap) (CX:CXT) (k:Nat) (f:Addr) (fd:FuncData) (ps:List Str) (sp:Sp):Prop where
 len:∀vs H Q E,sp vs H Q E→vs.length=ps.length
 run:∀(A:Around) (outer:List Env) (s:Shared) (H:Hp) (args:Args) (us:List Value) (vs:List V) (Q:VK) (E:XK),fo k A→zJ P w K mg base A outer s H→BindsTo s fd args (ps.zip us)→Vals vs us→sp vs H Q E→
  codeAny (model P w) A (.call (.ref f) args) (CR CX outer P w H s Q E) s
theorem bg.mono {P:Program}{w:World}{K:PySem.W.Frag}{mg:Str→Option Value}{base:Heap}{CX:CXT}{j k:Nat}{f:Addr}{fd:FuncData}{ps:List Str}{sp:Sp} (F:bg P w K mg base CX j f fd ps sp) (h:j≤k) :
 bg P w K mg base CX k f fd ps sp:=⟨F.len,fun A outer s H args us vs Q E hr=>F.run A outer s H args us vs Q E (hr.mono h)⟩
theorem zJ.in1 {P:Program}{w:World}{K:PySem.W.Frag}{mg:Str→Option Value}{base:Heap}{A:Around}{outer:List Env}{s:Shared}{H:Hp} (e:zJ P w K mg base A outer s H) :
 zJ P w K mg base A.in1 outer s H:=⟨e.frames,e.mod,e.bs,e.Ah,e.jN,e.Dz,e.aO,e.bare⟩
section
variable {X : Cx} {pins : List (Addr × Obj)} {σ : St} {H : Hp} {s s' : Shared}
theorem Inv.OJ (I:Inv X pins σ H s):zJ X.prog X.w X.K X.mg X.base X.A X.stack s H:=
 ⟨I.ok.frames,I.ok.mod,I.bs,Nat.le_trans I.ok.Ah I.sz,I.stack,I.ia,I.aO,I.bare⟩
theorem Inv.after {Q:VK}{u:Value} (I:Inv X pins σ H s) (h:CE X.stack X.prog X.w H s Q u s'):EP X pins σ Q u s':=by
 obtain⟨v,H',os,bare,un,aO,r,q⟩:=h
 obtain⟨hh,g,d,t,os'⟩:=s'
 obtain rfl:os'=s.os:=os
 exact⟨v,H',I.call (h':=hh) (g':=g) (d':=d) (t':=t) (ch:=[]) un aO bare (fun b z=>absurd z (by simp)),r,q⟩
end
noncomputable def KI (sp:Sp) (ua:List V) (E:XK) (t:TA):TE:=fun σ H Q=>t σ H fun vs H1=>sp (vs++ua) H1 Q E
noncomputable def Binds (K:PySem.W.Frag) (fd:FuncData) (ps:List Str) (ds:List Value):Prop:=
 ∀(s:Shared) (us:List Value),K.In s.heap→(us++ds).length=ps.length→BindsTo s fd ⟨us,[]⟩ (ps.zip (us++ds))
theorem Binds.all {K:PySem.W.Frag}{fd:FuncData}{ps:List Str} (h:∀us:List Value,us.length=ps.length→bindArgs fd ⟨us,[]⟩=pure (ps.zip us)):Binds K fd ps []:=fun s us _ hl=>by
 rw [List.append_nil] at hl ⊢
 exact .of_eq (h us hl)
noncomputable def Passes (CX:CXT) (X:Cx) (E:XK):Prop:=∀(pins:List (Addr×Obj)) (σ:St) (H:Hp) (s:Shared) (e:Value) (s':Shared),Inv X pins σ H s→CX X.stack H s E e s'→X.xe e s'
section
variable {X : Cx} {CX : CXT} {k : Nat} {f C : Addr} {fd : FuncData} {ps : List Str} {sp : Sp} {ua : List V} {ds : List Value} {E : XK} {x m : Str} {p pos apos : Pos} {e o : Expr} {es : List Expr} {ta : TE} {t : TA}
theorem LY {pins:List (Addr×Obj)}{σ:St}{H:Hp}{s:Shared}{Q:VK}{us:List Value}{vs:List V} (F:bg X.prog X.w X.K X.mg X.base CX k f fd ps sp) (hr:fo k X.A) (hb:Binds X.K fd ps ds) (hd:Vals ua ds) (hx:Passes CX X E)
 (I:Inv X pins σ H s) (r:Vals vs us) (h:sp (vs++ua) H Q E):wpAny (model X.prog X.w) X.A (call (.ref f) us) (EP X pins σ Q) X.xe s:=by
 have r2:Vals (vs++ua) (us++ds):=r.append hd
 have hl:(us++ds).length=ps.length:=by rw [←r2.length];exact F.len _ _ _ _ h
 refine wpAny_call (codeAny_mono (F.run X.A X.stack s H ⟨us,[]⟩ (us++ds) (vs++ua) Q E hr I.OJ (hb s us I.rq hl) r2 h) fun r s' hq=>?_)
 cases r with
 | error e=>exact hx pins σ H s e s' I hq
 | ok fl=>
  cases fl with
  | ret u=>exact I.after hq
  | next=>exact False.elim hq
  | brk=>exact False.elim hq
  | cont=>exact False.elim hq
theorem ak (F:bg X.prog X.w X.K X.mg X.base CX k f fd ps sp) (hr:fo k X.A) (hg:Gl X x) (hm:X.mg x=some (.ref f)) (hk:PySem.W.keepIn X.K (.ref f)=true) (hb:Binds X.K fd ps ds) (hd:Vals ua ds) (hx:Passes CX X E)
 (ha:PA X (e::es) t) (El:(x==("__debug__":Str))=false:=by decide) (he:starEach (e::es) X.env=(false,eval e X.env)::starEach es X.env:=by rfl) (wK:(backTo pos (starEach es X.env)).any (·.1)=false:=by rfl) :
 PE X (.Call (.Name x p) (e::es) [] pos) (KI sp ua E t):=by
 intro pins s σ H Q I h
 refine wpAny_Call_Name_kw (je I hg hm ?_ El)
 refine PySem.W.callWith_K (h₀:=X.base) I.ok.mod.NP hk (bD (ha pos pins s σ H _ I h) fun us s1 ⟨vs,H1,I1,r,q⟩=>⟨I1.rq,?_⟩) he wK
 exact LY F hr hb hd hx I1 r q
structure Mk (K:PySem.W.Frag) (C f:Addr):Prop where
 makes:PySem.W.makesIn K C=true
 init:PySem.W.findIn K (.ref C) "__init__"=some (some (.ref f))
 fn:PySem.W.isFn K (.ref f)=true
 kp:PySem.W.keepIn K (.ref C)=true
end
section
variable {X : Cx} {CX : CXT} {k : Nat} {f C : Addr} {fd : FuncData} {ps ks : List Str} {sp : Sp} {E : XK} {x m : Str} {p pos apos afh : Pos} {e o : Expr} {es : List Expr} {kws : List Keyword} {te ta : TE} {t tk : TA} {nm : Option Str}
structure Y2 (K:PySem.W.Frag) (fd:FuncData) (ps ks:List Str) (g:List Value→List Value→List Value) (gV:List V→List V→List V):Prop where
 to:∀(s:Shared) (us ws:List Value),K.In s.heap→(g us ws).length=ps.length→BindsTo s fd ⟨us,ks.zip ws⟩ (ps.zip (g us ws))
 rel:∀{vs:List V}{us:List Value}{zs:List V}{ws:List Value},Vals vs us→Vals zs ws→Vals (gV vs zs) (g us ws)
variable {g : List Value→List Value→List Value} {gV : List V→List V→List V}
end
structure aD (N P:List Str) (sc:Scope):Prop where
 kind:sc.kind = .function
 co:sc.isCoroutine=false
 gen:sc.isGenerator=false
 nd:N.Nodup
 pre:N.take P.length=P
 par:∀x∈P,sc.names.lookup x=some .local ∨ sc.names.lookup x=some .cell
 Lc:∀y∈sc.names,y.2 ≠ .free
theorem uk {kindOf:Str→Option NameKind}{x:Str}:∀{binds:List (Str×Value)}{m:Str→Option Value},(∀v,(x,v)∉binds)→bindL kindOf binds m x=m x
 | [],_,_=>rfl
 | (n,v)::r,m,h=>by
  unfold bindL
  rw [uk fun w hw=>h w (List.mem_cons_of_mem _ hw)]
  split
  · have:x≠n:=by rintro rfl;exact h v List.mem_cons_self
    simp [this]
  · rfl
theorem uQ {kindOf:Str→Option NameKind}{x:Str}:∀{binds:List (Str×Value)}{m:Str→Option Value},(∀v,(x,v)∉binds)→bindC kindOf binds m x=m x
 | [],_,_=>rfl
 | (n,v)::r,m,h=>by
  unfold bindC
  rw [uQ fun w hw=>h w (List.mem_cons_of_mem _ hw)]
  split
  · rfl
  · have:x≠n:=by rintro rfl;exact h v List.mem_cons_self
    simp [this]
theorem uO {kindOf:Str→Option NameKind}{x:Str}{v:Value}:∀{P:List Str}{vs:List Value}{i:Nat}{m:Str→Option Value},P.Nodup→P[i]? = some x→vs[i]? = some v→kindOf x=some .local →
 bindL kindOf (P.zip vs) m x=some v
 | [],_,_,_,_,h,_,_=>by simp at h
 | _::_,[],_,_,_,_,h,_=>by simp at h
 | p::P,w::vs,0,m,nd,h1,h2,hk=>by
  simp at h1 h2;subst h1;subst h2
  show bindL kindOf ((p,w)::P.zip vs) m p=_
  unfold bindL
  rw [uk fun v hv=>(List.nodup_cons.mp nd).1 (List.of_mem_zip hv).1,if_pos hk]
  simp
 | p::P,w::vs,i+1,m,nd,h1,h2,hk=>by
  show bindL kindOf ((p,w)::P.zip vs) m x=_
  unfold bindL
  exact uO (i:=i) (List.nodup_cons.mp nd).2 (by simpa using h1) (by simpa using h2) hk
theorem uH {kindOf:Str→Option NameKind}{x:Str}{v:Value}:∀{P:List Str}{vs:List Value}{i:Nat}{m:Str→Option Value},P.Nodup→P[i]? = some x→vs[i]? = some v→kindOf x≠some .local →
 bindC kindOf (P.zip vs) m x=some v
 | [],_,_,_,_,h,_,_=>by simp at h
 | _::_,[],_,_,_,_,h,_=>by simp at h
 | p::P,w::vs,0,m,nd,h1,h2,hk=>by
  simp at h1 h2;subst h1;subst h2
  show bindC kindOf ((p,w)::P.zip vs) m p=_
  unfold bindC
  rw [uQ fun v hv=>(List.nodup_cons.mp nd).1 (List.of_mem_zip hv).1,if_neg hk]
  simp
 | p::P,w::vs,i+1,m,nd,h1,h2,hk=>by
  show bindC kindOf ((p,w)::P.zip vs) m x=_
  unfold bindC
  exact uH (i:=i) (List.nodup_cons.mp nd).2 (by simpa using h1) (by simpa using h2) hk
noncomputable def start (N:List Str) (vs:List V):St:=vs.map some++List.replicate (N.length - vs.length) none
noncomputable def vR (CX:CXT) (P:Program) (w:World) (K:PySem.W.Frag) (mg:Str→Option Value) (base:Heap) (N:List Str) (qual:Str) (scope:Scope) (f:Addr) (cd:Value) (A:Around) (outer:List Env) (s:Shared) (H:Hp) (E:XK):Cx where
 prog:=P
 w:=w
 K:=K
 mg:=mg
 base:=base
 A:=A.deeper (envOfC qual scope s.heap.objs.size f cd)
 N:=N
 s₀:=s
 H₀:=H
 env:=envOfC qual scope s.heap.objs.size f cd
 outer:=outer
 stack:=envOfC qual scope s.heap.objs.size f cd::outer
 ex:=[]
 calm:=true
 fn:=fun _=>true
 pn:=[]
 xe:=fun e s'=>wpAny (model P w) (A.deeper (envOfC qual scope s.heap.objs.size f cd)) (leaving (envOfC qual scope s.heap.objs.size f cd) e) (fun _ xk=>CX outer H s E e xk) (fun e' xk=>CX outer H s E e' xk) s'
theorem yj {sc:Scope}{n:Nat}{x:Str} (h:sc.names.lookup x=some .cell):∃c,(cellsFrom n sc.names []).lookup x=some c:=by
 have q:=PySem.W.cellsFrom_some sc.names n [] (.inl h)
 exact Option.isSome_iff_exists.mp q
theorem B7 {CX:CXT}{P:Program}{w:World}{K:PySem.W.Frag}{mg:Str→Option Value}{base:Heap}{N ps:List Str}{qual:Str}{scope:Scope}{f:Addr}{cd:Value}{A:Around}{outer:List Env}{s s1:Shared}{H:Hp}{E:XK}{us:List Value}{vs:List V}
 (S:aD N ps scope) (hd:A.handled=none) (e0:zJ P w K mg base A outer s H) (hl:vs.length=ps.length) (r:Vals vs us)
 (x:InCallC s s.heap.objs.size (bindL (envOfC qual scope s.heap.objs.size f cd).kindOf (ps.zip us) fun _=>none) (cellsFrom (s.heap.objs.size+1) scope.names []) (bindC (envOfC qual scope s.heap.objs.size f cd).kindOf (ps.zip us) fun _=>none) s1) :
 Inv (vR CX P w K mg base N qual scope f cd A outer s H E) [] (start N vs) H s1:=by
 have wK:ps.length≤N.length:=by have:=congrArg List.length S.pre;rw [List.length_take] at this;omega
 obtain⟨h1,tk,rfl,hk⟩:=x.done
 have PJ:∀b:Addr,b∉(vR CX P w K mg base N qual scope f cd A outer s H E).ex:=fun b z=>absurd (show b∈([]:List Addr) from z) (by simp)
 refine⟨⟨e0.mod,S.kind,rfl,rfl,Nat.le_refl _,fun y z c h1 h2=>?_,fun y hy=>?_,fun y c _ h=>?_,fun _=>hd,Around.frames_deeper e0.frames,.inr ⟨rfl,rfl⟩,fun b z=>absurd z (PJ b),e0.bs,e0.Ah,fun b _ _=>PJ b,fun b z=>absurd z (PJ b),e0.jN,e0.Dz⟩,
  rfl,e0.bare,Un.kept hk,⟨_,x.toInCall.ns,fun i y v h1 h2 h3=>?_⟩,fun y c h=>⟨_,x.cell y c h⟩,e0.aO.fresh (Nat.le_refl _),fun y c h=>?_,fun p hp=>absurd (show p∈([]:List (Addr×Obj)) from hp) (by simp),e0.aO.kept hk,?_⟩
 · exact name_of_addr x.apart (PySem.mem_of_lookup h1) (PySem.mem_of_lookup h2)
 · have hy:scope.names.lookup y=some .cell∨scope.names.lookup y=some .free:=hy
   rcases hy with hy|hy
   · exact yj hy
   · exact absurd rfl (S.Lc _ (PySem.mem_of_lookup hy))
 · exact Nat.le_of_lt (x.above y c (PySem.mem_of_lookup h))
 · have hi:i<vs.length:=by
    unfold start at h2
    by_cases hi:i<vs.length
    · exact hi
    · rw [List.getElem?_append_right (by simpa using hi)] at h2
      rw [List.getElem?_replicate] at h2
      split at h2<;>cases h2
   have ha:vs[i]? = some v:=by
    unfold start at h2
    rw [List.getElem?_append_left (by simpa using hi),List.getElem?_map] at h2
    cases e:vs[i]? with
    | none=>rw [e] at h2;cases h2
    | some a=>rw [e] at h2;cases h2;rfl
   obtain⟨u,hu,rv⟩:=r.get ha
   have hp:ps[i]? = some y:=by
    rw [←S.pre,List.getElem?_take_of_lt (by omega)];exact h1
   have ndP:ps.Nodup:=by rw [←S.pre];exact S.nd.sublist (List.take_sublist _ _)
   refine⟨u,rv,?_⟩
   rcases S.par y (List.mem_of_getElem? hp) with k|k
   · exact .inl ⟨k,uO ndP hp hu k⟩
   · obtain⟨c,e⟩:=yj (n:=s.heap.objs.size+1) k
     refine .inr ⟨.inl k,c,e,?_⟩
     have q:=x.cell y c e
     rw [uH ndP hp hu (by show scope.names.lookup y≠_;rw [k];decide)] at q
     exact q
 · exact e0.aO.fresh (Nat.le_of_lt (x.above y c (PySem.mem_of_lookup h)))
 · unfold start
   show _=N.length
   rw [List.length_append,List.length_map,List.length_replicate]
   omega
theorem KQ {CX:CXT}{P:Program}{w:World}{K:PySem.W.Frag}{mg:Str→Option Value}{base:Heap}{k:Nat}{f:Addr}{name qual:Str}{params:Arguments}{body:List Stmt}{scope:Scope}{dV kV doc pm bt ct oc:Value}{an od:Option Addr}
 {Il:Array (Option Value)}{N ps:List Str}{sp:Sp} (lk:K.lookup f=some ⟨oc,od,.func (PySem.W.fnOf name qual params body scope dV kV doc pm an bt ct),Il⟩) (De:PySem.W.codeIn K bt qual=true) (S:aD N ps scope)
 (len:∀vs H Q E,sp vs H Q E→vs.length=ps.length)
 (yo:∀(A:Around) (outer:List Env) (s:Shared) (H:Hp) (vs:List V) (Q:VK) (E:XK),fo k (A.deeper (envOfC qual scope s.heap.objs.size f bt))→sp vs H Q E→
   ∃t,nz (vR CX P w K mg base N qual scope f bt A outer s H E) body t∧t {nx:=fun _ H'=>Q .non H',rt:=Q} (start N vs) H) :
 bg P w K mg base CX (k+1) f (PySem.W.fnOf name qual params body scope dV kV doc pm an bt ct) ps sp:=by
 refine⟨len,fun A outer s H args us vs Q E hr e0 hb r lK=>?_⟩
 have hl:=len _ _ _ _ lK
 have KX:K.In s.heap:=e0.mod.NP.keeps fun b o e=>(e0.bs b o e).1
 have lim:s.heap.NoLimit:=e0.mod.nolimit.keeps fun b o e=>(e0.bs b o e).1
 have BO:∀y∈ps.zip us,scope.names.lookup y.1=some .local ∨ (scope.names.lookup y.1=some .cell∧((cellsFrom (s.heap.objs.size+1) scope.names []).lookup y.1).isSome=true):=fun ⟨n,v⟩ hy=>by
  rcases S.par n (List.of_mem_zip hy).1 with q|q
  · exact .inl q
  · exact .inr ⟨q,PySem.W.cellsFrom_some _ _ _ (.inl q)⟩
 refine codeAny_call_function hr.depth (KX _ _ lk) rfl S.co S.gen rfl (PySem.W.codeRec_of KX De) (hb _ _ _ _ ?_)
 refine wpAny_newFunctionEnv_cells S.kind BO fun env he s1 x=>?_
 subst he
 refine⟨lim.keeps x.toInCall.keep,codeAny_func ?_⟩
 obtain⟨t,ht,hq⟩:=yo A outer s H vs Q E (hr.deeper _) lK
 have I:Inv (vR CX P w K mg base N qual scope f bt A outer s H E) [] (start N vs) H s1:=B7 S hr.hd e0 hl r x
 refine wpAny_mono (ht [] s1 (start N vs) H _ I hq) (fun fl s' hs=>?_) fun e s' hs=>hs
 have fin:∀{σ':St}{H':Hp}{v:V}{u:Value},Inv (vR CX P w K mg base N qual scope f bt A outer s H E) [] σ' H' s'→RelV v u→Q v H'→CE outer P w H s Q u s':=
  fun {σ' H' v u} J rv q=>⟨v,H',J.os,J.bare,J.base,J.aO,rv,q⟩
 cases fl with
 | ret u=>
  obtain⟨v,σ',H',J,rv,q⟩:=hs
  exact fin J rv q
 | next=>
  obtain⟨σ',H',J,q⟩:=hs
  exact fin (v:=V.non) (u:=Value.none) J rfl q
 | brk=>
  obtain⟨_,_,_,q⟩:=hs
  exact False.elim q
 | cont=>
  obtain⟨_,_,_,q⟩:=hs
  exact False.elim q
end L2
namespace L2
open PySem PySem.Spec PyProof.Rows
section
variable {X : Cx} {x : Str} {p pos : Pos} {e : Expr} {es : List Expr} {t : TA} {id T : String} {r : List V→Hp→VK→Prop}
noncomputable def Y1 (r:List V→Hp→VK→Prop) (t:TA):TE:=fun σ H Q=>t σ H fun vs H1=>r vs H1 Q
theorem aQ (hc:ck X (.builtin id) r) (hg:Gl X x) (hm:X.mg x=none) (hv:bootBuiltins x=some (.builtin id)) (ha:PA X (e::es) t) (hn:x≠"__name__":=by decide) (El:(x==("__debug__":Str))=false:=by decide)
 (he:starEach (e::es) X.env=(false,eval e X.env)::starEach es X.env:=by rfl) (wK:(backTo pos (starEach es X.env)).any (·.1)=false:=by rfl):PE X (.Call (.Name x p) (e::es) [] pos) (Y1 r t):=by
 intro pins s σ H Q I h
 refine wpAny_Call_Name_kw (rS I hg hm hv ?_ hn El)
 exact PyProof.Rows.callWith_builtin1 (bD (ha pos pins s σ H _ I h) fun us s1 ⟨vs,H1,I1,r1,q1⟩=>hc pins s1 σ H1 vs us Q I1 r1 q1) he wK
theorem cB (hc:ck X (.type T) r) (hg:Gl X x) (hm:X.mg x=none) (hv:bootBuiltins x=some (.type T)) (ha:PA X (e::es) t) (hn:x≠"__name__":=by decide) (El:(x==("__debug__":Str))=false:=by decide)
 (he:starEach (e::es) X.env=(false,eval e X.env)::starEach es X.env:=by rfl) (wK:(backTo pos (starEach es X.env)).any (·.1)=false:=by rfl):PE X (.Call (.Name x p) (e::es) [] pos) (Y1 r t):=by
 intro pins s σ H Q I h
 refine wpAny_Call_Name_kw (rS I hg hm hv ?_ hn El)
 exact PyProof.Rows.callWith_type1 (bD (ha pos pins s σ H _ I h) fun us s1 ⟨vs,H1,I1,r1,q1⟩=>hc pins s1 σ H1 vs us Q I1 r1 q1) he wK
end
end L2
namespace HT
open PySem PyProof.Rows
section
open PySem.SeqAt
open PySem.AutoSeq1 (wpAny_loadPart')
open PySem.MeetsSeq PySem.MeetsSeq2 PySem.MeetsSeq3
end
section
variable {prog : Program} {w : World} {A : Around} {E : Value→Shared→Prop} {s : Shared}
theorem IM {t b:Addr}{vs ws:List Value}{Q:Value→Shared→Prop} (ht:IsTup s.heap t vs.toArray) (hb:IsTup s.heap b ws.toArray) (hv:vs≠[])
 (h1:ws=[]→Q (.ref t) s) (h2:ws≠[]→Q (.ref s.heap.objs.size) {s with heap:=s.heap.push {cls:=.type "tuple",data:=.seq (vs++ws).toArray}})
 (hsz:vs.length+ws.length≤sizeLine):wpAny (model prog w) A (binaryOp .Add (.ref t) (.ref b)) Q E s:=by
 obtain⟨⟨cls,dd,data,sl⟩,ho,hc,n,hd⟩:=id ht
 obtain⟨⟨XJ,RD,data2,JK⟩,ho2,hc2,n2,hd2⟩:=id hb
 simp only at hc hd hc2 hd2
 subst hc hd hc2 hd2
 have e:vs.toArray++ws.toArray=(vs++ws).toArray:=by simp
 by_cases hw:ws=[]
 · exact concat_meets ⟨_,ho,rfl⟩ ⟨_,ho2,rfl⟩ noFill_tuple_add seq_tuple_add PySem.F.slot_tuple_add PySem.F.entry_tuple_add (PySem.F.args_tuple_add_2 _ _)
    (tuple_addW1 t b vs.toArray ws.toArray n n2 dd RD sl JK (by simpa using hv) (by simp [hw])) ⟨ho,ho2,h1 hw⟩
 · refine concat_meets ⟨_,ho,rfl⟩ ⟨_,ho2,rfl⟩ noFill_tuple_add seq_tuple_add PySem.F.slot_tuple_add PySem.F.entry_tuple_add (PySem.F.args_tuple_add_2 _ _)
    (tuple_addW2 t b vs.toArray ws.toArray n n2 dd RD sl JK (by simpa using hv) (by simpa using hw) (by rw [List.size_toArray,List.size_toArray];exact hsz)) ⟨ho,ho2,?_⟩
   rw [e]
   exact h2 hw
noncomputable def cM (n d:Nat):Option Int→Nat
 | none=>d
 | some v=>if v<0 then (v+(n:Int)).toNat else min v.toNat n
theorem qS (n d k:Nat):cM n d (some (k:Int))=min k n:=by
 show (if (k:Int)<0 then ((k:Int)+(n:Int)).toNat else min (k:Int).toNat n)=min k n
 rw [if_neg (by omega),Int.toNat_natCast]
theorem MM (n d:Nat) (hd:d≤n) (o:Option Int):cM n d o≤n:=by
 cases o with
 | none=>exact hd
 | some v=>
  show (if v<0 then (v+(n:Int)).toNat else min v.toNat n)≤n
  by_cases hv:v<0
  · rw [if_pos hv];omega
  · rw [if_neg hv];exact Nat.min_le_right _ _
theorem AK (v:Int) (n d:Nat):(if v<0 then max (v+(n:Int)) 0 else min v (n:Int))=((cM n d (some v):Nat):Int):=by
 show (if v<0 then max (v+(n:Int)) 0 else min v (n:Int))=(((if v<0 then (v+(n:Int)).toNat else min v.toNat n):Nat):Int)
 by_cases hv:v<0
 · simp only [if_pos hv];omega
 · simp only [if_neg hv];omega
theorem zP (lo hi:Option Int) (n:Nat):Builtin.Slice.sliceAdjust lo hi 1 (n:Int)=(((cM n 0 lo:Nat):Int),((cM n n hi:Nat):Int)):=by
 have h1:¬((1:Int)<0):=by omega
 unfold Builtin.Slice.sliceAdjust
 simp only [h1,if_false]
 refine Prod.ext ?_ ?_
 · cases lo with
   | none=>rfl
   | some v=>exact AK v n 0
 · cases hi with
   | none=>rfl
   | some v=>exact AK v n n
theorem Ai (i j:Nat):Builtin.Slice.slicePlaces (i:Int) (j:Int) 1=j - i:=by
 unfold Builtin.Slice.slicePlaces
 have h1:(1:Int) > 0:=by omega
 simp only [h1,if_true,Int.ediv_one]
 split<;>omega
theorem rG {v:Value}{o:Option Int}{Q:Option Int→Shared→Prop} (p:IsPart v o) (h:Q o s):wpAny (model prog w) A (Builtin.Slice.slicePartIndex v) Q E s:=by
 cases p with
 | none=>exact slicePart_none h
 | int i t=>exact slicePart_int h
theorem iU {sl:Addr}{vl vu:Value}{lo hi:Option Int}{n:Nat}{Q:Int×Int×Nat→Shared→Prop} (hs:s.heap.IsSliceOf sl vl vu .none) (pl:IsPart vl lo) (pu:IsPart vu hi)
 (h:Q (((cM n 0 lo:Nat):Int),1,cM n n hi - cM n 0 lo) s):wpAny (model prog w) A (Builtin.Slice.sliceApplied (.ref sl) (pure (n:Int))) Q E s:=by
 obtain⟨os,P9,hcs,LM⟩:=id hs
 unfold Builtin.Slice.sliceApplied Builtin.Slice.sliceFields
 refine wpAny_bind (wpAny_bind (wpAny_field P9 LM (x:=vl) rfl (wpAny_bind (wpAny_field P9 LM (x:=vu) rfl (wpAny_bind (wpAny_field P9 LM (x:=.none) rfl (wpAny_pure ?_)))))))
 refine wpAny_bind (slicePart_none ?_)
 show wpAny _ _ (if ((1:Int)==0)=true then _ else _) _ _ s
 rw [if_neg (by decide)]
 refine wpAny_bind (rG pl (wpAny_bind (rG pu (wpAny_bind (wpAny_pure ?_)))))
 show wpAny _ _ (match Builtin.Slice.sliceAdjust lo hi 1 (n:Int) with|(lo,hi)=>pure (lo,(1:Int),Builtin.Slice.slicePlaces lo hi 1)) _ _ s
 rw [zP lo hi n]
 show wpAny _ _ (pure (((cM n 0 lo:Nat):Int),(1:Int),Builtin.Slice.slicePlaces ((cM n 0 lo:Nat):Int) ((cM n n hi:Nat):Int) 1)) _ _ s
 rw [Ai]
 exact wpAny_pure h
theorem Gk (xs:Array Value) (i k:Nat):((List.range k).filterMap fun (m:Nat)=>xs[((i:Int)+(m:Int)*1).toNat]?).toArray=((xs.toList.drop i).take k).toArray:=by
 have e:(fun (m:Nat)=>xs[((i:Int)+(m:Int)*1).toNat]?)=fun m=>xs[i+m]?:=by
  funext m
  have:((i:Int)+(m:Int)*1).toNat=i+m:=by omega
  rw [this]
 rw [e]
 have:=pick_run xs i k
 rw [List.filterMap_map] at this
 have e2:((fun x=>xs[x]?)∘fun x=>i+x)=fun m=>xs[i+m]?:=rfl
 rw [e2] at this
 rw [this]
theorem mX {t sl:Addr}{items:Array Value}{vl vu:Value}{lo hi:Option Int}{Q:Value→Shared→Prop} (ht:IsTup s.heap t items) (hs:s.heap.IsSliceOf sl vl vu .none) (pl:IsPart vl lo) (pu:IsPart vu hi)
 (hw:¬(cM items.size 0 lo=0∧cM items.size items.size hi=items.size))
 (h:Q (.ref s.heap.objs.size) {s with heap:=s.heap.push {cls:=.type "tuple",data:=.seq ((items.toList.drop (cM items.size 0 lo)).take (cM items.size items.size hi - cM items.size 0 lo)).toArray}})
 (hsz:items.size≤sizeLine):wpAny (model prog w) A (getItem (.ref t) (.ref sl)) Q E s:=by
 have BA:sizeOk (.seq ((items.toList.drop (cM items.size 0 lo)).take (cM items.size items.size hi - cM items.size 0 lo)).toArray):=by
  show ((items.toList.drop (cM items.size 0 lo)).take (cM items.size items.size hi - cM items.size 0 lo)).toArray.size≤sizeLine
  rw [List.size_toArray,List.length_take,List.length_drop,Array.length_toList]
  omega
 have hj:cM items.size items.size hi≤items.size:=MM _ _ (Nat.le_refl _) hi
 obtain⟨os,P9,hcs,LM⟩:=id hs
 have hTs:s.TypeIs (.ref sl) "slice":=⟨os,P9,hcs⟩
 unfold getItem
 try with_reducible refine wpAny_holding ?_
 first|refine wpAny_bind (wpAny_pure ?_)|skip
 refine wpAny_bind (wpAny_sequenceKey ht.typeIs (by decide) ?_)
 refine wpAny_bind (wpAny_callSpecial?_slot (name:=Str.ofString "__getitem__") ht.typeIs PyProof.Rows.slot_tuple_getitem
  (wpAny_call_entry PyProof.Rows.slot_tuple_getitem ht.typeIs entry_tuple_getitem ?_ (args_tuple_getitem _ _)))
 show wpAny _ _ (Builtin.Tuple.tupleItemsOf (.ref t) >>= _) _ _ s
 refine wpAny_bind (tupleItemsOf_ ht ?_)
 refine wpAny_bind (wpAny_typeOf hTs ?_)
 rw [if_pos (by decide)]
 refine wpAny_bind (iU hs pl pu ?_)
 have hno:¬((((cM items.size 0 lo:Nat):Int)==0&&(1:Int)==1&&(cM items.size items.size hi - cM items.size 0 lo)==items.size)=true):=by
  intro q
  rw [Bool.and_eq_true,Bool.and_eq_true] at q
  have q1:((cM items.size 0 lo:Nat):Int)=0:=eq_of_beq q.1.1
  have q2:cM items.size items.size hi - cM items.size 0 lo=items.size:=eq_of_beq q.2
  exact hw ⟨by omega,by omega⟩
 show wpAny _ _ (if (((cM items.size 0 lo:Nat):Int)==0&&(1:Int)==1&&(cM items.size items.size hi - cM items.size 0 lo)==items.size)=true then _ else _) _ _ s
 rw [if_neg hno,Gk]
 first
  | exact wpAny_bind (m:=Builtin.Tuple.tupleExact _) (wpAny_newObj_type (wpAny_pure ⟨_,rfl,wpAny_pure h⟩) BA)
  | exact wpAny_bind (m:=Builtin.Tuple.tupleExact _) (wpAny_newObj_type (wpAny_bind (wpAny_pure (wpAny_pure ⟨_,rfl,wpAny_pure h⟩))) BA)
  | exact wpAny_bind (wpAny_bind (m:=Builtin.Tuple.tupleExact _) (wpAny_newObj_type (wpAny_pure (wpAny_pure ⟨_,rfl,wpAny_pure h⟩)) BA))
  | exact wpAny_bind (wpAny_bind (m:=Builtin.Tuple.tupleExact _) (wpAny_newObj_type (wpAny_pure ⟨_,rfl,wpAny_pure h⟩) BA))
end
end HT
namespace L2
open PySem PySem.Spec PyProof.Rows
noncomputable abbrev TO:=St→Hp→(Option Int→Hp→Prop)→Prop
noncomputable def PO (X:Cx) (e:Option Expr) (t:TO):Prop:=
 ∀(pins:List (Addr×Obj)) (s:Shared) (σ:St) (H:Hp) (Q:Option Int→Hp→Prop),Inv X pins σ H s→t σ H Q→
  wpAny (model X.prog X.w) X.A (evalPart e X.env) (fun u s'=>∃o H',Inv X pins σ H' s'∧IsPart u o∧Q o H') X.xe s
noncomputable def AG:TO:=fun _ H Q=>Q none H
noncomputable def JO (t:TE):TO:=fun σ H Q=>t σ H fun x H1=>∃i,x = .int i∧Q (some i) H1
section
variable {X : Cx} {e : Expr} {te : TE} {lo hi : Option Expr} {tl th : TO} {pos p2 : Pos}
theorem lF:PO X none AG:=by
 intro pins s σ H Q I h
 rw [evalPart_none]
 exact wpAny_pure ⟨none,H,I,.none,h⟩
theorem d6 (h:PE X e te):PO X (some e) (JO te):=by
 intro pins s σ H Q I hw
 rw [evalPart_some]
 refine bD (h pins s σ H _ I hw) fun u s1 ⟨x,H1,I1,r1,q1⟩=>?_
 obtain⟨i,rfl,q⟩:=q1
 obtain⟨t,rfl⟩:=r1
 exact⟨some i,H1,I1,.int i t,q⟩
noncomputable def GC (X:Cx) (r:V→Option Int→Option Int→Hp→VK→Prop):Prop:=
 ∀(pins:List (Addr×Obj)) (s:Shared) (σ:St) (H:Hp) (x:V) (v vl vu:Value) (lo hi:Option Int) (sl:Addr) (Q:VK),Inv X pins σ H s→RelV x v→s.heap.IsSliceOf sl vl vu .none→IsPart vl lo→IsPart vu hi→r x lo hi H Q→
  ∃T id,typeLookup (.type T) "__getitem__"=pure (some (.builtin id))∧s.TypeIs v T∧wpAny (model X.prog X.w) X.A (getItem v (.ref sl)) (EP X pins σ Q) X.xe s
theorem GC.or {r r':V→Option Int→Option Int→Hp→VK→Prop} (h:GC X r) (h':GC X r'):GC X (fun x lo hi H Q=>r x lo hi H Q∨r' x lo hi H Q):=by
 intro pins s σ H x v vl vu lo hi sl Q I rx hs pl pu q
 rcases q with q|q
 · exact h pins s σ H x v vl vu lo hi sl Q I rx hs pl pu q
 · exact h' pins s σ H x v vl vu lo hi sl Q I rx hs pl pu q
noncomputable def tSl (r:V→Option Int→Option Int→Hp→VK→Prop) (te:TE) (tl th:TO):TE:=fun σ H Q=>te σ H fun x H1=>tl σ H1 fun l H2=>th σ H2 fun u H3=>r x l u H3 Q
theorem fg {r:V→Option Int→Option Int→Hp→VK→Prop} (hr:GC X r) (he:PE X e te) (hl:PO X lo tl) (hu:PO X hi th):PE X (.Subscript e (.Slice lo hi none p2) pos) (tSl r te tl th):=by
 intro pins s σ H Q I h
 refine Subscript_ (bD (he pins s σ H _ I h) fun v s1 ⟨x,H1,I1,r1,q1⟩=>?_)
 refine wpAny_Slice (bD (hl pins s1 σ H1 _ I1 q1) fun vl s2 ⟨l,H2,I2,pl,q2⟩=>bD (hu pins s2 σ H2 _ I2 q2) fun vu s3 ⟨u,H3,I3,pu,q3⟩=>?_)
 rw [evalPart_none]
 refine wpAny_pure ?_
 have I4:Inv X pins σ H3 {s3 with heap:=s3.heap.push {cls:=.type "slice",data:=.fields #[vl,vu,.none]}}:=I3.kept (t':=s3.toks) fun b ob q=>Heap.get?_push_of_some _ q
 obtain⟨T,id,hT,ht,hg⟩:=hr pins {s3 with heap:=s3.heap.push {cls:=.type "slice",data:=.fields #[vl,vu,.none]}} σ H3 x v vl vu l u s3.heap.objs.size Q I4 r1 (Heap.IsSliceOf.new ..) pl pu q3
 show wpAny (model X.prog X.w) X.A (subscriptTail e (.Slice lo hi none p2) v (.ref s3.heap.objs.size)) (EP X pins σ Q) X.xe {s3 with heap:=s3.heap.push {cls:=.type "slice",data:=.fields #[vl,vu,.none]}}
 exact tail_any (ops:=[.ref s3.heap.objs.size,v]) ht hT hg (by with_unfolding_all rfl)
noncomputable def iB (xs:List V) (lo hi:Option Int):List V:=(xs.drop (HT.cM xs.length 0 lo)).take (HT.cM xs.length xs.length hi - HT.cM xs.length 0 lo)
theorem qm (xs:List V) (lo hi:Option Int):(iB xs lo hi).length≤xs.length:=by
 unfold iB
 rw [List.length_take,List.length_drop]
 omega
noncomputable def O5 (K:PySem.W.Frag):V→Option Int→Option Int→Hp→VK→Prop:=fun x lo hi H Q=>∃a xs,x = .ref a∧jr K H a xs∧
 ¬(HT.cM xs.length 0 lo=0∧HT.cM xs.length xs.length hi=xs.length)∧∀p,H p=none→Q (.ref p) (upd H p (.tup (iB xs lo hi)))
theorem Mh:GC X (O5 X.K):=by
 intro pins s σ H x v vl vu lo hi sl Q I rx hs pl pu h
 obtain⟨a,xs,rfl,hx,hw,q⟩:=h
 cases rx
 obtain⟨aq,r,ht,hz⟩:=I.tuple hx
 have hlen:aq.toArray.size=xs.length:=by rw [List.size_toArray];exact r.length.symm
 refine⟨"tuple",_,PyProof.Rows.slot_tuple_getitem.lookup,ht.typeIs,?_⟩
 refine HT.mX ht hs pl pu (by rw [hlen];exact hw) ?_ (by rw [hlen];exact hz)
 rw [hlen]
 refine⟨.ref s.heap.objs.size,_,I.laid (t':=s.toks) (o:=.tup (iB xs lo hi)) (fun b ob q=>Heap.get?_push_of_some _ q) (Nat.le_refl _) ?_,rfl,q _ (I.aO.fresh (Nat.le_refl _))⟩
 exact⟨Nat.le_trans (qm xs lo hi) hz,_,(r.drop (HT.cM xs.length 0 lo)).take (HT.cM xs.length xs.length hi - HT.cM xs.length 0 lo),IsTup.new _ _⟩
noncomputable def PZ (K:PySem.W.Frag):R2:=fun x y H Q=>∃a b xs ys,x = .ref a∧y = .ref b∧jr K H a xs∧jr K H b ys∧xs≠[]∧xs.length+ys.length≤sizeLine∧
 (ys=[]→Q (.ref a) H)∧(ys≠[]→∀p,H p=none→Q (.ref p) (upd H p (.tup (xs++ys))))
theorem Vals.vG {xs:List V}{us:List Value} (r:Vals xs us):us=[]↔xs=[]:=by
 cases r with
 | nil=>simp
 | cons _ _=>simp
theorem I0:kg X (binaryOp .Add) (PZ X.K):=by
 intro pins s σ H x y v u Q I rx ry h
 obtain⟨a,b,xs,ys,rfl,rfl,ha,hb,hx,hz,q1,q2⟩:=h
 cases rx
 cases ry
 obtain⟨aq,r1,p1,_⟩:=I.tuple ha
 obtain⟨vw,r2,p2,_⟩:=I.tuple hb
 refine HT.IM p1 p2 (fun z=>hx (r1.vG.mp z)) (fun z=>⟨.ref a,H,I,rfl,q1 (r2.vG.mp z)⟩) (fun z=>?_) (by rw [←r1.length,←r2.length];exact hz)
 refine⟨.ref s.heap.objs.size,_,I.laid (t':=s.toks) (o:=.tup (xs++ys)) (fun b ob q=>Heap.get?_push_of_some _ q) (Nat.le_refl _) ?_,rfl,q2 (fun w=>z (r2.vG.mpr w)) _ (I.aO.fresh (Nat.le_refl _))⟩
 exact⟨by rw [List.length_append];exact hz,_,r1.append r2,IsTup.new _ _⟩
end
end L2
namespace L2
open PySem PySem.Spec PyProof.Rows
noncomputable def Az (n:Nat) (i:Int):Option Nat:=if 0≤i then (if i<n then some i.toNat else none) else if -(n:Int)≤i then some (i+n).toNat else none
noncomputable def kT {α:Type} (xs:List α) (i:Int):Option α:=(Az xs.length i).bind fun j=>xs[j]?
theorem A7 {n:Nat}{i:Int}{j:Nat} (h:Az n i=some j):seqIndex? i n=some j∧j<n ∧ -(n:Int)≤i∧i<n:=by
 unfold Az at h
 by_cases h0:0≤i
 · rw [if_pos h0] at h
   by_cases h1:i<n
   · rw [if_pos h1] at h
     have e:i.toNat=j:=Option.some.inj h
     exact⟨by rw [seqIndex_of h0 h1,e],by omega,by omega,h1⟩
   · rw [if_neg h1] at h;cases h
 · rw [if_neg h0] at h
   by_cases h1 : -(n:Int)≤i
   · rw [if_pos h1] at h
     have e:(i+n).toNat=j:=Option.some.inj h
     exact⟨by rw [seqIndex_neg (by omega) h1,e],by omega,h1,by omega⟩
   · rw [if_neg h1] at h;cases h
theorem wG {α:Type}{xs:List α}{i:Int}{v:α} (h:kT xs i=some v):∃j,seqIndex? i xs.length=some j∧xs[j]? = some v∧j<xs.length ∧ -(xs.length:Int)≤i∧i<xs.length:=by
 unfold kT at h
 cases e:Az xs.length i with
 | none=>rw [e] at h;cases h
 | some j=>
  rw [e] at h
  obtain⟨h1,h2,h3,h4⟩:=A7 e
  exact⟨j,h1,h,h2,h3,h4⟩
theorem gj {α:Type}{xs:List α}{j:Nat}{v:α} (h:xs[j]? = some v):kT xs (j:Int)=some v:=by
 have hj:j<xs.length:=(List.getElem?_eq_some_iff.mp h).1
 have e:Az xs.length (j:Int)=some j:=by
  unfold Az
  rw [if_pos (by omega),if_pos (by omega)];simp
 unfold kT;rw [e];exact h
theorem sE {α:Type} (xs:List α) (v:α):kT (xs++[v]) (-1)=some v:=by
 have hl:(xs++[v]).length=xs.length+1:=by simp
 have e:Az (xs++[v]).length (-1)=some xs.length:=by
  unfold Az
  rw [hl,if_neg (by decide),if_pos (by omega)]
  congr 1
  omega
 unfold kT
 rw [e]
 show (xs++[v])[xs.length]? = some v
 simp
noncomputable def Ip (b:Expr):Prop:=∀o i,subscripted b false o i=operate [o,i] (getItem o i)
noncomputable def IH (X:Cx) (r:R2):Prop:=
 ∀(value slice:Expr) (pins:List (Addr×Obj)) (s:Shared) (σ:St) (H:Hp) (x y:V) (v u:Value) (Q:VK),Inv X pins σ H s→RelV x v→RelV y u→r x y H Q→
  subscripted slice false v u=operate [v,u] (getItem v u)→wpAny (model X.prog X.w) X.A (subscriptTail value slice v u) (EP X pins σ Q) X.xe s
noncomputable def G0 (X:Cx) (id:String) (r:V→List V→Hp→VK→Prop):Prop:=
 ∀(pins:List (Addr×Obj)) (s:Shared) (σ:St) (H:Hp) (x:V) (xs:List V) (v:Value) (us:List Value) (Q:VK),Inv X pins σ H s→RelV x v→Vals xs us→r x xs H Q→
  wpAny (model X.prog X.w) X.A (call (.builtin id) (v::us)) (EP X pins σ Q) X.xe s
section
variable {X : Cx} {a b : Expr} {ta tb : TE} {pos : Pos}
theorem IH.or {r r':R2} (h:IH X r) (h':IH X r'):IH X (fun x y H Q=>r x y H Q∨r' x y H Q):=by
 intro value slice pins s σ H x y v u Q I rx ry q hs
 rcases q with q|q
 · exact h value slice pins s σ H x y v u Q I rx ry q hs
 · exact h' value slice pins s σ H x y v u Q I rx ry q hs
theorem G0.or {id:String}{r r':V→List V→Hp→VK→Prop} (h:G0 X id r) (h':G0 X id r'):G0 X id (fun x xs H Q=>r x xs H Q∨r' x xs H Q):=by
 intro pins s σ H x xs v us Q I rx rs q
 rcases q with q|q
 · exact h pins s σ H x xs v us Q I rx rs q
 · exact h' pins s σ H x xs v us Q I rx rs q
theorem aw {r:R2} (hr:IH X r) (ha:PE X a ta) (hb:PE X b tb) (hs:Ip b):PE X (.Subscript a b pos) (NO r ta tb):=by
 intro pins s σ H Q I h
 exact Subscript_ (M0 ha hb I h fun v u s2 x y H2 I2 rx ry q=>hr a b pins s2 σ H2 x y v u Q I2 rx ry q (hs _ _))
noncomputable def OR (K:PySem.W.Frag):R2:=fun x y H Q=>∃p xs i v,x = .ref p∧y = .int i∧fD K H p xs∧kT xs i=some v∧Q v H
noncomputable def Vx (K:PySem.W.Frag):R2:=fun x y H Q=>∃p xs i v,x = .ref p∧y = .int i∧jr K H p xs∧kT xs i=some v∧Q v H
noncomputable def O2:R2:=fun x y H Q=>∃z i c,x = .str z∧y = .int i∧z.length≤sizeLine∧kT z.cps.toList i=some c∧Q (.str ⟨#[c]⟩) H
theorem v7:IH X (OR X.K):=by
 intro value slice pins s σ H x y v u Q I rx ry h hs
 obtain⟨p,xs,i,z,rfl,rfl,hq,he,q⟩:=h
 cases rx
 obtain⟨t,rfl⟩:=ry
 obtain⟨aq,r,pl,hz⟩:=I.list hq
 obtain⟨j,h1,h2,h3,h4,h5⟩:=wG he
 obtain⟨w,ew,OA⟩:=r.get h2
 have hl:=r.length
 have hn:=nZ
 have fin:EP X pins σ Q w s:=⟨z,H,I,OA,q⟩
 by_cases h0:0≤i
 · have hj:i.toNat=j:=by
    rw [seqIndex_of h0 h5] at h1
    exact Option.some.inj h1
   exact item_listR pl.isList h0 (by omega) (by rw [hj];simpa using ew) fin hs
 · have hj:(i+(aq.toArray.size:Int)).toNat=j:=by
    rw [seqIndex_neg (by omega) h4] at h1
    rw [List.size_toArray,←hl]
    exact Option.some.inj h1
   exact subscriptTail_builtinR (x:=w) pl.isList.typeIs slot_list_getitem.lookup
    (wpAny_getItem_list_neg (Q:=fun r s'=>r=w∧EP X pins σ Q r s') pl.isList (by omega) (by rw [List.size_toArray]<;>omega) (by omega) (by rw [hj];simpa using ew) ⟨rfl,fin⟩) hs
theorem MY:IH X (Vx X.K):=by
 intro value slice pins s σ H x y v u Q I rx ry h hs
 obtain⟨p,xs,i,z,rfl,rfl,hq,he,q⟩:=h
 cases rx
 obtain⟨t,rfl⟩:=ry
 obtain⟨aq,r,pl,hz⟩:=I.tuple hq
 obtain⟨j,h1,h2,h3,h4,h5⟩:=wG he
 obtain⟨w,ew,OA⟩:=r.get h2
 have hl:=r.length
 have hn:=nZ
 have fin:EP X pins σ Q w s:=⟨z,H,I,OA,q⟩
 exact subscriptTail_builtinR (x:=w) pl.typeIs slot_tuple_getitem.lookup
  (getItem_tuple (j:=j) (Q:=fun r s'=>r=w∧EP X pins σ Q r s') pl (by omega) (by omega) (by rw [List.size_toArray,←hl];exact h1) (by simpa using ew) ⟨rfl,fin⟩) hs
theorem oP:IH X O2:=by
 intro value slice pins s σ H x y v u Q I rx ry h hs
 obtain⟨z,i,c,rfl,rfl,hz,he,q⟩:=h
 obtain⟨t,rfl⟩:=rx
 obtain⟨t',rfl⟩:=ry
 obtain⟨j,h1,h2,h3,h4,h5⟩:=wG he
 have hl:z.cps.toList.length=z.length:=by simp [Str.length]
 rw [hl] at h1 h4 h5
 have hn:=nZ
 exact tail_any (typeIs_str s z t) slot_str_getitem.lookup (getItem_str (c:=c) (by
  have e1:decide (i < -(2^63:Int))=false:=decide_eq_false (by omega)
  have e2:decide (i≥2^63)=false:=decide_eq_false (by omega)
  rw [e1,e2,Bool.or_false]) (by rw [h1];simpa using h2) ⟨.str ⟨#[c]⟩,H,I.tok _,⟨_,rfl⟩,q⟩) hs
theorem zr (aq:List Value) (n j:Nat) (u:Value):Obj.mapSeq (·.setIfInBounds j u) {cls:=.type "list",data:=.seq aq.toArray n}={cls:=.type "list",data:=.seq (aq.set j u).toArray n}:=by
 simp [Obj.mapSeq]
theorem Inv.lst {pins:List (Addr×Obj)}{σ:St}{H:Hp}{s:Shared}{p:Addr}{xs:List V} (I:Inv X pins σ H s) (h:H p=some (.lst xs)) :
 ∃(aq:List Value) (n:Nat),Vals xs aq∧s.heap.get? p=some {cls:=.type "list",data:=.seq aq.toArray n}∧xs.length≤sizeLine:=by
 obtain⟨z,aq,n,r,e⟩:=I.aO p _ h
 exact⟨aq,n,r,e,z⟩
theorem Inv.Mg {pins:List (Addr×Obj)}{σ:St}{H:Hp}{s:Shared}{p:Addr}{xs ys:List V}{aq its':List Value}{n n':Nat}{f:Obj→Obj} (I:Inv X pins σ H s) (h:H p=some (.lst xs))
 (ho:s.heap.get? p=some {cls:=.type "list",data:=.seq aq.toArray n}) (hf:f {cls:=.type "list",data:=.seq aq.toArray n}={cls:=.type "list",data:=.seq its'.toArray n'}) (r:Vals ys its') (hz:ys.length≤sizeLine) (t:Nat) :
 Inv X pins σ (upd H p (.lst ys)) {s with heap:=s.heap.update p f,toks:=t}:=by
 have e:(s.heap.update p f).get? p=some {cls:=.type "list",data:=.seq its'.toArray n'}:=by
  rw [Heap.get?_update_self f ho (by rw [hf]<;>rfl),hf]
 refine I.write (x:=p) (e:=p) (by rw [h];trivial) (.inl rfl) (fun b u hb q=>(Heap.get?_update_other _ _ (Ne.symm hb)).trans q) ⟨_,e⟩ ?_
 exact⟨hz,its',n',r,e⟩
noncomputable def JI:V→V→V→Hp→(Hp→Prop)→Prop:=fun o i v H Q=>∃p xs k j,o = .ref p∧i = .int k∧H p=some (.lst xs)∧Az xs.length k=some j∧Q (upd H p (.lst (xs.set j v)))
theorem set_list:O3 X JI:=by
 intro pins s σ H o i v ov iv u Q I ro ri rv h
 obtain⟨p,xs,k,j,rfl,rfl,hp,hj,q⟩:=h
 cases ro
 obtain⟨t,rfl⟩:=ri
 obtain⟨aq,n,r,ho,hz⟩:=I.lst hp
 obtain⟨h1,h2,h3,h4⟩:=A7 hj
 have hl:=r.length
 have hn:=nZ
 have I':Inv X pins σ (upd H p (.lst (xs.set j v))) {s with heap:=s.heap.update p (Obj.mapSeq (·.setIfInBounds j u))}:=
  I.Mg hp ho (zr aq n j u) (r.set rv j) (by rw [List.length_set];exact hz) s.toks
 by_cases h0:0≤k
 · have hk:k.toNat=j:=by
    rw [seqIndex_of h0 h4] at h1
    exact Option.some.inj h1
   exact PySem.W.ki_setAt ho h0 (by omega) (by rw [List.size_toArray,←hl];exact h4) (by rw [hk];exact⟨_,I',q⟩)
 · have hk:(k+(aq.toArray.size:Int)).toNat=j:=by
    rw [seqIndex_neg (by omega) h3] at h1
    rw [List.size_toArray,←hl]
    exact Option.some.inj h1
   exact PySem.W.ki_setBack ho (by omega) (by rw [List.size_toArray,←hl];exact h3) (by omega) (by rw [hk];exact⟨_,I',q⟩)
theorem wA (lo hi:Option Int) (n:Nat):(sliceBounds lo hi none n).1=((HT.cM n 0 lo:Nat):Int)∧(sliceBounds lo hi none n).2.1=((HT.cM n n hi:Nat):Int)∧(sliceBounds lo hi none n).2.2=1:=by
 refine⟨?_,?_,rfl⟩
 · cases lo with
   | none=>simp [sliceBounds,HT.cM]
   | some i=>
    simp only [sliceBounds,HT.cM,Option.getD_none,show (1:Int) > 0 by decide,if_true]
    by_cases h:i<0
    · simp only [h,if_true]<;>omega
    · simp only [h,if_false]<;>omega
 · cases hi with
   | none=>simp [sliceBounds,HT.cM]
   | some i=>
    simp only [sliceBounds,HT.cM,Option.getD_none,show (1:Int) > 0 by decide,if_true]
    by_cases h:i<0
    · simp only [h,if_true]<;>omega
    · simp only [h,if_false]<;>omega
theorem tU (aq:List Value) (lo hi:Option Int):slicePick aq.toArray lo hi none=((aq.drop (HT.cM aq.length 0 lo)).take (HT.cM aq.length aq.length hi - HT.cM aq.length 0 lo)).toArray:=by
 obtain⟨h1,h2,h3⟩:=wA lo hi aq.toArray.size
 unfold slicePick
 rw [h1,h2,h3]
 simp only [sliceRange_one,pick_run,List.size_toArray]<;>rfl
noncomputable def Vi (K:PySem.W.Frag):V→Option Int→Option Int→Hp→VK→Prop:=fun x lo hi H Q=>∃a xs,x = .ref a∧fD K H a xs∧∀p,H p=none→Q (.ref p) (upd H p (.lst (iB xs lo hi)))
theorem Iv:GC X (Vi X.K):=by
 intro pins s σ H x v vl vu lo hi sl Q I rx hs pl pu h
 obtain⟨a,xs,rfl,hx,q⟩:=h
 cases rx
 obtain⟨aq,r,ht,hz⟩:=I.list hx
 have hlen:=r.length
 refine⟨"list",_,slot_list_getitem.lookup,ht.isList.typeIs,?_⟩
 refine wpAny_getItem_list_slice ht.isList hs pl pu .none (by simp) ?_ (by rw [List.size_toArray]<;>omega)
 rw [tU,←hlen]
 refine⟨.ref s.heap.objs.size,_,I.laid (t':=s.toks) (o:=.lst (iB xs lo hi)) (fun b ob q=>Heap.get?_push_of_some _ q) (Nat.le_refl _) ?_,rfl,q _ (I.aO.fresh (Nat.le_refl _))⟩
 exact⟨Nat.le_trans (qm xs lo hi) hz,_,0,(r.drop (HT.cM xs.length 0 lo)).take (HT.cM xs.length xs.length hi - HT.cM xs.length 0 lo),Heap.get?_push_size _ rfl⟩
theorem eT:ck X (.builtin "len") (fun xs H Q=>∃p ys,xs=[.ref p]∧(fD X.K H p ys∨jr X.K H p ys)∧Q (.int ys.length) H):=by
 intro pins s σ H xs us Q I r h
 obtain⟨p,ys,rfl,hq,q⟩:=h
 obtain⟨u,rfl,rx⟩:=vals1 r
 cases rx
 have hn:=nZ
 rcases hq with hq|hq
 · obtain⟨aq,r',pl,hz⟩:=I.list hq
   have hlen:=r'.length
   exact Calls.call_len_list pl.isList (by simp only [List.size_toArray]<;>omega) ⟨.int ys.length,H,I.tok _,⟨s.toks+1,by rw [List.size_toArray,hlen]⟩,q⟩
 · obtain⟨aq,r',pl,hz⟩:=I.tuple hq
   have hlen:=r'.length
   exact len_tuple pl (by simp only [List.size_toArray]<;>omega) ⟨.int ys.length,H,I.tok _,⟨s.toks+1,by rw [List.size_toArray,hlen]⟩,q⟩
theorem gf:ck X (.builtin "len") (fun xs H Q=>∃z,xs=[.str z]∧z.length≤sizeLine∧Q (.int z.length) H):=by
 intro pins s σ H xs us Q I r h
 obtain⟨z,rfl,hz,q⟩:=h
 obtain⟨u,rfl,t,rfl⟩:=vals1 r
 have hn:=nZ
 exact len_str (by omega) ⟨.int z.length,H,I.tok _,⟨_,rfl⟩,q⟩
theorem ck.or {f:Value}{r r':List V→Hp→VK→Prop} (h:ck X f r) (h':ck X f r'):ck X f (fun xs H Q=>r xs H Q∨r' xs H Q):=by
 intro pins s σ H xs us Q I rs q
 rcases q with q|q
 · exact h pins s σ H xs us Q I rs q
 · exact h' pins s σ H xs us Q I rs q
theorem wg:ck X (.type "list") (fun xs H Q=>∃p ys,xs=[.ref p]∧(fD X.K H p ys∨jr X.K H p ys)∧∀l,H l=none→Q (.ref l) (upd H l (.lst ys))):=by
 intro pins s σ H xs us Q I r h
 obtain⟨p,ys,rfl,hq,q⟩:=h
 obtain⟨u,rfl,rx⟩:=vals1 r
 cases rx
 have fin:∀(aq:List Value),Vals ys aq→ys.length≤sizeLine→∀(h':Heap) (c':Nat),(∀b o',s.heap.get? b=some o'→h'.get? b=some o')→
  h'.get? s.heap.objs.size=some {cls:=.type "list",dict:=none,data:=.seq aq.toArray c',slots:=#[]}→EP X pins σ Q (.ref s.heap.objs.size) {s with heap:=h'}:=fun aq r' hz h' c' kp e=>
  ⟨.ref s.heap.objs.size,_,I.laid (t':=s.toks) kp (Nat.le_refl _) (show bS X.prog X.w _ h' _ (.lst ys) from ⟨hz,aq,c',r',e⟩),rfl,q _ (I.aO.fresh (Nat.le_refl _))⟩
 rcases hq with hq|hq
 · obtain⟨aq,r',pl,hz⟩:=I.list hq
   have hlen:=r'.length
   obtain⟨o,ho,hc,n,hd⟩:=pl.isList
   exact call_list_seq p (.inl rfl) ho hc hd (fun h' c' kp e=>fin aq r' hz h' c' kp e) (by simp only [List.size_toArray]<;>omega)
 · obtain⟨aq,r',pl,hz⟩:=I.tuple hq
   have hlen:=r'.length
   obtain⟨o,ho,hc,n,hd⟩:=pl
   exact call_list_seq p (.inr rfl) ho hc hd (fun h' c' kp e=>fin aq r' hz h' c' kp e) (by simp only [List.size_toArray]<;>omega)
theorem t6:ck X (.type "tuple") (fun xs H Q=>∃p ys,xs=[.ref p]∧((fD X.K H p ys∧∀l,H l=none→Q (.ref l) (upd H l (.tup ys)))∨(jr X.K H p ys∧Q (.ref p) H))):=by
 intro pins s σ H xs us Q I r h
 obtain⟨p,ys,rfl,h⟩:=h
 obtain⟨u,rfl,rx⟩:=vals1 r
 cases rx
 rcases h with ⟨hq,q⟩|⟨hq,q⟩
 · obtain⟨aq,r',pl,hz⟩:=I.list hq
   have hlen:=r'.length
   refine call_tuple_list pl.isList (fun h' kp=>?_) (by simp only [List.size_toArray]<;>omega)
   have I1:Inv X pins σ H {s with heap:=h'}:=I.kept (t':=s.toks) kp
   have I2:Inv X pins σ (upd H h'.objs.size (.tup ys)) {s with heap:=h'.push {cls:=.type "tuple",data:=.seq aq.toArray}}:=
    I1.laid (t':=s.toks) (fun b o e=>Heap.get?_push_of_some _ e) (Nat.le_refl _) (show bS X.prog X.w _ _ _ (.tup ys) from ⟨hz,aq,r',IsTup.new _ _⟩)
   exact⟨.ref h'.objs.size,_,I2,rfl,q _ (I1.aO.fresh (Nat.le_refl _))⟩
 · obtain⟨aq,r',pl,hz⟩:=I.tuple hq
   exact call_tuple_same pl ⟨.ref p,H,I,rfl,q⟩
noncomputable def NN (K:PySem.W.Frag) (T:String) (x:V) (H:Hp):Prop:=match x with
 | .str _=>T="str"
 | .int _=>T="int"
 | .ref p=>(T="list"∧∃xs,fD K H p xs)∨(T="tuple"∧∃o,K.lookup p=some o∧o.cls = .type "tuple"∧o.dict=none) ∨
  (T="dict"∧((∃aK,H p=some (.dK aK))∨∃aK,H p=some (.dT aK)))∨(T="set"∧∃S n,H p=some (.set S n))
 | _=>False
theorem ME {pins:List (Addr×Obj)}{σ:St}{H:Hp}{s:Shared}{T:String}{x:V}{v:Value} (I:Inv X pins σ H s) (r:RelV x v) (ty:NN X.K T x H) :
 s.TypeIs v T∧∀a,v = .ref a→∃ob,s.heap.get? a=some ob∧ob.dict=none:=by
 cases x with
 | str z=>
  obtain⟨t,rfl⟩:=r
  cases (show T="str" from ty)
  exact⟨typeIs_str s z t,fun _ e=>nomatch e⟩
 | int i=>
  obtain⟨t,rfl⟩:=r
  cases (show T="int" from ty)
  exact⟨typeIs_int s i t,fun _ e=>nomatch e⟩
 | ref p=>
  cases r
  rcases ty with ⟨rfl,xs,hq⟩|⟨rfl,o,hk,hc,hd⟩|⟨rfl,hk⟩|⟨rfl,S,n,hk⟩
  · obtain⟨aq,_,pl,_⟩:=I.list hq
    refine⟨pl.isList.typeIs,fun a e=>?_⟩
    cases e
    obtain⟨o,n,e,c,hd,_⟩:=pl
    exact⟨o,e,hd⟩
  · refine⟨⟨o,I.rq p o hk,hc⟩,fun a e=>?_⟩
    cases e
    exact⟨o,I.rq _ o hk,hd⟩
  · have z:∃o,s.heap.get? p=some o∧o.ExactDict:=by
     rcases hk with ⟨aK,hk⟩|⟨aK,hk⟩
     · obtain⟨_,_,_,_,o,_,_,e,ex,_⟩:=I.aO p _ hk
       exact⟨o,e,ex⟩
     · obtain⟨_,_,_,_,o,_,_,e,ex,_⟩:=I.aO p _ hk
       exact⟨o,e,ex⟩
    obtain⟨o,e,ex⟩:=z
    refine⟨⟨o,e,ex.1⟩,fun a e2=>?_⟩
    cases e2
    exact⟨o,e,ex.2.1⟩
  · obtain⟨o,_,_,_,e,ex,_⟩:=I.aO p _ hk
    refine⟨⟨o,e,ex.1⟩,fun a e2=>?_⟩
    cases e2
    exact⟨o,e,ex.2.1⟩
 | _=>exact False.elim ty
noncomputable def tBM (K:PySem.W.Frag) (T:String) (r:V→List V→Hp→VK→Prop) (to:TE) (t:TA):TE:=fun σ H Q=>to σ H fun x H1=>NN K T x H1∧t σ H1 fun xs H2=>r x xs H2 Q
variable {o e : Expr} {es : List Expr} {to : TE} {t : TA} {name : Str} {apos eY : Pos} {T id : String} {r : V→List V→Hp→VK→Prop}
theorem lV (pa:PlainAttrs T) (slot:Slot T name id) (GY:typeOf (.builtin id)=pure (.type "method_descriptor")) (hm:G0 X id r) (ho:PE X o to) (ha:PA X (e::es) t)
 (Pt:attributeBase o name X.env (eval o X.env)=eval o X.env:=by rfl)
 (Yi:((backTo eY (starEach (e::es) X.env)).all (fun x=>!x.1)&&(backToKw eY (keywordEach [] X.env)).all (fun x=>x.1.isSome)
   && decide ((e::es).length+([]:List Keyword).length+(if ([]:List Keyword).isEmpty then 0 else 1)<30))=true:=by rfl)
 (QC:(apos.endLine==eY.line)=true:=by rfl) (hs:starEach (e::es) X.env=(false,eval e X.env)::starEach es X.env:=by rfl) (Nh:(backTo eY (starEach es X.env)).any (·.1)=false:=by rfl) :
 PE X (.Call (.Attribute o name apos) (e::es) [] eY) (tBM X.K T r to t):=by
 intro pins s σ H Q I h
 refine wpAny_Call_method_late Pt Yi QC rfl (bD (ho pins s σ H _ I h) fun v s1 ⟨x,H1,I1,r1,ty,q1⟩=>?_)
 obtain⟨h1,h2⟩:=ME I1 r1 ty
 refine⟨T,id,pa,slot,GY,h1,h2,?_⟩
 have hA:=ha eY pins s1 σ H1 _ I1 q1
 rw [hs] at hA ⊢
 refine Calls.callWith_builtin (by show (false||(backTo eY (starEach es X.env)).any (·.1))=false;rw [Nh]<;>rfl) (Calls.evalArgs_plain ?_)
 exact bD hA fun us s2 ⟨vs,H2,I2,r2,q2⟩=>hm pins s2 σ H2 x vs v us Q I2 r1 r2 q2
end
end L2
namespace L2
open PySem PySem.Spec PyProof.Rows
noncomputable def MtM (X:Cx) (id:String) (r:V→List V→Hp→VK→Prop):Prop:=
 ∀(pins:List (Addr×Obj)) (s:Shared) (σ:St) (H:Hp) (x:V) (xs:List V) (v:Value) (us:List Value) (Q:VK),Inv X pins σ H s→RelV x v→Vals xs us→r x xs H Q→
  wpAny (model X.prog X.w) X.A (call (.builtin id) (v::us)) (EP X pins σ Q) X.xe s
theorem Vals.one:∀{x:V}{us:List Value},Vals [x] us→∃u,us=[u]∧RelV x u
 | _,_,.cons r .nil=>⟨_,rfl,r⟩
theorem Vals.two:∀{x y:V}{us:List Value},Vals [x,y] us→∃u v,us=[u,v]∧RelV x u∧RelV y v
 | _,_,_,.cons r (.cons q .nil)=>⟨_,_,rfl,r,q⟩
theorem Vals.zero:∀{us:List Value},Vals [] us→us=[]
 | _,.nil=>rfl
theorem Vals.dropLast {xs:List V}{us:List Value} (h:Vals xs us):Vals xs.dropLast us.dropLast:=by
 induction h with
 | nil=>exact .nil
 | cons r t ih=>
  cases t with
  | nil=>exact .nil
  | cons q t'=>exact .cons r ih
theorem Vals.reverse {xs:List V}{us:List Value} (h:Vals xs us):Vals xs.reverse us.reverse:=by
 induction h with
 | nil=>exact .nil
 | cons r t ih=>rw [List.reverse_cons,List.reverse_cons];exact Vals.append ih (.cons r .nil)
theorem Vals.rep {xs:List V}{us:List Value} (h:Vals xs us):∀k:Nat,Vals (List.replicate k xs).flatten (List.replicate k us).flatten
 | 0=>.nil
 | k+1=>by
  rw [List.replicate_succ,List.replicate_succ,List.flatten_cons,List.flatten_cons]
  exact Vals.append h (Vals.rep h k)
theorem foldl_rep (aq:List Value):∀(k:Nat) (acc:List Value),
 List.foldl (fun x1 x2=>x1++x2) acc.toArray (List.replicate k aq.toArray)=(acc++(List.replicate k aq).flatten).toArray
 | 0,acc=>by simp
 | k+1,acc=>by
  have e:acc.toArray++aq.toArray=(acc++aq).toArray:=by simp
  have e2:(acc++aq)++(List.replicate k aq).flatten=acc++(List.replicate (k+1) aq).flatten:=by
   rw [List.replicate_succ,List.flatten_cons,List.append_assoc]
  rw [←e2,←foldl_rep aq k (acc++aq),←e,List.replicate_succ,List.foldl_cons]
section
variable {X : Cx} {pins : List (Addr × Obj)} {σ : St} {H : Hp} {s : Shared} {l b : Addr} {xs ys zs : List V}
theorem Inv.Qi {aq its':List Value}{n:Nat}{f:Array Value→Array Value}{t':Nat} (I:Inv X pins σ H s) (hH:H l=some (.lst xs))
 (e:s.heap.get? l=some {cls:=.type "list",data:=.seq aq.toArray n}) (hf:f aq.toArray=its'.toArray) (hv:Vals ys its') (hz:ys.length≤sizeLine) :
 Inv X pins σ (upd H l (.lst ys)) {s with heap:=s.heap.update l (Obj.mapSeq f),toks:=t'}:=by
 have q:=PySem.IsL.update e f
 rw [hf] at q
 refine I.write (x:=l) (e:=l) (by rw [hH];exact trivial) (.inl rfl) (fun b' u hb hu=>(Heap.get?_update_other s.heap (Obj.mapSeq f) (Ne.symm hb)).trans hu) ⟨_,q⟩ ?_
 exact⟨hz,its',_,hv,q⟩
theorem Inv.Qo {aq:List Value}{t':Nat} (I:Inv X pins σ H s) (hv:Vals ys aq) (hz:ys.length≤sizeLine) :
 Inv X pins σ (upd H s.heap.objs.size (.lst ys)) {s with heap:=s.heap.push {cls:=.type "list",data:=.seq aq.toArray},toks:=t'}:=
 I.laid (fun _ _ q=>Heap.get?_push_of_some _ q) (Nat.le_refl _) ⟨hz,aq,0,hv,Heap.get?_push_size _ rfl⟩
theorem Inv.fresh (I:Inv X pins σ H s):H s.heap.objs.size=none:=I.aO.fresh (Nat.le_refl _)
theorem Inv.zZ (I:Inv X pins σ H s) (hH:H l=some (.lst xs)):xs.length≤sizeLine∧∃(aq:List Value) (n:Nat),Vals xs aq∧xs.length=aq.length∧s.heap.get? l=some {cls:=.type "list",data:=.seq aq.toArray n}:=by
 obtain⟨z,aq,n,r,e⟩:=I.aO l _ hH
 exact⟨z,aq,n,r,r.length,e⟩
theorem xO {n:Nat} (h:n≤sizeLine):Builtin.List.listTooLong n=false:=by
 unfold Builtin.List.listTooLong
 exact decide_eq_false (by omega)
end
section
variable {X : Cx}
noncomputable def Bb:V→List V→Hp→VK→Prop:=fun x vs H Q=>∃l xs y,x = .ref l∧vs=[y]∧H l=some (.lst xs)∧xs.length<sizeLine∧Q .non (upd H l (.lst (xs++[y])))
theorem oO:MtM X "list.append" Bb:=by
 intro pins s σ H x vs v us Q I rx rv h
 obtain⟨l,xs,y,rfl,rfl,hH,hz,q⟩:=h
 cases rx
 obtain⟨u,rfl,ru⟩:=rv.one
 obtain⟨z,aq,n,r,hl,e⟩:=I.zZ hH
 refine call_meets F.slot_list_append ⟨_,e,rfl⟩ F.entry_list_append (F.args_list_append_2 _ _) (PySem.list_append l aq.toArray n u (by rw [List.size_toArray];omega)) ⟨e,?_⟩
 refine⟨.non,_,I.Qi (its':=aq++[u]) hH e (by simp) (r.append (.cons ru .nil)) ?_,rfl,q⟩
 rw [List.length_append,List.length_singleton]
 omega
noncomputable def Br:V→List V→Hp→VK→Prop:=fun x vs H Q=>∃l b xs zs,x = .ref l∧vs=[.ref b]∧H l=some (.lst xs)∧H b=some (.lst zs)∧xs.length+zs.length≤sizeLine∧Q .non (upd H l (.lst (xs++zs)))
theorem Dp:MtM X "list.extend" Br:=by
 intro pins s σ H x vs v us Q I rx rv h
 obtain⟨l,b,xs,zs,rfl,rfl,hH,hB,hz,q⟩:=h
 cases rx
 obtain⟨u,rfl,ru⟩:=rv.one
 cases ru
 obtain⟨z,aq,n,r,hl,e⟩:=I.zZ hH
 obtain⟨z2,vw,n2,r2,GD,e2⟩:=I.zZ hB
 have hsz:aq.toArray.size+vw.toArray.size≤sizeLine:=by rw [List.size_toArray,List.size_toArray];omega
 have Ee:¬(!aq.toArray.isEmpty&&Builtin.List.listTooLong (aq.toArray.size+vw.toArray.size))=true:=by
  rw [xO hsz,Bool.and_false]
  exact Bool.false_ne_true
 refine call_meets F.slot_list_extend ⟨_,e,rfl⟩ F.entry_list_extend (F.args_list_extend_2 _ _)
  (AutoSeq1.list_extend_list_list_0 l aq.toArray n b vw.toArray n2 Ee (by rw [List.size_toArray];omega) (by omega)) ⟨e,e2,?_⟩
 refine⟨.non,_,I.Qi (its':=aq++vw) hH e (by simp) (r.append r2) ?_,rfl,q⟩
 rw [List.length_append]
 omega
noncomputable def OS:R2:=fun x y H Q=>∃l b xs zs,x = .ref l∧y = .ref b∧H l=some (.lst xs)∧H b=some (.lst zs)∧xs.length+zs.length≤sizeLine∧∀p,H p=none→Q (.ref p) (upd H p (.lst (xs++zs)))
theorem GF:kg X (binaryOp .Add) OS:=by
 intro pins s σ H x y v u Q I rx ry h
 obtain⟨l,b,xs,zs,rfl,rfl,hH,hB,hz,q⟩:=h
 cases rx
 cases ry
 obtain⟨z,aq,n,r,hl,e⟩:=I.zZ hH
 obtain⟨z2,vw,n2,r2,GD,e2⟩:=I.zZ hB
 refine PySem.P.add_list e e2 ?_ (by rw [List.size_toArray,List.size_toArray];omega)
 have ea:aq.toArray++vw.toArray=(aq++vw).toArray:=by simp
 rw [ea]
 exact⟨.ref _,_,I.Qo (t':=s.toks) (r.append r2) (by rw [List.length_append];omega),rfl,q _ I.fresh⟩
noncomputable def Oa:R2:=fun x y H Q=>∃l k xs,x = .ref l∧y = .int k∧H l=some (.lst xs) ∧ -(2^63)≤k∧k<2^63∧xs.length*k.toNat≤sizeLine∧
 ∀p,H p=none→Q (.ref p) (upd H p (.lst (List.replicate k.toNat xs).flatten))
theorem len_rep {α:Type} (xs:List α) (k:Nat):(List.replicate k xs).flatten.length=k*xs.length:=by
 induction k with
 | zero=>simp
 | succ k ih=>rw [List.replicate_succ,List.flatten_cons,List.length_append,ih,Nat.succ_mul,Nat.add_comm]
theorem wH:kg X (binaryOp .Mult) Oa:=by
 intro pins s σ H x y v u Q I rx ry h
 obtain⟨l,k,xs,rfl,rfl,hH,h1,h2,hz,q⟩:=h
 cases rx
 obtain⟨t,rfl⟩:=ry
 obtain⟨z,aq,n,r,hl,e⟩:=I.zZ hH
 have hlen:aq.toArray.size*k.toNat≤sizeLine:=by rw [List.size_toArray,←hl];exact hz
 have Zr:¬aq.toArray.size*k.toNat > (2^63 - 1) / 8:=by
  have:(sizeLine:Nat)≤(2^63 - 1) / 8:=by decide
  omega
 have ZJ:¬(!Builtin.List.listFitsIndex k)=true:=by
  rw [fitsIndex_both h1 h2]
  exact Bool.false_ne_true
 have Ee:¬Builtin.List.listTooLong (aq.toArray.size*k.toNat)=true:=by
  rw [xO hlen]
  exact Bool.false_ne_true
 have Us:List.foldl (fun x1 x2=>x1++x2) #[] (List.replicate (if aq.toArray.isEmpty=true then 0 else k.toNat) aq.toArray)=(List.replicate k.toNat aq).flatten.toArray:=by
  have f0:∀m:Nat,List.foldl (fun x1 x2=>x1++x2) #[] (List.replicate m aq.toArray)=(List.replicate m aq).flatten.toArray:=fun m=>by
   have:=foldl_rep aq m []
   rw [List.nil_append] at this
   exact this
  rw [f0]
  cases aq with
  | nil=>simp
  | cons a r'=>rw [if_neg (by simp)]
 refine wpAny_binaryOp_repeat_ref (T:="list") (U:="int") (by decide) ⟨_,e,rfl⟩ (fun s'=>typeIs_int s' k t) noFill_list_mul F.fills_int_mul F.slot_int_rmul repeat_list F.slot_int_index.lookup
  (call_meets F.slot_int_rmul (typeIs_int s k t) F.entry_int_rmul (F.args_int_rmul_2 _ _) (int___rmul___int_list k t l aq.toArray n)
    ⟨e,rfl,⟨_,e,rfl⟩,call_meets F.slot_list_mul ⟨_,e,rfl⟩ F.entry_list_mul (F.args_list_mul_2 _ _) (AutoListH.list___mul___list_int_3 l aq.toArray n k t ZJ Zr Ee) ⟨e,?_⟩⟩)
 rw [Us]
 exact⟨.ref _,_,I.Qo (t':=s.toks) (r.rep k.toNat) (by rw [len_rep,Nat.mul_comm];exact hz),rfl,q _ I.fresh⟩
end
section
variable {prog : Program} {w : World} {A : Around} {E : Value→Shared→Prop} {s : Shared}
set_option maxRecDepth 100000 in
end
section
variable {X : Cx}
end
end L2
namespace L2
open PySem PySem.Spec PyProof.Rows
section
variable {κ : Type} [DecidableEq κ]
noncomputable def dc (aK:List (κ×V)) (k:κ):Option V:=(aK.find? fun kv=>decide (kv.1=k)).map (·.2)
noncomputable def putK (aK:List (κ×V)) (k:κ) (v:V):List (κ×V):=
 if (aK.any fun kv=>decide (kv.1=k))=true then aK.map (fun kv=>if kv.1=k then (kv.1,v) else kv) else aK++[(k,v)]
noncomputable def Kq (aK:List (κ×V)) (k:κ):List (κ×V):=aK.filter fun kv=>decide (kv.1≠k)
theorem EU {k:κ}:dc ([]:List (κ×V)) k=none:=rfl
theorem dH {p:κ×V}{r:List (κ×V)}{k:κ} (e:p.1=k):dc (p::r) k=some p.2:=by simp [dc,List.find?_cons,e]
theorem dE {p:κ×V}{r:List (κ×V)}{k:κ} (e:¬p.1=k):dc (p::r) k=dc r k:=by simp [dc,List.find?_cons,e]
theorem mW (k:κ):∀aK:List (κ×V),(aK.any fun kv=>decide (kv.1=k))=(dc aK k).isSome
 | []=>rfl
 | p::r=>by
  rw [List.any_cons]
  by_cases e:p.1=k
  · simp only [dH e,decide_eq_true e,Bool.true_or,Option.isSome_some]
  · rw [dE e,decide_eq_false e,Bool.false_or];exact mW k r
theorem yt (k j:κ) (y:V):∀aK:List (κ×V),dc (aK.map fun kv=>if kv.1=k then (kv.1,y) else kv) j=(dc aK j).map fun x=>if j=k then y else x
 | []=>rfl
 | p::r=>by
  have ih:=yt k j y r
  rw [List.map_cons]
  by_cases h:p.1=k
  · rw [if_pos h]
    by_cases e:p.1=j
    · rw [dH (p:=(p.1,y)) e,dH e,Option.map_some,if_pos (e.symm.trans h)]
    · rw [dE (p:=(p.1,y)) e,dE e,ih]
  · rw [if_neg h]
    by_cases e:p.1=j
    · rw [dH (p:=p) e,dH e,Option.map_some,if_neg (fun z=>h (e.trans z))]
    · rw [dE (p:=p) e,dE e,ih]
theorem u9 (k j:κ) (y:V):∀aK:List (κ×V),dc aK k=none→dc (aK++[(k,y)]) j=if j=k then some y else dc aK j
 | [],_=>by
  by_cases e:k=j
  · rw [if_pos e.symm];exact dH (p:=(k,y)) e
  · rw [if_neg (fun z=>e z.symm)];exact dE (p:=(k,y)) e
 | p::r,hn=>by
  rw [List.cons_append]
  have hk:¬p.1=k:=fun z=>by rw [dH z] at hn;cases hn
  rw [dE hk] at hn
  have ih:=u9 k j y r hn
  by_cases e:p.1=j
  · rw [dH e,dH e,if_neg (fun z=>hk (e.trans z))]
  · rw [dE e,dE e,ih]
theorem Ez (aK:List (κ×V)) (k j:κ) (y:V):dc (putK aK k y) j=if j=k then some y else dc aK j:=by
 unfold putK
 by_cases a:(aK.any fun kv=>decide (kv.1=k))=true
 · rw [if_pos a,yt]
   rw [mW] at a
   by_cases e:j=k
   · obtain⟨x,hx⟩:=Option.isSome_iff_exists.mp a
     rw [if_pos e,e,hx,Option.map_some,if_pos rfl]
   · rw [if_neg e]
     cases dc aK j with
     | none=>rfl
     | some x=>rw [Option.map_some,if_neg e]
 · rw [if_neg a]
   refine u9 k j y aK ?_
   rw [mW] at a
   cases q:dc aK k with
   | none=>rfl
   | some x=>rw [q] at a;exact(a rfl).elim
theorem jH (aK:List (κ×V)) (k:κ) (v:V):(putK aK k v).length≤aK.length+1:=by
 unfold putK
 split
 · rw [List.length_map];omega
 · rw [List.length_append,List.length_cons,List.length_nil];omega
theorem qD.kU {o:Option V}{u:Option Value} (r:qD o u):o.isSome=u.isSome:=by
 cases o with
 | none=>cases u with
  | none=>rfl
  | some _=>exact(show False from r).elim
 | some _=>cases u with
  | none=>exact(show False from r).elim
  | some _=>rfl
theorem qD.getD {o:Option V}{u:Option Value}{d:V}{d':Value} (r:qD o u) (rd:RelV d d'):RelV (o.getD d) (u.getD d'):=by
 cases o with
 | none=>cases u with
  | none=>exact rd
  | some _=>exact(show False from r).elim
 | some _=>cases u with
  | none=>exact(show False from r).elim
  | some _=>exact r
theorem KV.val {aK:List (κ×V)}{vs:List (κ×Value)} (r:KV aK vs) (k:κ):qD (dc aK k) (valueAt vs k):=by
 unfold KV at r
 induction r with
 | nil=>exact True.intro
 | @cons p q ps qs h t ih=>
  obtain⟨h1,h2⟩:=h
  by_cases e:p.1=k
  · have e':q.1=k:=h1.symm.trans e
    have b:valueAt (q::qs) k=some q.2:=by simp [valueAt,List.find?_cons,e']
    rw [dH e,b];exact h2
  · have e':¬q.1=k:=fun z=>e (h1.trans z)
    have b:valueAt (q::qs) k=valueAt qs k:=by simp [valueAt,List.find?_cons,e']
    rw [dE e,b];exact ih
theorem KV.any {aK:List (κ×V)}{vs:List (κ×Value)} (r:KV aK vs) (k:κ):(aK.any fun kv=>decide (kv.1=k))=vs.any fun kv=>decide (kv.1=k):=by
 unfold KV at r
 induction r with
 | nil=>rfl
 | cons h t ih=>rw [List.any_cons,List.any_cons,ih,h.1]
theorem KV.Nv {aK:List (κ×V)}{vs:List (κ×Value)} (r:KV aK vs) (k:κ) {y:V}{u:Value} (ry:RelV y u) :
 KV (aK.map fun kv=>if kv.1=k then (kv.1,y) else kv) (vs.map fun kv=>if kv.1=k then (kv.1,u) else kv):=by
 unfold KV at r ⊢
 induction r with
 | nil=>exact .nil
 | @cons p q ps qs h t ih=>
  rw [List.map_cons,List.map_cons]
  refine .cons ?_ ih
  obtain⟨h1,h2⟩:=h
  by_cases e:p.1=k
  · rw [if_pos e,if_pos (h1.symm.trans e)];exact⟨h1,ry⟩
  · rw [if_neg e,if_neg (fun z=>e (h1.trans z))];exact⟨h1,h2⟩
theorem KV.put {aK:List (κ×V)}{vs:List (κ×Value)} (r:KV aK vs) (k:κ) {y:V}{u:Value} (ry:RelV y u):KV (putK aK k y) (stored vs k u):=by
 unfold putK stored
 rw [r.any k]
 by_cases e:(vs.any fun kv=>decide (kv.1=k))=true
 · rw [if_pos e,if_pos e];exact r.Nv k ry
 · rw [if_neg e,if_neg e];exact Paired.snoc r ⟨rfl,ry⟩
theorem KV.drop {aK:List (κ×V)}{vs:List (κ×Value)} (r:KV aK vs) (k:κ):KV (Kq aK k) (without vs k):=by
 unfold KV at r ⊢
 unfold Kq without
 induction r with
 | nil=>exact .nil
 | @cons p q ps qs h t ih=>
  obtain⟨h1,h2⟩:=h
  rw [List.filter_cons,List.filter_cons]
  by_cases e:p.1=k
  · have a:¬decide (p.1≠k)=true:=by simp [e]
    have b:¬decide (q.1≠k)=true:=by simp [h1.symm.trans e]
    rw [if_neg a,if_neg b];exact ih
  · have e':¬q.1=k:=fun z=>e (h1.trans z)
    have a:decide (p.1≠k)=true:=by simp [e]
    have b:decide (q.1≠k)=true:=by simp [e']
    rw [if_pos a,if_pos b];exact .cons ⟨h1,h2⟩ ih
theorem KV.keys {aK:List (κ×V)}{vs:List (κ×Value)} (r:KV aK vs):aK.map (·.1)=vs.map (·.1):=by
 unfold KV at r
 induction r with
 | nil=>rfl
 | cons h t ih=>rw [List.map_cons,List.map_cons,ih,h.1]
theorem KV.length {aK:List (κ×V)}{vs:List (κ×Value)} (r:KV aK vs):aK.length=vs.length:=Paired.length r
end
theorem x5 {P:Program}{w:World}{k:Key}{u:Value} (r:RelV (kV k) u):(bY P w).is k u=true:=by
 cases k with
 | inl i=>obtain⟨t,e⟩:=(show ∃t,u=Value.int i t from r);subst e;exact yv P w i t
 | inr x=>obtain⟨t,e⟩:=(show ∃t,u=Value.str x t from r);subst e;exact yA P w x t
theorem uh {P:Program}{w:World}:∀{ks:List Key}{us:List Value},Vals (ks.map kV) us→ItemsAre (bY P w) ks us
 | [],_,r=>by rw [List.map_nil] at r;cases r;exact .nil
 | k::ks,_,r=>by
  rw [List.map_cons] at r
  cases r with
  | cons h t=>exact .cons (x5 h) (uh t)
noncomputable abbrev KT (H:Hp):List (List Key×V)→List (List Key×Addr×Value)→Prop:=Paired fun p q=>p.1=q.1∧H q.2.1=some (.tup (p.1.map kV))∧RelV p.2 q.2.2
theorem KT.val {H:Hp}{aK:List (List Key×V)}{xs:List (List Key×Addr×Value)} (r:KT H aK xs) (k:List Key):qD (dc aK k) ((atKey xs k).map (·.2)):=by
 induction r with
 | nil=>exact True.intro
 | @cons p q ps qs h t ih=>
  obtain⟨h1,_,h2⟩:=h
  by_cases e:p.1=k
  · have e':q.1=k:=h1.symm.trans e
    have b:atKey (q::qs) k=some q.2:=by simp [atKey,List.find?_cons,e']
    rw [dH e,b];exact h2
  · have e':¬q.1=k:=fun z=>e (h1.trans z)
    have b:atKey (q::qs) k=atKey qs k:=by simp [atKey,List.find?_cons,e']
    rw [dE e,b];exact ih
theorem KT.Nv {H:Hp}{aK:List (List Key×V)}{xs:List (List Key×Addr×Value)} (r:KT H aK xs) (k:List Key) {y:V}{u:Value} (ry:RelV y u) :
 KT H (aK.map fun kv=>if kv.1=k then (kv.1,y) else kv) (xs.map (putAt k u)):=by
 induction r with
 | nil=>exact .nil
 | @cons p q ps qs h t ih=>
  rw [List.map_cons,List.map_cons]
  refine .cons ?_ ih
  obtain⟨h1,h2,h3⟩:=h
  unfold putAt
  by_cases e:p.1=k
  · rw [if_pos e,if_pos (h1.symm.trans e)];exact⟨h1,h2,ry⟩
  · rw [if_neg e,if_neg (fun z=>e (h1.trans z))];exact⟨h1,h2,h3⟩
theorem KT.put {H:Hp}{aK:List (List Key×V)}{xs:List (List Key×Addr×Value)} (r:KT H aK xs) (k:List Key) {b:Addr}{y:V}{u:Value} (hb:H b=some (.tup (k.map kV))) (ry:RelV y u) :
 KT H (putK aK k y) (storedH xs k b u):=by
 have e:(aK.any fun kv=>decide (kv.1=k))=(atKey xs k).isSome:=by
  rw [mW,(r.val k).kU,Option.isSome_map]
 unfold putK storedH
 rw [e]
 by_cases q:(atKey xs k).isSome=true
 · rw [if_pos q,if_pos q];exact r.Nv k ry
 · rw [if_neg q,if_neg q];exact Paired.snoc r ⟨rfl,hb,ry⟩
theorem KT.keeps {H H':Hp}{aK:List (List Key×V)}{xs:List (List Key×Addr×Value)} (r:KT H aK xs) (ht:∀b ys,H b=some (.tup ys)→H' b=some (.tup ys)):KT H' aK xs:=
 Paired.Lj r fun _ _ z=>⟨z.1,ht _ _ z.2.1,z.2.2⟩
section
variable {P : Program} {w : World} {H : Hp} {h : Heap} {a : Addr}
theorem Kj {u:HO} (ok:fN P w H h) (e:Rd H a u):bS P w H h a u:=e.ok ok
theorem J6 {aK:List (Key×V)} (ok:fN P w H h) (e:Rd H a (.dK aK)):aK.length≤sizeLine∧(a==sysModules)=false∧∃vs,KV aK vs∧h.DictOf (bY P w) a vs:=
 show bS P w H h a (.dK aK) from Kj ok e
theorem P0 {aK:List (Key×V)} (ok:fN P w H h) (e:H a=some (.dK aK)):aK.length≤sizeLine∧(a==sysModules)=false∧∃vs,KV aK vs∧h.DictOf (bY P w) a vs:=J6 ok (.inl e)
theorem zX {ks:List Key} (ok:fN P w H h) (e:H a=some (.tup (ks.map kV))):(tupleKind (bY P w)).is h ks a:=by
 obtain⟨_,aq,r,o,h1,h2,n,h3⟩:=(show bS P w H h a (.tup (ks.map kV)) from ok a _ e)
 exact⟨o,aq.toArray,n,h1,h2,h3,by simpa using uh r⟩
theorem KY {aK:List (List Key×V)} (ok:fN P w H h) (e:Rd H a (.dT aK)):aK.length≤sizeLine∧(a==sysModules)=false∧
 ∃xs,KT H aK xs∧h.DictOfH (tupleKind (bY P w)) a xs:=by
 obtain⟨z,y,xs,r,o,es,ep,h1,h2,h3,h4,h5⟩:=(show bS P w H h a (.dT aK) from Kj ok e)
 refine⟨z,y,xs,r,o,es,ep,h1,h2,h3,h4,fun x hx=>?_,h5⟩
 have all:∀{l:List (List Key×V)}{m:List (List Key×Addr×Value)},KT H l m→∀x∈m,(tupleKind (bY P w)).is h x.1 x.2.1:=by
  intro l m q
  induction q with
  | nil=>intro x hx;exact nomatch hx
  | @cons p q ps qs hq t ih=>
   intro x hx
   rcases List.mem_cons.mp hx with e|hx
   · subst e
     exact zX ok (by rw [←hq.1];exact hq.2.1)
   · exact ih x hx
 exact all r x hx
theorem QZ {aK:List (List Key×V)} (ok:fN P w H h) (e:H a=some (.dT aK)):aK.length≤sizeLine∧(a==sysModules)=false∧
 ∃xs,KT H aK xs∧h.DictOfH (tupleKind (bY P w)) a xs:=KY ok (.inl e)
end
noncomputable def tN (H:Hp) (a:Addr) (y:V) (r:Option V):Prop:=
 (∃aK k,Rd H a (.dK aK)∧y=kV k∧r=dc aK k)∨∃aK k b,Rd H a (.dT aK)∧y = .ref b∧H b=some (.tup (k.map kV))∧r=dc aK k
noncomputable def xC (H:Hp) (a:Addr) (y v:V) (H':Hp):Prop:=
 (∃aK k,H a=some (.dK aK)∧y=kV k∧aK.length<sizeLine∧H'=upd H a (.dK (putK aK k v))) ∨
 ∃aK k b,H a=some (.dT aK)∧y = .ref b∧H b=some (.tup (k.map kV))∧aK.length<sizeLine∧H'=upd H a (.dT (putK aK k v))
theorem tN.k {H:Hp}{a:Addr}{aK:List (Key×V)}{k:Key} (e:H a=some (.dK aK)):tN H a (kV k) (dc aK k):=.inl ⟨aK,k,.inl e,rfl,rfl⟩
theorem tN.t {H:Hp}{a b:Addr}{aK:List (List Key×V)}{k:List Key} (e:H a=some (.dT aK)) (eb:H b=some (.tup (k.map kV))):tN H a (.ref b) (dc aK k):=.inr ⟨aK,k,b,.inl e,rfl,eb,rfl⟩
theorem xC.k {H:Hp}{a:Addr}{aK:List (Key×V)}{k:Key}{v:V} (e:H a=some (.dK aK)) (hl:aK.length<sizeLine):xC H a (kV k) v (upd H a (.dK (putK aK k v))):=.inl ⟨aK,k,e,rfl,hl,rfl⟩
theorem xC.t {H:Hp}{a b:Addr}{aK:List (List Key×V)}{k:List Key}{v:V} (e:H a=some (.dT aK)) (eb:H b=some (.tup (k.map kV))) (hl:aK.length<sizeLine) :
 xC H a (.ref b) v (upd H a (.dT (putK aK k v))):=.inr ⟨aK,k,b,e,rfl,eb,hl,rfl⟩
section
variable {X : Cx} {pins : List (Addr × Obj)} {σ : St} {H : Hp} {s : Shared} {a : Addr} {y v : V} {u r : Value} {o : Option V} {A : Around} {E : Value→Shared→Prop}
theorem Inv.big (I:Inv X pins σ H s):sysModules<s.heap.objs.size:=by
 have h:mainGlobals<s.heap.objs.size:=(I.mod.glob.keeps I.bk).lt
 exact Nat.lt_trans (by decide) h
theorem Xu {Q:Value→Shared→Prop} (hu:A.units+1<cLine) (I:Inv X pins σ H s) (g:tN H a y o) (ry:RelV y u) (h:∀s',Inv X pins σ H s'→Q (.bool o.isSome) s') :
 wpAny (model X.prog X.w) A (compareOp .In u (.ref a)) Q E s:=by
 rcases g with ⟨aK,k,e,ey,l⟩|⟨aK,k,b,e,ey,eb,l⟩
 · subst ey
   obtain⟨z,hd,vs,rel,dd⟩:=J6 I.aO e
   refine wpAny_in_of (x5 ry) hd dd.mapOf ?_
   rw [←(rel.val k).kU,←l]
   exact h _ (I.tok _)
 · subst ey
   cases (show u=Value.ref b from ry)
   obtain⟨z,hd,xs,rel,dd⟩:=KY I.aO e
   refine wpAny_in_heap (tupleKind_room_in1 hu) (zX I.aO eb) hd dd ?_
   have q:=(rel.val k).kU
   rw [Option.isSome_map] at q
   rw [←q,←l]
   exact h _ (I.tok _)
theorem BI {h':Heap}{t':Nat}{ob:HO} (I:Inv X pins σ H s) (mu:QB (H a)) (hs:Heap.SameBut a s.heap h') (he:∃q,h'.get? a=some q) (new:bS X.prog X.w (upd H a ob) h' a ob) :
 Inv X pins σ (upd H a ob) {s with heap:=h',toks:=t'}:=
 I.write (x:=a) (e:=a) mu (.inl rfl) (fun b q hb z=>(hs.2 b hb).trans z) he new
theorem MO {P:Program}{w:World}{H':Hp}{h':Heap}{aK:List (Key×V)}{vs:List (Key×Value)} (z:aK.length≤sizeLine) (hd:(a==sysModules)=false) (rel:KV aK vs) (dd:h'.DictOf (bY P w) a vs) :
 bS P w H' h' a (.dK aK):=⟨z,hd,vs,rel,dd⟩
theorem CS {H':Hp}{Q:Unit→Shared→Prop} (hu:A.units+1<cLine) (I:Inv X pins σ H s) (g:xC H a y v H') (ry:RelV y u) (rv:RelV v r) (h:∀s',Inv X pins σ H' s'→Q () s') :
 wpAny (model X.prog X.w) A (setItem (.ref a) u r) Q E s:=by
 rcases g with ⟨aK,k,e,ey,l,eH⟩|⟨aK,k,b,e,ey,eb,l,eH⟩
 · subst ey eH
   obtain⟨z,hd,vs,rel,dd⟩:=P0 I.aO e
   have hz:vs.length≤sizeLine:=by rw [←rel.length];exact z
   have hl:(putK aK k v).length≤sizeLine:=by have:=jH aK k v;omega
   refine wpAny_setItem_pairs (hsz:=hz) (x5 ry) dd fun h' Of hs=>h _ ?_
   have he:∃q,h'.get? a=some q:=let ⟨q,_,_,hq,_⟩:=Of;⟨q,hq⟩
   exact BI I (by rw [e];exact True.intro) hs he (MO hl hd (rel.put k rv) Of)
 · subst ey eH
   cases (show u=Value.ref b from ry)
   obtain⟨z,hd,xs,rel,dd⟩:=QZ I.aO e
   have hz:xs.length≤sizeLine:=by rw [←Paired.length rel];exact z
   have hl:(putK aK k v).length≤sizeLine:=by have:=jH aK k v;omega
   refine wpAny_setItem_heap (hsz:=hz) (tupleKind_room_in1 hu) (zX I.aO eb) dd fun h' Of hs=>h _ ?_
   obtain⟨q,es,ep,hq,h2,h3,h4,_,h5⟩:=Of
   refine BI I (by rw [e];exact True.intro) hs ⟨q,hq⟩ ⟨hl,hd,_,(rel.put k eb rv).keeps fun c ys ec=>?_,q,es,ep,hq,h2,h3,h4,h5⟩
   rw [aL (lM ec e (fun z=>nomatch z))]
   exact ec
end
section
variable {X : Cx} {pins : List (Addr × Obj)} {σ : St} {H : Hp} {s : Shared} {a : Addr} {aK : List (Key × V)} {k : Key} {u : Value} {A : Around} {E : Value→Shared→Prop}
end
noncomputable def PR (i:Expr):Prop:=∀ov iv,subscripted i false ov iv=operate [ov,iv] (getItem ov iv)
theorem Ib {prog:Program}{w:World}{A:Around}{E:Value→Shared→Prop}{s:Shared}{env:Env}{value slice:Expr}{pos:Pos}{T id:String}{Q:Value→Shared→Prop}
 (hl:typeLookup (.type T) "__getitem__"=pure (some (.builtin id))) (hs:PR slice)
 (h:wpAny (model prog w) A (eval value env) (fun o s₁=>wpAny (model prog w) A (eval slice env) (fun i s₂=>s₂.TypeIs o T∧wpAny (model prog w) A (getItem o i) Q E s₂) E s₁) E s) :
 wpAny (model prog w) A (eval (.Subscript value slice pos) env) Q E s:=by
 refine Subscript_ (wpAny_mono h (fun o s₁ h₁=>wpAny_mono h₁ (fun i s₂ h₂=>?_) fun _ _ x=>x) fun _ _ x=>x)
 obtain⟨hT,h₂⟩:=h₂
 unfold subscriptTail
 refine wpAny_bind ?_
 rw [getitemInPython_of_ne hT.not_modules]
 refine wpAny_bind (wpAny_specialOf hT hl ?_)
 have fin:wpAny (model prog w) A (subscripted slice false o i) (fun r s₃=>wpAny (model prog w) A (letTemporaryGo value o r >>= fun _=>pure r) Q E s₃) E s₂:=by
  rw [hs o i]
  exact wpAny_operating (wpAny_mono h₂ (fun r s₃ h₃=>wpAny_bind (wpAny_letTemporaryGo (wpAny_pure h₃))) fun _ _ x=>x)
 first
  | exact wpAny_pure (wpAny_bind fin)
  | exact wpAny_bind (wpAny_pure (wpAny_bind fin))
  | exact wpAny_bind fin
noncomputable def N9 (ty td:TE):TE:=fun σ H Q=>ty σ H fun y H1=>td σ H1 fun x H2=>∃a o,x = .ref a∧tN H2 a y o∧Q (.bl o.isSome) H2
noncomputable def Kw (td ty tv:TE):TS:=fun D σ H=>tv σ H fun v H1=>td σ H1 fun x H2=>ty σ H2 fun y H3=>∃a H4,x = .ref a∧xC H3 a y v H4∧D.nx σ H4
section
variable {X : Cx} {o i e value : Expr} {pos pos' Uy : Pos} {td ty tv : TE}
theorem Ll (hu:X.A.units+1<cLine) (hi:PE X i ty) (ho:PE X o td):PC X .In i o (N9 ty td):=by
 intro pins s σ H Q I h
 refine bD (hi pins s σ H _ I h) fun iv s1 ⟨y,H1,I1,ry,q1⟩=>bD (ho pins s1 σ H1 _ I1 q1) fun u s2 ⟨x,H2,I2,rx,a,ov,ex,g,q2⟩=>?_
 subst ex
 obtain rfl:u=Value.ref a:=rx
 exact Xu hu I2 g ry fun s3 I3=>⟨.bl ov.isSome,H2,I3,rfl,q2⟩
theorem IU (hu:X.A.units+1<cLine) (ho:PE X o td) (hi:PE X i ty) (hv:PE X value tv) (hs:swapsWith value (some (.Subscript o i pos')) pos.line X.env=pure false) :
 PS X (.Assign [.Subscript o i pos'] value pos) (Kw td ty tv):=by
 intro pins s σ H D I h
 refine wpAny_Assign_Subscript (bD (hv pins s σ H _ I h) fun r s1 ⟨v,H1,I1,rv,q1⟩=>bD (ho pins s1 σ H1 _ I1 q1) fun u s2 ⟨x,H2,I2,rx,q2⟩=>bD (hi pins s2 σ H2 _ I2 q2) fun iv s3 ⟨y,H3,I3,ry,a,H4,ex,g,q3⟩=>?_) hs
 subst ex
 obtain rfl:u=Value.ref a:=rx
 exact CS hu I3 g ry rv fun s4 I4=>⟨σ,H4,I4,q3⟩
end
theorem EO {P:Program}{w:World}{H:Hp} (h:Heap) (hb:sysModules<h.objs.size):bS P w H (h.push {cls:=.type "dict",data:=.dict #[]}) h.objs.size (.dK []):=
 ⟨Nat.zero_le _,beq_eq_false_iff_ne.mpr (Ne.symm (Nat.ne_of_lt hb)),[],.nil,Heap.DictOf.new h⟩
noncomputable def EF:TE:=fun _ H Q=>∀p,H p=none→Q (.ref p) (upd H p (.dK []))
section
variable {X : Cx} {pos : Pos}
theorem Ga:PE X (.Dict [] [] pos) EF:=fun pins s σ H Q I h=>
 wpAny_Dict_empty ⟨.ref s.heap.objs.size,_,I.laid (a:=s.heap.objs.size) (o:=.dK []) (t':=s.toks) (fun _ _ q=>Heap.get?_push_of_some _ q) (Nat.le_refl _) (EO s.heap I.big),rfl,h _ (I.aO.fresh (Nat.le_refl _))⟩
end
noncomputable def MN (aK more:List (Key×V)):List (Key×V):=more.foldl (fun acc kv=>putK acc kv.1 kv.2) aK
theorem KV.merge:∀{more:List (Key×V)}{rs:List (Key×Value)}{aK:List (Key×V)}{vs:List (Key×Value)},KV more rs→KV aK vs→KV (MN aK more) (merged vs rs):=by
 intro more rs aK vs r
 unfold KV at r
 induction r generalizing aK vs with
 | nil=>intro q;exact q
 | @cons p q ps qs h t ih=>
  intro r0
  have e:KV (putK aK p.1 p.2) (stored vs q.1 q.2):=by
   have:=r0.put p.1 h.2
   rw [←h.1];exact this
  exact ih e
structure M1 (X:Cx) (o:Expr) (m:Str) (apos:Pos) (e:Expr) (eY:Pos):Prop where
 base:attributeBase o m X.env (eval o X.env)=eval o X.env
 qH:((backTo eY (starEach [e] X.env)).all (fun x=>!x.1)&&(backToKw eY (keywordEach [] X.env)).all (fun x=>x.1.isSome)
  && decide (([e]:List Expr).length+([]:List Keyword).length+(if ([]:List Keyword).isEmpty then 0 else 1)<30))=true
 line:(apos.endLine==eY.line)=true
 trees:backTo eY (starEach [e] X.env)=[(false,eval e X.env)]
structure M2 (X:Cx) (o:Expr) (m:Str) (apos:Pos) (e f:Expr) (eY:Pos):Prop where
 base:attributeBase o m X.env (eval o X.env)=eval o X.env
 qH:((backTo eY (starEach [e,f] X.env)).all (fun x=>!x.1)&&(backToKw eY (keywordEach [] X.env)).all (fun x=>x.1.isSome)
  && decide (([e,f]:List Expr).length+([]:List Keyword).length+(if ([]:List Keyword).isEmpty then 0 else 1)<30))=true
 line:(apos.endLine==eY.line)=true
 trees:backTo eY (starEach [e,f] X.env)=[(false,eval e X.env),(false,eval f X.env)]
section
variable {X : Cx} {pins : List (Addr × Obj)} {σ : St} {H : Hp} {s : Shared} {a : Addr} {y d : V} {u r : Value} {o : Option V} {A : Around} {E : Value→Shared→Prop}
end
section
variable {X : Cx} {o e f : Expr} {apos eY : Pos} {td ty tx : TE}
end
section
variable {X : Cx} {pins : List (Addr × Obj)} {σ : St} {H : Hp} {s : Shared} {a : Addr} {aK : List (Key × V)} {A : Around} {E : Value→Shared→Prop}
end
section
variable {X : Cx} {pins : List (Addr × Obj)} {σ : St} {H : Hp} {s : Shared} {a : Addr} {y : V} {u : Value} {A : Around} {E : Value→Shared→Prop}
end
end L2
namespace Att
open PySem PySem.W PySem.Calls PyProof.Rows
theorem qP {P:Params}{h:Heap}:∀(ns:List Int) (vs:List Value),WellAll P h vs (ns.map WData.int)→IntsAre vs ns:=by
 intro ns
 induction ns with
 | nil=>
  intro vs w
  rw [List.map_nil] at w
  cases w
  exact .nil
 | cons n ns ih=>
  intro vs w
  rw [List.map_cons] at w
  cases w with
  | cons a b=>
   cases a
   exact .cons _ _ (ih _ b)
theorem Dj {l:OpenLaw}{n:Nat} (hn:l.most=some n) {P:Params}{h:Heap}{args:List WData}{vals:List Value}
 (HM:l.row.toRowW.claim.pre args=true) (hwl:WellAll P h vals args) :
 ∃a vs ns,vals=[Value.ref a]∧args=[WData.list (ns.map WData.int)]∧h.get? a=some {cls:=.type "list",data:=.seq vs.toArray}∧IntsAre vs ns∧ns.length≤n:=by
 have hsh:WShape.hasAll [] args [.list .int]=true:=(pre_splitW HM).1
 have hc:l.pre.holds [] {args:=args}=true:=(pre_splitW HM).2
 obtain⟨d,r,rfl,h1,h2⟩:=hasAllW_cons hsh
 obtain rfl:=hasAllW_nil h2
 obtain⟨xs,rfl,h3⟩:=hasW_list h1
 obtain⟨ns,rfl⟩:=items_int h3
 have hlen:ns.length≤n:=by
  unfold OpenLaw.pre at hc
  have h4:(WTm.not (.lt (.lit (.int (n:Int))) (.len (.arg 0)))).holds [] {args:=[.list (ns.map .int)]}=true:=by
   have h4:=(holds_andW hc).1
   rw [hn] at h4
   exact h4
  have h5:=condW_of h4 (w_not (w_lt w_lit (w_len_list (w_arg rfl))))
  rw [List.length_map] at h5
  refine Nat.le_of_not_lt fun q=>?_
  have q':(n:Int)<((ns.length:Nat):Int):=by omega
  first
   | (rw [decide_eq_true q'] at h5;exact absurd h5 (by decide))
   | (simp at h5;omega)
 cases hwl with
 | cons w1 w2=>
  cases w2
  cases w1 with
  | list ho hall=>exact⟨_,_,ns,rfl,rfl,ho,qP ns _ hall,hlen⟩
theorem Ct (l:OpenLaw) (args:List WData):l.row.toRowW.claim.post args (.bool true) args=true:=
 postW_of (r:=l.row.toRowW) (X:=(true==true))
  (show WShape.has [] (.bool true) .bool=true by first|rfl|decide|simp [WShape.has,WShape.arms,WShape.armsAll])
  (show (WTm.eq .res (.lit (.bool true))).value [] {args:=args,res:=some (.bool true),after:=args}=some (.bool (true==true)) from w_eq_bool (w_res rfl) w_lit) rfl
theorem xY {l:OpenLaw}{n:Nat}{q:Program}{loose:List Str}{XP:(Str→Option Value)→Heap→Prop}{YP:World→Heap→Prop}{d:DefRec}
 (hn:l.most=some n) (QT:d.params.defaults=[])
 (call:∀(w:World) (s₀ s₁:Shared) (mg mb:Str→Option Value) (fa:Addr) (o:Obj) (pm cd doc:Value) (a:Addr) (vs:List Value) (ns:List Int),
   Ground q loose [] XP w s₀ mg mb s₁.heap→YP w s₁.heap→
   s₁.heap.get? fa=some o→o.data = .func (docDef d.name d.params d.body d.scope pm cd doc)→s₁.heap.CodeRec cd d.name→mg d.name=some (.ref fa)→
   s₁.heap.get? a=some {cls:=.type "list",data:=.seq vs.toArray}→IntsAre vs ns→ns.length≤n→s₁.gens = #[]→
   codeAny (model l.prog w) callerA (.call (.ref fa) ⟨[.ref a],[]⟩) (fun r s'=>r = .ok (.ret (.bool true))∧OldK s₁.heap s'.heap∧s'.os=s₁.os∧AllBare s'.gens) s₁) :
 WalkO q loose XP YP l.row.toRowW d [] (fun f vs=>PySem.call f vs):=by
 intro w s₀ s₁ mg mb G Y fa o pm cd doc dV kV ho hd De hD Ql hg args vals as HM adt hrd hwl hlo
 obtain rfl:dV = .none:=Dflts.none hD QT
 obtain rfl:kV = .none:=Dflts.noKw hD
 obtain⟨a,vs,ns,rfl,rfl,MF,hints,hlen⟩:=Dj hn HM hwl
 refine enter_call (codeAny_mono (call w s₀ s₁ mg mb fa o pm cd doc a vs ns G Y ho (fd_plain hd) De Ql MF hints hlen hg) fun r s' hq=>?_)
 obtain⟨rfl,h2,h3,h4⟩:=hq
 exact⟨.inl ⟨.bool true,.bool true,[],rfl,fun _=>rfl,.bool true,Ct l _,fun _=>⟨List.Pairwise.nil,fun _ hm=>(nomatch hm)⟩⟩,h2,h3,h4⟩
section
variable {prog : Program} {w : World} {A : Around} {E : Value→Shared→Prop} {s : Shared} {K : Frag}
noncomputable def ledger (h:Heap) (L d:Addr):List (Addr×Obj):=(List.range h.objs.size).filterMap fun a=>if a=L∨a=d then none else (h.get? a).map fun o=>(a,o)
end
end Att
namespace L2
open PySem PySem.Spec PyProof.Rows
theorem uD:∀{vs:List Value}{ns:List Int},IntsAre vs ns→Vals (ns.map V.int) vs
 | _,_,.nil=>.nil
 | _,_,.cons n t h=>.cons ⟨t,rfl⟩ (uD h)
noncomputable def MA (H:Hp):Prop:=∀b,H b=none∨∃o xs,H b=some (.frz o (.lst xs))
theorem E3 {P:Program}{w:World}{K:PySem.W.Frag}{mg mb:Str→Option Value}{CX:CXT}{k:Nat}{fa a:Addr}{fd:FuncData}{x:Str}{sp:Sp}{s₁:Shared}{vs:List Value}{ns:List Int}
 (KX:K.In s₁.heap) (NS:s₁.heap.Ns mainGlobals mg) (hb:s₁.heap.Ns builtinsNs mb) (hbb:∀x:Str,x≠"__name__"→mb x=bootBuiltins x) (Ud:s₁.heap.NoLimit) (hg:s₁.gens = #[])
 (ha:s₁.heap.get? a=some {cls:=.type "list",data:=.seq vs.toArray}) (hi:IntsAre vs ns) (hl:ns.length≤sizeLine) (hr:fo k callerA)
 (F:∀base:Heap,K.In base→base.Ns mainGlobals mg→bg P w K mg base CX k fa fd [x] sp) (OE:∀(s:Shared) (u:Value),BindsTo s fd ⟨[u],[]⟩ [(x,u)])
 (lK:∀H:Hp,MA H→fD K H a (ns.map V.int)→sp [.ref a] H (fun v _=>v = .bl true) fun _ _ _=>False)
 (hCX:∀H e s',CX [] H s₁ (fun _ _ _=>False) e s'→False) :
 codeAny (model P w) callerA (.call (.ref fa) ⟨[.ref a],[]⟩) (fun r s'=>r = .ok (.ret (.bool true))∧OldK s₁.heap s'.heap∧s'.os=s₁.os∧AllBare s'.gens) s₁:=by
 have rv:=uD hi
 have YR:=hi.length
 have core:∀H:Hp,MA H→fD K H a (ns.map V.int)→fN P w H s₁.heap→(∀b,H b≠none→b=a)→(H a≠none→K.lookup a=none)→
  codeAny (model P w) callerA (.call (.ref fa) ⟨[.ref a],[]⟩) (fun r s'=>r = .ok (.ret (.bool true))∧OldK s₁.heap s'.heap∧s'.os=s₁.os∧AllBare s'.gens) s₁:=by
  intro H hO hS aO hA hK
  have AX:∀{b:Addr}{o:Obj},s₁.heap.get? b=some o→H b=none→(wB s₁.heap H).get? b=some o:=fun e n=>GS e n
  have PJ:∀{b:Addr}{o:Obj}{es:Array DictEntry}{ep:Nat},s₁.heap.get? b=some o→o.data = .dict es ep→H b=none:=fun {b o es ep} e d=>by
   cases q:H b with
   | none=>rfl
   | some u=>
    have e':b=a:=hA b (by rw [q];simp)
    subst e'
    rw [ha] at e;cases e
    have d':Data.seq vs.toArray _=Data.dict es ep:=d
    cases d'
  have Ry:∀{b:Addr}{m:Str→Option Value},s₁.heap.Ns b m→(wB s₁.heap H).Ns b m:=fun {b m} ⟨o,es,ep,e,d,r⟩=>⟨o,es,ep,AX e (PJ e d),d,r⟩
  have hKb:K.In (wB s₁.heap H):=fun b o e=>AX (KX b o e) (by
   cases q:H b with
   | none=>rfl
   | some u=>
    have e':b=a:=hA b (by rw [q];simp)
    subst e'
    rw [hK (by rw [q];simp)] at e;cases e)
  have hM:Mod K mg (wB s₁.heap H):=⟨hKb,Ry NS,⟨mb,Ry hb,hbb⟩,let ⟨mc,h1,h2⟩:=Ud;⟨mc,Ry h1,h2⟩⟩
  have e0:zJ P w K mg (wB s₁.heap H) callerA [] s₁ H:=⟨rfl,hM,fun b o e=>Jh e,Nat.le_of_eq (Cu _ _),trivial,fun b hb=>absurd (show b∈([]:List Addr) from hb) (by simp),aO,.of_eq hg⟩
  refine codeAny_mono ((F _ hKb (Ry NS)).run callerA [] s₁ H ⟨[.ref a],[]⟩ [.ref a] [.ref a] _ _ hr e0 (OE s₁ (.ref a)) (.cons rfl .nil) (lK H hO hS)) fun r s' h=>?_
  cases r with
  | error e=>exact(hCX H e s' h).elim
  | ok fl=>
   cases fl with
   | next=>exact False.elim h
   | brk=>exact False.elim h
   | cont=>exact False.elim h
   | ret u=>
    obtain⟨v,H',os,bare,un,V6,r',q⟩:=h
    have q':v = .bl true:=q
    subst q'
    obtain rfl:u=Value.bool true:=r'
    refine⟨rfl,OldK.of_keep fun b o e=>?_,os,bare⟩
    cases q:H b with
    | none=>exact un.keep b o e q (by intro z;exact absurd (show b∈([]:List Addr) from z) (by simp)) (by simp)
    | some u=>
     rcases hO b with z|⟨ob,xs,z⟩
     · rw [q] at z;cases z
     · have z2:=un.fk b ob _ z
       obtain⟨e1,_⟩:=aO b _ z
       obtain⟨e2,_⟩:=V6 b _ z2
       rw [e] at e1;cases e1
       exact e2
 cases hk:K.lookup a with
 | some o=>
  have e:=KX a o hk
  rw [ha] at e
  cases e
  refine core (fun _=>none) (fun _=>.inl rfl) (.inr ⟨_,vs.toArray,_,hk,rfl,rfl,rfl,by rw [List.size_toArray,YR];exact hl,by simpa using rv⟩) (fun b u z=>by have z':(none:Option HO)=some u:=z;cases z') (fun b z=>absurd rfl z) fun z=>absurd rfl z
 | none=>
  refine core (fun b=>if b=a then some (.frz {cls:=.type "list",data:=.seq vs.toArray} (.lst (ns.map V.int))) else none) (fun b=>?_) (.inl (.inr ⟨{cls:=.type "list",data:=.seq vs.toArray},if_pos rfl⟩)) (fun b u z=>?_) (fun b z=>?_) fun _=>hk
  · by_cases hb:b=a
    · exact .inr ⟨_,_,if_pos hb⟩
    · exact .inl (if_neg hb)
  · by_cases hb:b=a
    · have z':=(if_pos hb).symm.trans z
      cases z'
      subst hb
      exact⟨ha,by rw [List.length_map];exact hl,vs,_,rv,ha⟩
    · have z':=(if_neg hb).symm.trans z
      cases z'
  · by_cases hb:b=a
    · exact hb
    · exact absurd (if_neg hb) z
end L2
namespace L2
open PySem PySem.Spec PyProof.Rows
noncomputable abbrev KOf {K:PySem.W.Frag}{h:Heap} (_:K.In h):PySem.W.Frag:=K
theorem Iy {l:PySem.W.OpenLaw}{n k:Nat}{q:Program}{loose:List Str}{XP:(Str→Option Value)→Heap→Prop}{YP:World→Heap→Prop}{d:DefRec}{K:Params→PySem.W.Frag}{CX:World→CXT}{sp:World→Sp}{x:Str}
 (hn:l.most=some n) (Kf:n≤sizeLine) (QT:d.params.defaults=[]) (hr:fo k callerA)
 (hY:∀(w:World) (h:Heap),YP w h→(K w.params).In h)
 (F:∀(w:World) (mg:Str→Option Value) (fa:Addr) (h:Heap),(K w.params).In h→h.Ns mainGlobals mg→mg d.name=some (.ref fa)→
   ∃fd:FuncData,(∀(s:Shared) (u:Value),BindsTo s fd ⟨[u],[]⟩ [(x,u)])∧
    ∀base:Heap,(K w.params).In base→base.Ns mainGlobals mg→bg l.prog w (K w.params) mg base (CX w) k fa fd [x] (sp w))
 (lK:∀(w:World) (H:Hp) (a:Addr) (ns:List Int),ns.length≤n→MA H→fD (K w.params) H a (ns.map V.int)→sp w [.ref a] H (fun v _=>v = .bl true) fun _ _ _=>False)
 (hCX:∀(w:World) (H:Hp) (s:Shared) (e:Value) (s':Shared),CX w [] H s (fun _ _ _=>False) e s'→False) :
 PySem.W.WalkO q loose XP YP l.row.toRowW d [] (fun f vs=>PySem.call f vs):=by
 refine Att.xY hn QT fun w s₀ s₁ mg mb fa o pm cd doc a vs ns G Y ho hd De Ql MF hints hlen hg=>?_
 have KX:=hY w _ Y
 obtain⟨fd,hb,hF⟩:=F w mg fa _ KX G.T.g Ql
 exact E3 KX G.T.g G.T.b G.T.builtins G.T.nolimit hg MF hints (Nat.le_trans hlen Kf) hr hF hb (fun H hO hS=>lK w H a ns hlen hO hS) fun H e s'=>hCX w H s₁ e s'
end L2
namespace L2
open PySem PySem.Spec PyProof.Rows
noncomputable def av (s:Stmt):Arguments:=match s with
 | .FunctionDef _ a _ _ _ _ _ _ _ _=>a
 | _=>{posonlyargs:=[],args:=[],vararg:=none,kwonlyargs:=[],kw_defaults:=[],kwarg:=none,defaults:=[]}
noncomputable def au (s:Stmt):List Stmt:=match s with
 | .FunctionDef _ _ b _ _ _ _ _ _ _=>b
 | _=>[]
noncomputable def ah (s:Stmt):Scope:=match s with
 | .FunctionDef _ _ _ _ _ _ sc _ _ _=>sc
 | _=>{kind:=.function,names:=[],isGenerator:=false,isCoroutine:=false}
noncomputable abbrev CX0:CXT:=fun _ _ _ _ _ _=>False
noncomputable abbrev E0:XK:=fun _ _ _=>False
theorem aG {X:Cx}:Passes CX0 X E0:=fun _ _ _ _ _ _ _ h=>h.elim
structure d8 (K:PySem.W.Frag) (x qual:Str) (st:Stmt) (f:Addr) (fd:FuncData):Prop where
 ex:∃(oc:Value) (od:Option Addr) (kV doc pm:Value) (an:Option Addr) (bt ct:Value) (Il:Array (Option Value)),
  fd=PySem.W.fnOf x qual (av st) (au st) (ah st) .none kV doc pm an bt ct∧K.lookup f=some ⟨oc,od,.func fd,Il⟩∧PySem.W.codeIn K bt qual=true
 kp:PySem.W.keepIn K (.ref f)=true
section
variable {P : Program} {w : World} {K : PySem.W.Frag} {mg : Str→Option Value} {base : Heap}
theorem d8.ok {x qual:Str}{st:Stmt}{f:Addr}{fd:FuncData}{N ps:List Str}{k:Nat}{sp:Sp} (F:d8 K x qual st f fd) (S:aD N ps (ah st)) (len:∀vs H Q E,sp vs H Q E→vs.length=ps.length)
 (yo:∀(bt:Value) (A:Around) (outer:List Env) (s:Shared) (H:Hp) (vs:List V) (Q:VK) (E:XK),fo k (A.deeper (envOfC qual (ah st) s.heap.objs.size f bt))→sp vs H Q E→
   ∃t,nz (vR CX0 P w K mg base N qual (ah st) f bt A outer s H E).Jt (au st) t∧t {nx:=fun _ H'=>Q .non H',rt:=Q} (start N vs) H):bg P w K mg base CX0 (k+1) f fd ps sp:=by
 obtain⟨oc,od,kV,doc,pm,an,bt,ct,Il,rfl,lk,De⟩:=F.ex
 refine KQ lk De S len fun A outer s H vs Q E hr lK=>?_
 obtain⟨t,h,q⟩:=yo bt A outer s H vs Q E hr lK
 exact⟨t,h.Jt,q⟩
theorem d8.binds {x qual:Str}{st:Stmt}{f:Addr}{fd:FuncData}{ps:List Str} (F:d8 K x qual st f fd)
 (h:∀(kV doc pm:Value) (an:Option Addr) (bt ct:Value) (us:List Value),us.length=ps.length→bindArgs (PySem.W.fnOf x qual (av st) (au st) (ah st) .none kV doc pm an bt ct) ⟨us,[]⟩=pure (ps.zip us)):Binds K fd ps []:=by
 obtain⟨oc,od,kV,doc,pm,an,bt,ct,Il,rfl,lk,De⟩:=F.ex
 exact .all (h kV doc pm an bt ct)
theorem aS {x qual:Str}{st:Stmt}{f:Addr}{oc:Value}{od an:Option Addr}{Il:Array (Option Value)}{kV doc pm bt ct:Value} (l:K.lookup f=some ⟨oc,od,.func (PySem.W.fnOf x qual (av st) (au st) (ah st) .none kV doc pm an bt ct),Il⟩)
 (c:PySem.W.codeIn K bt qual=true) (k:PySem.W.keepIn K (.ref f)=true):d8 K x qual st f (PySem.W.fnOf x qual (av st) (au st) (ah st) .none kV doc pm an bt ct):=⟨⟨oc,od,kV,doc,pm,an,bt,ct,Il,rfl,l,c⟩,k⟩
end
theorem KO {A:Around}{k:Nat} (hr:fo k A):A.units+1<cLine:=Nat.lt_of_le_of_lt (Nat.add_le_add_left (by decide:1≤64) _) hr.units
section
variable {X : Cx}
theorem pv (i:Nat) {x:Str}{pos:Pos} (hN:X.N[i]? = some x:=by rfl) (hv:Qw X.env.scope x:=by first|exact Or.inl rfl|exact Or.inr (Or.inl rfl)|exact Or.inr (Or.inr rfl)) (hd:(x==("__debug__":Str))=false:=by decide)
 (De:(x==("__classdict__":Str))=false:=by decide):PE X (.Name x pos) (DW i):=M4 hN hv hd De
end
theorem eR {A B:Prop} (h:B):if false=true then A else B:=by
 rw [if_neg Bool.false_ne_true]
 exact h
theorem fT {A B:Prop} (h:A):if true=true then A else B:=by
 rw [if_pos rfl]
 exact h
theorem bO {c A B:Prop} [Decidable c] (h1:c→A) (h2:¬c→B):if c then A else B:=by
 by_cases h:c
 · rw [if_pos h]
   exact h1 h
 · rw [if_neg h]
   exact h2 h
noncomputable def ay (H H':Hp):Prop:=∀b o,H b=some o→H' b=some o
theorem ay.refl (H:Hp):ay H H:=fun _ _ h=>h
theorem ay.trans {H H1 H2:Hp} (a:ay H H1) (b:ay H1 H2):ay H H2:=fun c o h=>b c o (a c o h)
theorem ay.free {H H':Hp} (e:ay H H') {l:Addr} (h:H' l=Option.none):H l=Option.none:=by
 cases q:H l with
 | none=>rfl
 | some o=>
  rw [e l o q] at h
  cases h
theorem ay.seq {K:PySem.W.Frag}{H H':Hp}{a:Addr}{xs:List V} (e:ay H H') (h:fD K H a xs):fD K H' a xs:=by
 rcases h with (h|⟨o,h⟩)|h
 · exact .inl (.inl (e _ _ h))
 · exact .inl (.inr ⟨o,e _ _ h⟩)
 · exact .inr h
section
variable {κ : Type} [DecidableEq κ]
end
end L2
namespace M
noncomputable def cn (i:Int):Nat:=97+(i % 26).toNat
noncomputable def bM (c:Int) (many:Nat):Nat:=1+(c / 26 % (if 24<many then 7 else 8)).toNat
noncomputable def nm (c:Int) (many k:Nat):List Nat:=
 if c / 1664 % 3=0∧many≤8 then List.replicate (1+((c+k) % 8).toNat) (cn c)
 else
  let b:=(List.replicate (bM c many) (cn c)).set (c / 208 % bM c many).toNat (cn (c+1+(k % 24:Nat)))
  if 23<k then b++[cn c] else b
theorem nQ (i:Int):97≤cn i:=by unfold cn;omega
theorem nJ (i:Int):cn i≤122:=by unfold cn;omega
theorem oR (c:Int) (many:Nat):1≤bM c many:=by unfold bM;omega
theorem og (c:Int) (many:Nat):bM c many≤8∧(24<many→bM c many≤7):=by
 unfold bM
 split<;>omega
noncomputable def good (l:List Nat):Prop:=1≤l.length∧l.length≤8∧∀x∈l,97≤x∧x≤122
theorem Ae {α:Type}{l:List α}{i:Nat}{a x:α} (h:x∈l.set i a):x=a∨x∈l:=by
 rcases List.mem_or_eq_of_mem_set h with h|h
 · exact .inr h
 · exact .inl h
theorem JD {c:Int}{many k:Nat} (hk:k<many):good (nm c many k):=by
 have s1:=oR c many
 have s2:=og c many
 unfold nm
 split
 · refine⟨by simp,by simp;omega,fun x hx=>?_⟩
   have e:=(List.mem_replicate.mp hx).2
   rw [e];exact⟨nQ c,nJ c⟩
 · have all:∀x∈(List.replicate (bM c many) (cn c)).set (c / 208 % bM c many).toNat (cn (c+1+(k % 24:Nat))),97≤x∧x≤122:=fun x hx=>by
    rcases Ae hx with e|hx
    · rw [e];exact⟨nQ _,nJ _⟩
    · have e:=(List.mem_replicate.mp hx).2
      rw [e];exact⟨nQ c,nJ c⟩
   dsimp only
   split
   · refine⟨by simp,by simp;omega,fun x hx=>?_⟩
     rcases List.mem_append.mp hx with h|h
     · exact all x h
     · have e:=List.mem_singleton.mp h
       rw [e];exact⟨nQ c,nJ c⟩
   · exact⟨by simpa using s1,by simp;omega,all⟩
theorem ur {i j:Int} (h:cn i=cn j):i % 26=j % 26:=by unfold cn at h;omega
theorem Eu (c:Int) (n:Nat) (h:1≤n):(c / 208 % n).toNat<n:=by
 have h1:0≤c / 208 % (n:Int):=Int.emod_nonneg _ (by omega)
 have h2:c / 208 % (n:Int)<n:=Int.emod_lt_of_pos _ (by omega)
 omega
theorem K6 {c:Int}{many k k':Nat} (hm:many≤32) (hk:k<many) (hk':k'<many) (h:nm c many k=nm c many k'):k=k':=by
 have s1:=oR c many
 have hp:=Eu c (bM c many) s1
 unfold nm at h
 split at h
 · have e:=congrArg List.length h
   simp at e
   omega
 · dsimp only at h
   have get:∀(a:Nat) (t:List Nat),((List.replicate (bM c many) (cn c)).set (c / 208 % bM c many).toNat a++t)[(c / 208 % bM c many).toNat]? = some a:=fun a t=>by
    rw [List.getElem?_append_left (by simpa using hp),List.getElem?_set_self (by simpa using hp)]
   have aa4:∀(a:Nat),((List.replicate (bM c many) (cn c)).set (c / 208 % bM c many).toNat a)[(c / 208 % bM c many).toNat]? = some a:=fun a=>by
    rw [List.getElem?_set_self (by simpa using hp)]
   split at h<;>split at h
   · have e:=congrArg (fun l=>l[(c / 208 % bM c many).toNat]?) h
     simp only [get] at e
     have e:=ur (Option.some.inj e)
     omega
   · have e:=congrArg List.length h
     simp at e
   · have e:=congrArg List.length h
     simp at e
   · have e:=congrArg (fun l=>l[(c / 208 % bM c many).toNat]?) h
     simp only [aa4] at e
     have e:=ur (Option.some.inj e)
     omega
inductive Tr (α:Type) where
 | leaf (x:α)
 | knot (f:α) (l r:Tr α)
namespace Tr
variable {α : Type}
noncomputable def lv:Tr α→List α
 | .leaf x=>[x]
 | .knot _ l r=>l.lv++r.lv
noncomputable def kn:Tr α→List α
 | .leaf _=>[]
 | .knot f l r=>f::(l.kn++r.kn)
noncomputable def dp:Tr α→Nat
 | .leaf _=>1
 | .knot _ l r=>max l.dp r.dp+1
noncomputable def i7:Tr α→Bool
 | .leaf _=>true
 | .knot _ _ _=>false
noncomputable def name:Tr α→α
 | .leaf x=>x
 | .knot f _ _=>f
noncomputable def pl:Tr α→List (List Nat)
 | .leaf _=>[[]]
 | .knot _ l r=>[]::(l.pl.map (0 :: ·)++r.pl.map (1 :: ·))
noncomputable def sub:Tr α→List Nat→Option (Tr α)
 | t,[]=>some t
 | .leaf _,_::_=>none
 | .knot _ l r,i::p=>if i=0 then l.sub p else if i=1 then r.sub p else none
noncomputable def wk:Tr α→List Nat→List (List Nat×Tr α)
 | .leaf x,p=>[(p,.leaf x)]
 | .knot f l r,p=>(p,.knot f l r)::(l.wk (p++[0])++r.wk (p++[1]))
theorem Es (t:Tr α):1≤t.lv.length:=by
 induction t with
 | leaf x=>simp [lv]
 | knot f l r ihl ihr=>simp [lv];omega
theorem sA (t:Tr α):1≤t.dp:=by cases t<;>simp [dp]
theorem Kn (t:Tr α):t.dp≤t.lv.length:=by
 induction t with
 | leaf x=>simp [lv,dp]
 | knot f l r ihl ihr=>
  have:=l.Es
  have:=r.Es
  simp [lv,dp];omega
theorem O6 (t:Tr α):∀p,(t.wk p).map (·.1)=t.pl.map (p ++ ·):=by
 induction t with
 | leaf x=>intro p;simp [wk,pl]
 | knot f l r ihl ihr=>
  intro p
  simp only [wk,pl,List.map_cons,List.map_append,ihl,ihr,List.append_nil,List.map_map]
  congr 1
  congr 1
  · apply List.map_congr_left;intro a _;simp
  · apply List.map_congr_left;intro a _;simp
theorem mZ (t:Tr α):t.pl=(t.wk []).map (·.1):=by rw [O6];simp
theorem Lx (t:Tr α):∀p q s,(q,s)∈t.wk p→∃q',q=p++q'∧t.sub q'=some s:=by
 induction t with
 | leaf x=>
  intro p q s h
  simp only [wk,List.mem_singleton,Prod.mk.injEq] at h
  exact⟨[],by simp [h.1],by simp [sub,h.2]⟩
 | knot f l r ihl ihr=>
  intro p q s h
  simp only [wk,List.mem_cons,List.mem_append,Prod.mk.injEq] at h
  rcases h with ⟨h1,h2⟩|h|h
  · exact⟨[],by simp [h1],by simp [sub,h2]⟩
  · obtain⟨q',e,hs⟩:=ihl _ _ _ h
    exact⟨0::q',by simp [e],by simp [sub,hs]⟩
  · obtain⟨q',e,hs⟩:=ihr _ _ _ h
    exact⟨1::q',by simp [e],by simp [sub,hs]⟩
theorem h8 {t s:Tr α}{q:List Nat} (h:(q,s)∈t.wk []):t.sub q=some s:=by
 obtain⟨q',e,hs⟩:=Lx t _ _ _ h
 simpa [e] using hs
theorem BC (t:Tr α):∀p,((t.wk p).filter (fun q=>q.2.i7)).map (fun q=>q.2.name)=t.lv:=by
 induction t with
 | leaf x=>intro p;simp [wk,i7,lv,name]
 | knot f l r ihl ihr=>
  intro p
  have e:(Tr.knot f l r).i7=false:=rfl
  simp only [wk,lv,List.filter_cons,e,List.filter_append,List.map_append,ihl,ihr]
  simp [ihl,ihr]
theorem vk (t:Tr α):∀p,(t.wk p).length+1=2*t.lv.length:=by
 induction t with
 | leaf x=>intro p;simp [wk,lv]
 | knot f l r ihl ihr=>
  intro p
  have h1:=ihl (p++[0])
  have h2:=ihr (p++[1])
  simp only [wk,lv,List.length_cons,List.length_append]
  omega
theorem Lb (t:Tr α):t.pl.length+1=2*t.lv.length:=by
 rw [mZ,List.length_map];exact t.vk []
theorem AI (t:Tr α):∀p q s,(q,s)∈t.wk p→q.length+s.dp≤p.length+t.dp:=by
 induction t with
 | leaf x=>
  intro p q s h
  simp only [wk,List.mem_singleton,Prod.mk.injEq] at h
  simp [h.1,h.2]
 | knot f l r ihl ihr=>
  intro p q s h
  simp only [wk,List.mem_cons,List.mem_append,Prod.mk.injEq] at h
  rcases h with ⟨h1,h2⟩|h|h
  · simp [h1,h2]
  · have:=ihl _ _ _ h;simp [dp] at this ⊢;omega
  · have:=ihr _ _ _ h;simp [dp] at this ⊢;omega
end Tr
noncomputable def firstOf {α:Type} [DecidableEq α] (x:α):List (List Nat×Tr α)→Option (List Nat)
 | []=>none
 | q::r=>if q.2.i7∧q.2.name=x then some q.1 else firstOf x r
noncomputable def Ku (j:Nat) (ds:List Nat):List Nat:=
 ds.take (j % (ds.length - 1))++[max (ds.getD (j % (ds.length - 1)) 0) (ds.getD (j % (ds.length - 1)+1) 0)+1]++ds.drop (j % (ds.length - 1)+2)
noncomputable def Jb:Nat→List Nat→List Nat
 | 0,ds=>ds
 | j+1,ds=>Ku j (Jb j ds)
theorem HY:∀m:Fin 8,((Jb (24+m.val) (List.replicate (25+m.val) 1)).all (· ≤ 24))=true:=by decide +kernel
noncomputable def merge {β:Type} (p:Nat) (t:β) (ts:List β):List β:=ts.take p++[t]++ts.drop (p+2)
theorem GH {β:Type}:∀{p:Nat}{ts:List β}{a b:β},ts[p]? = some a→ts[p+1]? = some b→ts=ts.take p++[a,b]++ts.drop (p+2)
 | 0,ts,a,b,h1,h2=>by
  cases ts with
  | nil=>simp at h1
  | cons x r=>
   cases r with
   | nil=>simp at h2
   | cons y r=>simp at h1 h2;simp [h1,h2]
 | p+1,ts,a,b,h1,h2=>by
  cases ts with
  | nil=>simp at h1
  | cons x r=>
   have e:=GH (p:=p) (ts:=r) (by simpa using h1) (by simpa using h2)
   simp only [List.take_succ_cons,List.drop_succ_cons,List.cons_append]
   rw [←e]
structure TI {α:Type} (names deeds:List α) (many j:Nat) (ts:List (Tr α)):Prop where
 perm:(ts.flatMap Tr.lv).Perm names
 kn:∀t∈ts,∀f∈t.kn,f∈deeds
 len:ts.length+j=many
 nl:names.length=many
 tK:24<many→ts.map Tr.dp=Jb j (List.replicate many 1)
theorem TI.start {α:Type}{names deeds:List α}:TI names deeds names.length 0 (names.map Tr.leaf) where
 perm:=by
  have e:(names.map Tr.leaf).flatMap Tr.lv=names:=by
   induction names with
   | nil=>rfl
   | cons a r ih=>simp [Tr.lv,ih]
  rw [e]
 kn:=fun t ht f hf=>by
  obtain⟨x,_,rfl⟩:=List.mem_map.mp ht
  simp [Tr.kn] at hf
 len:=by simp
 nl:=rfl
 tK:=fun _=>by
  have e:∀l:List α,(l.map Tr.leaf).map Tr.dp=List.replicate l.length 1:=fun l=>by
   induction l with
   | nil=>rfl
   | cons a r ih=>simp only [List.map_cons,List.length_cons,List.replicate_succ,ih,Tr.dp]
  exact e names
theorem TI.step {α:Type}{names deeds:List α}{many j:Nat}{ts:List (Tr α)} (I:TI names deeds many j ts) {p:Nat}{a b x y:Tr α}{f:α} (h1:ts[p]? = some a) (h2:ts[p+1]? = some b) (hp:24<many→p=j % (ts.length - 1)) (hf:f∈deeds)
 (vI:(x=a∧y=b)∨(x=b∧y=a)):TI names deeds many (j+1) (merge p (.knot f x y) ts):=by
 have e:=GH h1 h2
 have dY:p+1<ts.length:=(List.getElem?_eq_some_iff.mp h2).1
 have hd:(Tr.knot f x y).dp=max a.dp b.dp+1:=by
  rcases vI with ⟨rfl,rfl⟩|⟨rfl,rfl⟩<;>simp [Tr.dp,Nat.max_comm]
 refine⟨?_,fun t ht g hg=>?_,?_,I.nl,fun hm=>?_⟩
 · have q:=I.perm
   rw [e] at q
   refine List.Perm.trans ?_ q
   unfold merge
   simp only [List.flatMap_append,List.flatMap_cons,List.flatMap_nil,List.append_nil]
   refine List.Perm.append_right _ (List.Perm.append_left _ ?_)
   simp only [Tr.lv]
   rcases vI with ⟨rfl,rfl⟩|⟨rfl,rfl⟩
   · exact List.Perm.refl _
   · exact List.perm_append_comm
 · unfold merge at ht
   have ma:a∈ts:=List.mem_of_getElem? h1
   have mb:b∈ts:=List.mem_of_getElem? h2
   simp only [List.mem_append,List.mem_singleton] at ht
   rcases ht with (ht|rfl)|ht
   · exact I.kn t (List.mem_of_mem_take ht) g hg
   · simp only [Tr.kn,List.mem_cons,List.mem_append] at hg
     rcases hg with rfl|hg|hg
     · exact hf
     · rcases vI with ⟨rfl,rfl⟩|⟨rfl,rfl⟩
       · exact I.kn _ ma g hg
       · exact I.kn _ mb g hg
     · rcases vI with ⟨rfl,rfl⟩|⟨rfl,rfl⟩
       · exact I.kn _ mb g hg
       · exact I.kn _ ma g hg
   · exact I.kn t (List.mem_of_mem_drop ht) g hg
 · have:=I.len
   unfold merge
   simp only [List.length_append,List.length_take,List.length_drop,List.length_singleton]
   omega
 · have q:=I.tK hm
   simp only [Jb,Ku]
   rw [←q]
   have hp:=hp hm
   simp only [List.length_map]
   rw [←hp]
   unfold merge
   simp only [List.map_append,List.map_take,List.map_drop,List.map_cons,List.map_nil,hd]
   have g1:(ts.map Tr.dp).getD p 0=a.dp:=by simp [List.getD,h1]
   have g2:(ts.map Tr.dp).getD (p+1) 0=b.dp:=by simp [List.getD,h2]
   rw [g1,g2]
theorem TI.end {α:Type}{names deeds:List α}{many j:Nat}{t:Tr α} (I:TI names deeds many j [t]) (hm:many≤32):t.lv.Perm names∧(∀f∈t.kn,f∈deeds)∧t.dp≤24:=by
 have hp:t.lv.Perm names:=by have:=I.perm;simpa using this
 refine⟨hp,I.kn t (by simp),?_⟩
 by_cases h:24<many
 · have q:=I.tK h
   have hl:=I.len
   simp at hl
   have ok:=HY ⟨many - 25,by omega⟩
   have e1:24+(many - 25)=j:=by omega
   have e2:25+(many - 25)=many:=by omega
   simp only [e1,e2] at ok
   rw [←q] at ok
   simpa using ok
 · have h1:=t.Kn
   have h2:=hp.length_eq
   have h3:=I.nl
   omega
end M
namespace M
noncomputable abbrev Pl:=List Nat
namespace Tr
variable {α : Type}
noncomputable def rk:Tr α→Nat
 | .leaf _=>1
 | .knot _ l r=>if l.rk=r.rk then l.rk+1 else max l.rk r.rk
theorem wz (t:Tr α):t.sub []=some t:=by cases t<;>rfl
theorem Hr (t:Tr α):∀(p q:Pl),t.sub (p++q)=(t.sub p).bind (fun s=>s.sub q):=by
 induction t with
 | leaf x=>
  intro p q
  cases p with
  | nil=>simp [wz]
  | cons i p=>simp [sub]
 | knot f l r ihl ihr=>
  intro p q
  cases p with
  | nil=>simp [wz]
  | cons i p=>
   simp only [List.cons_append,sub]
   split
   · exact ihl p q
   · split
     · exact ihr p q
     · rfl
noncomputable def lD (h:Pl→Bool):Tr α→Pl→Bool
 | .leaf _,p=>h p
 | .knot _ l r,p=>h p||(if l.rk=r.rk then lD h l (p++[0])&&lD h r (p++[1]) else if r.rk<l.rk then lD h l (p++[0]) else lD h r (p++[1]))
end Tr
noncomputable def cnt (p:Pl) (bx:List (Option Pl)):Nat:=bx.countP fun o=>match o with|some q=>p.isPrefixOf q|none=>false
noncomputable def held (bx:List (Option Pl)) (p:Pl):Bool:=bx.any fun o=>o==some p
theorem Cf {α:Type} (t:Tr α) (g:Pl→Bool) (hg:∀q s,(q,s)∈t.wk []→g q=s.i7):t.pl.filter g=((t.wk []).filter (fun q=>q.2.i7)).map (·.1):=by
 rw [Tr.mZ,List.filter_map]
 congr 1
 apply List.filter_congr
 intro q hq
 exact hg q.1 q.2 hq
theorem gG {α:Type} [DecidableEq α] {x:α}:∀(l:List (List Nat×Tr α)),firstOf x l=firstOf x (l.filter (fun q=>q.2.i7))
 | []=>rfl
 | q::r=>by
  have ih:=gG (x:=x) r
  by_cases hq:q.2.i7=true
  · simp only [List.filter_cons,hq,if_true]
    unfold firstOf
    rw [ih]
  · simp only [List.filter_cons,hq,if_false]
    rw [firstOf,if_neg (fun z=>hq z.1)]
    exact ih
theorem jm {α:Type} [DecidableEq α] {x:α}:∀(l:List (List Nat×Tr α)) (i:Nat),(∀q∈l.take i,q.2.name≠x)→firstOf x l=firstOf x (l.drop i)
 | [],i,_=>by simp
 | q::r,0,_=>by simp
 | q::r,i+1,h=>by
  have ih:=jm (x:=x) r i (fun q hq=>h q (by simp [hq]))
  rw [List.drop_succ_cons,←ih,firstOf,if_neg (fun z=>h q (by simp) z.2)]
theorem xi {α:Type} [DecidableEq α] {x:α}{l:List (List Nat×Tr α)}{i:Nat}{q:List Nat×Tr α} (h:∀q∈l.take i,q.2.name≠x) (e:l[i]? = some q) (hl:q.2.i7=true) (hx:q.2.name=x):firstOf x l=some q.1:=by
 rw [jm l i h]
 have:l.drop i=q::l.drop (i+1):=by
  obtain⟨hi,e'⟩:=List.getElem?_eq_some_iff.mp e
  rw [List.drop_eq_getElem_cons hi,e']
 rw [this,firstOf,if_pos ⟨hl,hx⟩]
theorem wa {α:Type}{t:Tr α}{p:Pl} (h:p∈t.pl):∃s,t.sub p=some s∧(p,s)∈t.wk []:=by
 rw [Tr.mZ] at h
 obtain⟨⟨q,s⟩,hq,rfl⟩:=List.mem_map.mp h
 exact⟨s,Tr.h8 hq,hq⟩
theorem gB {α:Type} (t:Tr α):t.pl.length≤2*t.lv.length:=by have:=t.Lb;omega
theorem JU {α:Type}{t:Tr α}{p:Pl} (h:p∈t.pl):p.length<t.dp:=by
 obtain⟨s,_,hs⟩:=wa h
 have:=t.AI [] _ _ hs
 have:=s.sA
 simp at *;omega
structure jE (many:Nat) (t:Tr (List Nat)) (c c':Int):Prop where
 perm:t.lv.Perm ((List.range many).map (nm c many))
 kn:∀f∈t.kn,f∈(List.range 3).map (nm c' 3)
 dp:t.dp≤24
theorem qB {β:Type}{g:Nat→β}{n:Nat} (h:∀i j,i<n→j<n→g i=g j→i=j):((List.range n).map g).Nodup:=by
 unfold List.Nodup
 rw [List.pairwise_map]
 have:(List.range n).Pairwise (· ≠ ·):=List.nodup_range
 refine List.Pairwise.imp_of_mem ?_ this
 intro a b ha hb GO e
 exact GO (h a b (List.mem_range.mp ha) (List.mem_range.mp hb) e)
theorem Tr.Hj {α:Type} (t:Tr α):∀p q s,(q,s)∈t.wk p→(s.i7=true→s.name∈t.lv)∧(s.i7=false→s.name∈t.kn):=by
 induction t with
 | leaf x=>
  intro p q s h
  simp only [Tr.wk,List.mem_singleton,Prod.mk.injEq] at h
  rw [h.2];simp [Tr.i7,Tr.lv,Tr.name]
 | knot f l r ihl ihr=>
  intro p q s h
  simp only [Tr.wk,List.mem_cons,List.mem_append,Prod.mk.injEq] at h
  rcases h with ⟨_,h2⟩|h|h
  · rw [h2];simp [Tr.i7,Tr.kn,Tr.name]
  · have:=ihl _ _ _ h
    simp only [Tr.lv,Tr.kn,List.mem_append,List.mem_cons]
    exact⟨fun z=>.inl (this.1 z),fun z=>.inr (.inl (this.2 z))⟩
  · have:=ihr _ _ _ h
    simp only [Tr.lv,Tr.kn,List.mem_append,List.mem_cons]
    exact⟨fun z=>.inr (this.1 z),fun z=>.inr (.inr (this.2 z))⟩
end M
set_option linter.all false
namespace M
variable {α β γ : Type}
inductive ar (α:Type)
 | take (x:α) (i:Int)
 | join (f:α) (i j h:Int)
 | put (i s:Int)
 | fetch (s i:Int)
noncomputable def oo (k:Int) (i:Int):Prop:=0≤i∧i<k
noncomputable instance (k i:Int):Decidable (oo k i):=by unfold oo;infer_instance
namespace ar
noncomputable def bn:ar α→List Int
 | .take _ i=>[i]
 | .join _ i j h=>[i,j,h]
 | .put i _=>[i]
 | .fetch _ i=>[i]
noncomputable def sn:ar α→List Int
 | .put _ s=>[s]
 | .fetch s _=>[s]
 | _=>[]
noncomputable def ok (k m:Int) (d:ar α):Prop:=(∀i∈d.bn,oo k i)∧∀s∈d.sn,oo m s
noncomputable instance (k m:Int) (d:ar α):Decidable (d.ok k m):=by unfold ok;infer_instance
noncomputable def set (d:ar α) (v:β) (st:List β×List β):List β×List β:=match d with
 | .take _ i=>(st.1.set i.toNat v,st.2)
 | .join _ _ _ h=>(st.1.set h.toNat v,st.2)
 | .put _ s=>(st.1,st.2.set s.toNat v)
 | .fetch _ i=>(st.1.set i.toNat v,st.2)
noncomputable def val (z:β) (tk:α→β) (jn:α→β→β→β) (d:ar α) (st:List β×List β):β:=match d with
 | .take x _=>tk x
 | .join f i j _=>jn f (st.1.getD i.toNat z) (st.1.getD j.toNat z)
 | .put i _=>st.1.getD i.toNat z
 | .fetch s _=>st.2.getD s.toNat z
noncomputable def go (z:β) (tk:α→β) (jn:α→β→β→β) (st:List β×List β) (d:ar α):List β×List β:=d.set (d.val z tk jn st) st
theorem JA (d:ar α) (v:β) (st:List β×List β):(d.set v st).1.length=st.1.length∧(d.set v st).2.length=st.2.length:=by
 cases d<;>simp [set]
theorem Ey {z:β}{tk:α→β}{jn:α→β→β→β} (st:List β×List β) (d:ar α):(go z tk jn st d).1.length=st.1.length∧(go z tk jn st d).2.length=st.2.length:=JA d _ st
theorem A8 (d:ar α) (g:β→γ) (v:β) (st:List β×List β):d.set (g v) (st.1.map g,st.2.map g)=((d.set v st).1.map g,(d.set v st).2.map g):=by
 cases d<;>simp [set,List.map_set]
noncomputable def rows (z:β) (tk:α→β) (jn:α→β→β→β) (k m:Nat) (row:List (ar α)):List β×List β:=row.foldl (go z tk jn) (List.replicate k z,List.replicate m z)
noncomputable def tT (C:β→Prop) (st:List β×List β):Prop:=(∀x∈st.1,C x)∧∀x∈st.2,C x
theorem kG {C:β→Prop}{z:β} (hz:C z) {l:List β} (h:∀x∈l,C x) (i:Nat):C (l.getD i z):=by
 rw [List.getD_eq_getElem?_getD]
 cases e:l[i]? with
 | none=>exact hz
 | some x=>exact h x (List.mem_of_getElem? e)
theorem mem_set {l:List β}{i:Nat}{v x:β} (h:x∈l.set i v):x=v∨x∈l:=by
 induction l generalizing i with
 | nil=>simp at h
 | cons a l ih=>
  cases i with
  | zero=>simp only [List.set_cons_zero,List.mem_cons] at h ⊢;rcases h with h|h;exact .inl h;exact .inr (.inr h)
  | succ i=>
   simp only [List.set_cons_succ,List.mem_cons] at h ⊢
   rcases h with h|h
   · exact .inr (.inl h)
   · rcases ih h with h|h
     · exact .inl h
     · exact .inr (.inr h)
theorem Iu {C:β→Prop}{d:ar α}{v:β}{st:List β×List β} (hv:C v) (h:tT C st):tT C (d.set v st):=by
 cases d<;>refine⟨fun x hx=>?_,fun x hx=>?_⟩
 all_goals first|exact h.1 x hx|exact h.2 x hx|skip
 all_goals
  rcases mem_set hx with z|z
  · exact z▸hv
  · first|exact h.1 x z|exact h.2 x z
theorem L7 {C:β→Prop}{z:β}{tk:α→β}{jn:α→β→β→β} (hz:C z) (ht:∀x,C (tk x)) (hj:∀f a b,C a→C b→C (jn f a b)) {st:List β×List β} (h:tT C st) (d:ar α):tT C (go z tk jn st d):=by
 refine Iu ?_ h
 cases d with
 | take x i=>exact ht x
 | join f i j k=>exact hj _ _ _ (kG hz h.1 _) (kG hz h.1 _)
 | put i s=>exact kG hz h.1 _
 | fetch s i=>exact kG hz h.2 _
theorem Ie {C:β→Prop}{z:β} (hz:C z) (k m:Nat):tT C (List.replicate k z,List.replicate m z):=⟨fun x hx=>(List.eq_of_mem_replicate hx)▸hz,fun x hx=>(List.eq_of_mem_replicate hx)▸hz⟩
end ar
noncomputable def mn [DecidableEq α] (t:Tr α) (f:α) (p:List Nat):Bool:=match t.sub p with
 | some (.knot g _ _)=>decide (g=f)
 | _=>false
noncomputable def over [DecidableEq α] (t:Tr α) (f:α):Option (List Nat)→Option (List Nat)→Option (List Nat)
 | some p,some q=>if p=p.dropLast++[0]∧q=p.dropLast++[1]∧mn t f p.dropLast=true then some p.dropLast else none
 | _,_=>none
noncomputable def mark [DecidableEq α] (t:Tr α):List (Option (List Nat))×List (Option (List Nat))→ar α→List (Option (List Nat))×List (Option (List Nat)):=ar.go none (fun x=>firstOf x (t.wk [])) (over t)
noncomputable def DS (t:Tr α) (o:Option (List Nat)):Prop:=∀p,o=some p→p∈t.pl
theorem Ln (t:Tr α):∀(q p:List Nat) (s:Tr α),t.sub p=some s→(q++p,s)∈t.wk q:=by
 induction t with
 | leaf x=>
  intro q p s h
  cases p with
  | nil=>simp only [Tr.sub,Option.some.injEq] at h;simp [Tr.wk,h]
  | cons i p=>simp [Tr.sub] at h
 | knot f l r ihl ihr=>
  intro q p s h
  cases p with
  | nil=>simp only [Tr.sub,Option.some.injEq] at h;simp [Tr.wk,h]
  | cons i p=>
   simp only [Tr.sub] at h
   split at h
   · rename_i e
     have:=ihl (q++[0]) p s h
     simp only [Tr.wk,List.mem_cons,List.mem_append]
     subst e
     exact .inr (.inl (by simpa using this))
   · split at h
     · rename_i _ e
       have:=ihr (q++[1]) p s h
       simp only [Tr.wk,List.mem_cons,List.mem_append]
       subst e
       exact .inr (.inr (by simpa using this))
     · cases h
theorem Nk {t s:Tr α}{p:List Nat} (h:t.sub p=some s):p∈t.pl:=by
 have:=Ln t [] p s h
 rw [Tr.mZ]
 exact List.mem_map.mpr ⟨_,this,by simp⟩
theorem ya [DecidableEq α] (t:Tr α) (x:α):DS t (firstOf x (t.wk [])):=by
 intro p hp
 have:∀l:List (List Nat×Tr α),firstOf x l=some p→p∈l.map (·.1):=by
  intro l
  induction l with
  | nil=>intro h;cases h
  | cons q r ih=>
   intro h
   simp only [firstOf] at h
   split at h
   · cases h;simp
   · exact List.mem_cons_of_mem _ (ih h)
 rw [Tr.mZ]
 exact this _ hp
theorem zd [DecidableEq α] {t:Tr α}{f:α}{p:List Nat} (h:mn t f p=true):∃l r,t.sub p=some (.knot f l r):=by
 unfold mn at h
 split at h
 · rename_i g l r e
   exact⟨l,r,by rw [e,of_decide_eq_true h]⟩
 · cases h
theorem CY [DecidableEq α] {t:Tr α}{f:α}{a b:Option (List Nat)}{p:List Nat} (h:over t f a b=some p):a=some (p++[0])∧b=some (p++[1])∧mn t f p=true:=by
 unfold over at h
 split at h
 · split at h
   · rename_i c
     cases h
     exact⟨by rw [←c.1],by rw [←c.2.1],c.2.2⟩
   · cases h
 · cases h
theorem DT [DecidableEq α] (t:Tr α) (f:α) (a b:Option (List Nat)):DS t (over t f a b):=by
 intro p hp
 obtain⟨l,r,h⟩:=zd (CY hp).2.2
 exact Nk h
theorem DJ [DecidableEq α] {t:Tr α}{st:List (Option (List Nat))×List (Option (List Nat))} (h:ar.tT (DS t) st) (d:ar α):ar.tT (DS t) (mark t st d):=
 ar.L7 (fun p hp=>nomatch hp) (fun x=>ya t x) (fun f a b _ _=>DT t f a b) h d
end M
namespace L2
open PySem PySem.Spec PyProof.Rows
theorem mf {α β:Type}{f:α→β→Sem (ForInStep β)}{g:β→α→β}:∀(l:List α) (b:β),(∀x∈l,∀b,f x b=pure (.yield (g b x)))→forIn l b f=pure (l.foldl g b)
 | [],b,_=>by rw [List.forIn_nil];rfl
 | x::l,b,h=>by
  rw [List.forIn_cons,h x List.mem_cons_self b,pure_bind]
  exact mf l _ fun y hy b=>h y (List.mem_cons_of_mem _ hy) b
noncomputable def cE (cells:List (Str×Addr)) (acc:List (Str×Addr)) (x:Str×NameKind):List (Str×Addr):=
 if (x.2==NameKind.free)=true then (match cells.lookup x.1 with|some a=>(x.1,a)::acc|none=>acc) else acc
noncomputable def fS (cells:List (Str×Addr)) (names:List (Str×NameKind)):List (Str×Addr):=names.foldl (cE cells) []
theorem dZ {scope:Scope}{env:Env} (h:∀y∈scope.names,y.2=NameKind.free→∃a,env.cells.lookup y.1=some a):closureFor scope env=pure (fS env.cells scope.names):=by
 simp only [closureFor]
 rw [mf (g:=cE env.cells) scope.names [] (fun x hx b=>by
  obtain⟨n,k⟩:=x
  by_cases hk:(k==NameKind.free)=true
  · have hk':k = .free:=by simpa using hk
    obtain⟨a,e⟩:=h _ hx hk'
    have e':env.cells.lookup n=some a:=e
    simp only [hk,if_true,cE,e',cellOf,pure_bind]
    try rfl
  · simp only [hk,cE]
    try rfl)]
 rw [pure_bind]
 rfl
theorem rm {cells acc:List (Str×Addr)}{y:Str×NameKind}{x:Str}{c:Addr} (h:(cE cells acc y).lookup x=some c):acc.lookup x=some c∨cells.lookup x=some c:=by
 unfold cE at h
 split at h
 · split at h
   · rename_i a e
     rw [List.lookup_cons] at h
     split at h
     · rename_i hb
       have:x=y.1:=by simpa using hb
       rw [this,e];exact .inr h
     · exact .inl h
   · exact .inl h
 · exact .inl h
theorem sx {cells:List (Str×Addr)}:∀(names:List (Str×NameKind)) (acc:List (Str×Addr)) {x:Str}{c:Addr},(names.foldl (cE cells) acc).lookup x=some c→acc.lookup x=some c∨cells.lookup x=some c
 | [],_,_,_,h=>.inl h
 | y::r,acc,x,c,h=>by
  rcases sx r _ h with h|h
  · exact rm h
  · exact .inr h
theorem bJ {cells:List (Str×Addr)}{names:List (Str×NameKind)}{x:Str}{c:Addr} (h:(fS cells names).lookup x=some c):cells.lookup x=some c:=by
 rcases sx names [] h with h|h
 · simp at h
 · exact h
theorem sZ {cells acc:List (Str×Addr)}{y:Str×NameKind}{x:Str}{c:Addr} (h:acc.lookup x=some c):∃c',(cE cells acc y).lookup x=some c':=by
 unfold cE
 split
 · split
   · rw [List.lookup_cons]
     split
     · exact⟨_,rfl⟩
     · exact⟨c,h⟩
   · exact⟨c,h⟩
 · exact⟨c,h⟩
theorem tE {cells:List (Str×Addr)}:∀(names:List (Str×NameKind)) (acc:List (Str×Addr)) {x:Str}{c:Addr},acc.lookup x=some c→∃c',(names.foldl (cE cells) acc).lookup x=some c'
 | [],_,_,c,h=>⟨c,h⟩
 | y::r,acc,x,c,h=>by
  obtain⟨c',h'⟩:=sZ (cells:=cells) (y:=y) h
  exact tE r _ h'
theorem ye {cells:List (Str×Addr)}:∀(names:List (Str×NameKind)) (acc:List (Str×Addr)) {x:Str}{a:Addr},(x,NameKind.free)∈names→cells.lookup x=some a→∃c',(names.foldl (cE cells) acc).lookup x=some c'
 | [],_,_,_,h,_=>nomatch h
 | y::r,acc,x,a,h,e=>by
  rcases List.mem_cons.mp h with rfl|h
  · refine tE r (cE cells acc (x,.free)) (x:=x) (c:=a) ?_
    unfold cE
    rw [if_pos (by rfl)]
    simp only [e]
    simp
  · exact ye r _ h e
theorem mM {cells:List (Str×Addr)}{names:List (Str×NameKind)}{x:Str}{a:Addr} (h:(x,NameKind.free)∈names) (e:cells.lookup x=some a):(fS cells names).lookup x=some a:=by
 obtain⟨c',h'⟩:=ye names [] h e
 have:=bJ h'
 rw [e] at this;cases this
 exact h'
theorem lookup_mem {α:Type}:∀{l:List (Str×α)}{x:Str}{k:α},l.lookup x=some k→(x,k)∈l
 | [],_,_,h=>by simp at h
 | (n,k')::r,x,k,h=>by
  rw [List.lookup_cons] at h
  split at h
  · rename_i hb
    cases h
    have:x=n:=by simpa using hb
    rw [this];exact List.mem_cons_self
  · exact List.mem_cons_of_mem _ (lookup_mem h)
theorem jU {env:Env}:∀{names:List (Str×NameKind)}{x:Str}{k:NameKind},
 (names.map fun (n,k)=>if (k==NameKind.free&&env.scope.kind == .function&&env.kindOf n==some .cell) then (n,NameKind.cell) else (n,k)).lookup x=some k→
 names.lookup x=some k∨(k = .cell∧names.lookup x=some .free)
 | [],_,_,h=>by simp at h
 | (n,k')::r,x,k,h=>by
  have ih:=@jU env r x k
  rw [List.map_cons] at h
  by_cases hc:(k'==NameKind.free&&env.scope.kind == .function&&env.kindOf n==some .cell)=true
  · have h2:List.lookup x ((n,NameKind.cell)::(r.map fun (n,k)=>if (k==NameKind.free&&env.scope.kind == .function&&env.kindOf n==some .cell) then (n,NameKind.cell) else (n,k)))=some k:=by
     simpa only [if_pos hc] using h
    rw [List.lookup_cons] at h2 ⊢
    split at h2
    · cases h2
      have:k' = .free:=by
       cases k'<;>first|rfl|simp at hc
      simp_all
    · exact ih h2
  · have h2:List.lookup x ((n,k')::(r.map fun (n,k)=>if (k==NameKind.free&&env.scope.kind == .function&&env.kindOf n==some .cell) then (n,NameKind.cell) else (n,k)))=some k:=by
     simpa only [if_neg hc] using h
    rw [List.lookup_cons] at h2 ⊢
    split at h2
    · exact .inl h2
    · exact ih h2
theorem i8 {env:Env}:∀{names:List (Str×NameKind)}{x:Str},names.lookup x=some .free→
 (names.map fun (n,k)=>if (k==NameKind.free&&env.scope.kind == .function&&env.kindOf n==some .cell) then (n,NameKind.cell) else (n,k)).lookup x=some .cell ∨
 (names.map fun (n,k)=>if (k==NameKind.free&&env.scope.kind == .function&&env.kindOf n==some .cell) then (n,NameKind.cell) else (n,k)).lookup x=some .free
 | [],_,h=>by simp at h
 | (n,k')::r,x,h=>by
  have ih:=@i8 env r x
  rw [List.lookup_cons] at h
  rw [List.map_cons]
  dsimp only
  by_cases hc:(k'==NameKind.free&&env.scope.kind == .function&&env.kindOf n==some .cell)=true
  · rw [if_pos hc,List.lookup_cons]
    cases hb:(x==n) with
    | true=>exact .inl rfl
    | false=>
     rw [hb] at h
     exact ih h
  · rw [if_neg hc,List.lookup_cons]
    cases hb:(x==n) with
    | true=>
     rw [hb] at h
     exact .inr h
    | false=>
     rw [hb] at h
     exact ih h
noncomputable def lD (X:Cx) (N:List Str) (scope:Scope) (C:Addr) (s:Shared) (H:Hp) (ex:List Addr):Cx:=
 {X with N:=N,s₀:=s,H₀:=H,env:=compEnvC scope (fS X.env.cells scope.names) C X.env,outer:=X.stack,ex:=ex,fn:=fun _=>false,pn:=[],xe:=fun _ _=>False}
structure si (X:Cx) (scope:Scope) (x:Str) (N:List Str) (caps:List Nat):Prop where
 kind:scope.kind = .function
 vD:(scope.names.all fun y=>y.2 != NameKind.cell)=true
 zB:(scope.names.all fun y=>y.2 != NameKind.local || scope.names.lookup y.1==some NameKind.local)=true
 lx:scope.names.lookup x=some .local
 nd:N.Nodup
 n0:N[0]? = some x
 JE:caps.map (fun j=>X.N[j]?)=N.tail.map some
 Fh:(N.tail.all fun y=>scope.names.lookup y==some NameKind.free)=true
 zo:(scope.names.all fun y=>y.2 != NameKind.free||X.env.scope.names.lookup y.1==some NameKind.cell||X.env.scope.names.lookup y.1==some NameKind.free)=true
theorem si.sh {X:Cx}{scope:Scope}{x:Str}{N:List Str}{caps:List Nat} (S:si X scope x N caps):∀y∈scope.names,y.2 ≠ .cell:=fun y hy=>by
 have h:=List.all_eq_true.mp S.vD y hy
 simpa using h
theorem si.names {X:Cx}{scope:Scope}{x:Str}{N:List Str}{caps:List Nat} (S:si X scope x N caps):∀y∈scope.names,y.2 = .local→scope.names.lookup y.1=some .local:=fun y hy e=>by
 have h:=List.all_eq_true.mp S.zB y hy
 simp only [e,bne_self_eq_false,Bool.false_or] at h
 simpa using h
theorem si.Tc {X:Cx}{scope:Scope}{x:Str}{N:List Str}{caps:List Nat} (S:si X scope x N caps):∀y∈N.tail,scope.names.lookup y=some .free:=fun y hy=>by
 have h:=List.all_eq_true.mp S.Fh y hy
 simpa using h
theorem si.frees {X:Cx}{scope:Scope}{x:Str}{N:List Str}{caps:List Nat} (S:si X scope x N caps):∀y∈scope.names,y.2 = .free→(X.env.kindOf y.1=some .cell∨X.env.kindOf y.1=some .free):=fun y hy e=>by
 have h:=List.all_eq_true.mp S.zo y hy
 simp only [e,bne_self_eq_false,Bool.false_or,Bool.or_eq_true] at h
 rcases h with h|h
 · exact .inl (by show X.env.scope.names.lookup y.1=_;simpa using h)
 · exact .inr (by show X.env.scope.names.lookup y.1=_;simpa using h)
noncomputable def bc (caps:List Nat) (σ:St) (o:Option V):St:=o::caps.map fun j=>(σ[j]?).join
theorem fN.adopt {P:Program}{w:World}{H:Hp}{h:Heap}{a:Addr}{o:HO} (x:fN P w H h) (hn:H a=none) (new:bS P w (upd H a o) h a o):fN P w (upd H a o) h:=fun b u e=>by
 by_cases hb:b=a
 · subst hb;rw [aT] at e;cases e;exact new
 · rw [aL hb] at e
   exact(x b u e).gP (fun c v _ q=>q) (fun c q=>by rw [aL (aF q hn)];exact q) fun c xs q=>by rw [aL (aF q hn)];exact q
section
variable {X : Cx} {pins : List (Addr × Obj)} {σ : St} {H : Hp} {s : Shared} {scope : Scope} {x : Str} {N : List Str} {caps : List Nat} {fp : List Addr}
theorem si.cells (S:si X scope x N caps) (ok:X.Ok):∀y∈scope.names,y.2=NameKind.free→∃a,X.env.cells.lookup y.1=some a:=fun y hy e=>ok.has _ (S.frees y hy e)
theorem si.len (S:si X scope x N caps):N.length=caps.length+1:=by
 have h:=congrArg List.length S.JE
 simp only [List.length_map,List.length_tail] at h
 have h2:=S.n0
 cases N with
 | nil=>simp at h2
 | cons a r=>simp at h ⊢;omega
theorem si.at (S:si X scope x N caps) {i:Nat}{y:Str} (h:N[i+1]? = some y):∃j,caps[i]? = some j∧X.N[j]? = some y∧scope.names.lookup y=some .free:=by
 have h2:=S.n0
 cases hN:N with
 | nil=>rw [hN] at h2;simp at h2
 | cons a r=>
  rw [hN] at h
  have ht:N.tail[i]? = some y:=by rw [hN];simpa using h
  have e:=congrArg (fun l=>l[i]?) S.JE
  simp only [List.getElem?_map,ht,Option.map_some] at e
  cases hc:caps[i]? with
  | none=>rw [hc] at e;simp at e
  | some j=>
   rw [hc] at e
   refine⟨j,rfl,?_,S.Tc y ?_⟩
   · simpa using e
   · exact List.mem_of_getElem? ht
theorem Fo (S:si X scope x N caps) (I:Inv X pins σ H s) (hf:∀b∈fp,bR X pins H b) (dY:∀b∈fp,b<s.heap.objs.size) :
 (lD X N scope (s.heap.objs.size+1) s H (s.heap.objs.size::fp)).Ok where
 mod:=I.ok.mod
 kind:=S.kind
 glob:=I.ok.glob
 blt:=I.ok.blt
 above:=Nat.le_succ _
 inj:=fun a b c e1 e2=>I.ok.inj a b c (bJ e1) (bJ e2)
 has:=fun y hy=>by
  have e:∃k,(relabel scope X.env).names.lookup y=some k∧(k = .cell∨k = .free):=by
   rcases hy with h|h
   · exact⟨_,h,.inl rfl⟩
   · exact⟨_,h,.inr rfl⟩
  obtain⟨k,e,hk⟩:=e
  have iW:scope.names.lookup y=some .free:=by
   rcases jU (env:=X.env) e with h|⟨_,h⟩
   · rcases hk with rfl|rfl
     · exact absurd rfl (S.sh _ (lookup_mem h))
     · exact h
   · exact h
  obtain⟨a,ea⟩:=S.cells I.ok _ (lookup_mem iW) rfl
  exact⟨a,mM (lookup_mem iW) ea⟩
 G4:=fun _ _ h=>by cases h
 hd:=I.ok.hd
 frames:=I.ok.frames
 qT:=.inl rfl
 oA:=fun b hb=>by
  rcases List.mem_cons.mp hb with rfl|hb
  · refine⟨Nat.ne_of_lt (Nat.lt_succ_self _),fun y c e z=>?_⟩
    exact(I.lG (Nat.le_refl _) (I.aO.fresh (Nat.le_refl _))).2.2.2.2.1 y c (bJ e) z
  · refine⟨Nat.ne_of_lt (Nat.lt_succ_of_lt (dY b hb)),fun y c e z=>?_⟩
    exact(hf b hb).2.2.2.2.1 y c (bJ e) z
 bs:=I.bs
 Ah:=Nat.le_trans I.ok.Ah I.sz
 sy:=fun b o e hb=>by
  rcases List.mem_cons.mp hb with rfl|hb
  · exact absurd (Heap.lt_size (I.bk _ _ e)) (Nat.lt_irrefl _)
  · rcases (hf b hb).2.2.2.1 with z|z
    · exact I.ok.sy b o e z
    · exact absurd (Nat.lt_of_lt_of_le (Heap.lt_size (I.ok.bs b o e).1) z) (Nat.lt_irrefl _)
 km:=fun b hb hs=>by
  have dJ:=I.Ap b hs
  rcases List.mem_cons.mp hb with rfl|hb
  · rcases List.mem_cons.mp dJ with z|z
    · exact absurd I.lt (by rw [←z];exact Nat.lt_irrefl _)
    · exact I.Qv (Nat.le_refl _) z
  · rcases List.mem_cons.mp dJ with z|z
    · exact(hf b hb).2.1 z
    · exact(hf b hb).2.2.1 z
 jN:=I.stack
 Dz:=I.ia
theorem Bx (S:si X scope x N caps) (I:Inv X pins σ H s) (hf:∀b∈fp,bR X pins H b) (dY:∀b∈fp,b<s.heap.objs.size) {h₁:Heap}{m:Str→Option Value}{tk:Nat}
 (NS:h₁.Ns (s.heap.objs.size+1) m) (old:∀b o,s.heap.get? b=some o→h₁.get? b=some o) :
 Inv (lD X N scope (s.heap.objs.size+1) s H (s.heap.objs.size::fp)) [] (bc caps σ none) H {s with heap:=h₁,toks:=tk} where
 ok:=Fo S I hf dY
 os:=rfl
 bare:=I.bare
 base:=Un.kept old
 loc:=⟨m,NS,fun i y v e1 e2 _=>by
  cases i with
  | zero=>simp [bc] at e2
  | succ i=>
   obtain⟨j,hj,hX,iW⟩:=S.at e1
   have Am:(σ[j]?).join=some v:=by
    simp only [bc,List.getElem?_cons_succ,List.getElem?_map,hj,Option.map_some] at e2
    exact Option.some.inj e2
   have e3:σ[j]? = some (some v):=by
    cases hh:σ[j]? with
    | none=>rw [hh] at Am;simp at Am
    | some o=>rw [hh] at Am;simp at Am;rw [Am]
   obtain⟨m₂,_,hl⟩:=I.loc
   have hk:=S.frees _ (lookup_mem iW) rfl
   obtain⟨u,r,l⟩:=hl j y v hX e3 (by
    rcases hk with k|k
    · exact .inr (.inl k)
    · exact .inr (.inr k))
   refine⟨u,r,.inr ?_⟩
   rcases l with ⟨k,_⟩|⟨_,c,hc,hcell⟩
   · rcases hk with k'|k'<;>(rw [k] at k';cases k')
   · obtain⟨o,ho,hd⟩:=hcell
     exact⟨i8 iW,c,mM (lookup_mem iW) hc,o,old _ _ ho,hd⟩⟩
 cell:=fun y c e=>by
  obtain⟨v,o,ho,hd⟩:=I.cell y c (bJ e)
  exact⟨v,o,old _ _ ho,hd⟩
 free:=I.aO.fresh (Nat.le_succ _)
 eV:=fun y c e=>I.eV y c (bJ e)
 pin:=fun p hp=>by
  have:p∈([]:List (Addr×Obj)):=hp
  simp at this
 aO:=I.aO.kept old
 len:=by
  show (bc caps σ none).length=N.length
  rw [S.len];simp [bc]
end
noncomputable def fe (X:Cx) (ifs:List Expr) (t:TT):Prop:=
 ∀(pins:List (Addr×Obj)) (s:Shared) (σ:St) (H:Hp) (Q:Bool→Hp→Prop),Inv X pins σ H s→t σ H Q→
  wpAny (model X.prog X.w) X.A (forIn ifs true fun c r=>if r=true then do let ok ←isTrue c X.env (eval c X.env);pure (ForInStep.yield ok) else pure (ForInStep.yield r)) (TP X pins σ Q) X.xe s
noncomputable def Mw:TT:=fun _ H Q=>Q true H
theorem dB {X:Cx}:fe X [] Mw:=fun pins s σ H Q I h=>wpAny_tests_nil ⟨H,I,h⟩
theorem AL {X:Cx}{c:Expr}{t:TT} (h:PT X c t):fe X [c] t:=fun pins s σ H Q I hw=>wpAny_tests_one (h pins s σ H Q I hw)
noncomputable def jC (J:It) (caps:List Nat) (tc:TT) (te:TE) (σ:St) (H1:Hp) (Q:VK):Prop:=
 ∃W:Nat→Nat→List V→Hp→Prop,(∃m,W 0 m [] H1)∧∀i m ys H,W i m ys H→
  (J.stop i H∧∀p,H p=none→Q (.ref p) (upd H p (.lst ys))) ∨
  (J.go i H∧ys.length<sizeLine∧∃N:List V→Hp→Prop,(∀ys' H',N ys' H'→∃m',m'<m∧W (i+1) m' ys' H')∧∀v H',J.yT i H v H'→
    tc (bc caps σ (some v)) H' fun b H2=>if b=true then te (bc caps σ (some v)) H2 fun y H3=>N (ys++[y]) H3 else N ys H2)
noncomputable def uV (wi:TI) (caps:List Nat) (tc:TT) (te:TE):TE:=fun σ H Q=>wi σ H fun J H1=>jC J caps tc te σ H1 Q
theorem AJ {M:Model}{A:Around}{E:Value→Shared→Prop}{s:Shared}{m:Sem (Option Value)}{F:Value→Shared→Prop} (h:wpAny M A m (fun r s1=>∃u,r=some u∧wpAny M A (pure ():Sem Unit) (fun _ s2=>F u s2) E s1) E s) :
 wpAny M A m (fun r s1=>∃u,r=some u∧F u s1) E s:=fun Γ p hΓ=>
 Sem.wp_mono M Γ m (fun r p' s' h'=>by obtain⟨u,e,h'⟩:=h';exact⟨u,e,h' Γ p' hΓ⟩) (fun _ _ _ h'=>h') p s (h Γ p hΓ)
section
variable {X : Cx} {pins : List (Addr × Obj)} {σ : St} {H : Hp} {s : Shared} {scope : Scope} {x : Str} {N : List Str} {caps : List Nat} {fp : List Addr}
noncomputable abbrev lobj (aq:List Value) (k:Nat):Obj:={cls:=.type "list",data:=.seq aq.toArray k}
theorem rZ {elt iter:Expr}{px pos:Pos}{ifs:List Expr}{tc:TT}{te:TE}{J:It}{it:Addr}{tn:Nat→Heap→Prop}{Q:VK}{RR:Value→Addr→Result→Shared→Prop}{E:Value→Shared→Prop}
 (cH:X.calm=true) (S:si X scope x N caps) (hc:∀C s H ex,fe (lD X N scope C s H ex) ifs tc) (he:∀C s H ex,PE (lD X N scope C s H ex) elt te)
 (I:Inv X pins σ H s) (T:Turn X.prog X.w X.K (.Name x px) J fp it tn) (t0:tn 0 s.heap) (hf:∀b∈fp,bR X pins H b) (wc:jC J caps tc te σ H Q)
 (fin:∀D C s' m' H' ys,Inv X pins σ (upd H' D (.lst ys)) s'→Q (.ref D) (upd H' D (.lst ys))→s'.heap.Ns C m'→bR X pins (upd H' D (.lst ys)) C→C≠X.env.locals→RR (.ref D) C (.ok .next) s') :
 wpAny (model X.prog X.w) X.A (newList []) (fun acc s₃=>wpAny (model X.prog X.w) X.A (newFunctionEnv scope X.env.globals (fS X.env.cells scope.names) [] X.env.qual none .none (some X.env)) (fun cenv s₄=>
  codeAny (model X.prog X.w) X.A (.compStart (.ListComp elt [⟨.Name x px,iter,ifs,0⟩] scope pos) 0 (.ref it) acc {cenv with scope:=relabel scope X.env}) (RR acc cenv.locals) s₄) E s₃) E s:=by
 refine wpAny_newObj_type (wpAny_newFunctionEnv S.sh (by intro y hy;simp at hy) (fun h₁ gL iZ=>?_) S.kind)
 dsimp only at gL iZ ⊢
 generalize Ao:s.heap.push {cls:=.type "list",dict:=none,data:=.seq ([]:List Value).toArray}=H2 at gL iZ ⊢
 have hC:H2.objs.size=s.heap.objs.size+1:=by rw [←Ao,Heap.size_push]
 have vZ:s.heap.objs.size≠H2.objs.size:=by rw [hC];exact Nat.ne_of_lt (Nat.lt_succ_self _)
 have below:∀b,b<s.heap.objs.size→b≠H2.objs.size:=fun b hb=>by rw [hC];exact Nat.ne_of_lt (Nat.lt_succ_of_lt hb)
 have old:∀b o,s.heap.get? b=some o→h₁.get? b=some o:=fun b o e=>iZ.extBut b o (below b (Heap.lt_size e)) (Heap.get?_push_of_some _ (Ao▸Heap.get?_push_of_some _ e))
 have rR:h₁.get? s.heap.objs.size=some (lobj [] 0):=iZ.extBut _ _ vZ (Heap.get?_push_of_some _ (Ao▸Heap.get?_push_size _ rfl))
 have dY:∀b∈fp,b<s.heap.objs.size:=fun b hb=>by
  obtain⟨o,e,_⟩:=T.obj 0 _ t0 b hb
  exact Heap.lt_size e
 have mz:s.heap.objs.size∉fp:=fun z=>Nat.lt_irrefl _ (dY _ z)
 have dG:bR X pins H s.heap.objs.size:=I.lG (Nat.le_refl _) (I.aO.fresh (Nat.le_refl _))
 have ip:bR X pins H H2.objs.size:=I.lG (by rw [hC];exact Nat.le_succ _) (I.aO.fresh (by rw [hC];exact Nat.le_succ _))
 rw [hC] at gL vZ ip ⊢
 clear hC
 generalize hD:s.heap.objs.size=D at rR mz dG vZ
 have IY:=Bx S I hf dY (h₁:=h₁) (tk:=s.toks+([]:List (Str×Value)).length) gL old
 rw [hD] at IY gL ip
 generalize hY:lD X N scope (D+1) s H (D::fp)=Y at IY
 have jb:Y.env=compEnvC scope (fS X.env.cells scope.names) (D+1) X.env:=by rw [←hY];rfl
 have nj:Y.ex=D::fp:=by rw [←hY];rfl
 have Jm:Y.fs=cR X.stack:=by rw [←hY];rfl
 have Gw:Y.pn=[]:=by rw [←hY];rfl
 have mm:Y.env.locals=D+1:=by rw [jb];rfl
 have Ml:fe Y ifs tc:=by rw [←hY];exact hc _ _ _ _
 have NA:PE Y elt te:=by rw [←hY];exact he _ _ _ _
 have NG:Y.prog=X.prog∧Y.w=X.w∧Y.K=X.K∧Y.calm=X.calm∧Y.A=X.A∧Y.N=N∧Y.xe=fun _ _=>False:=by rw [←hY];exact⟨rfl,rfl,rfl,rfl,rfl,rfl,rfl⟩
 obtain⟨mO,mD,y3,zQ,qJ,yN,Aq⟩:=NG
 have Ar:∀{H':Hp}{pl:List (Addr×Obj)},(∀b∈fp,H' b=none)→(∀p∈pl,p.1=D)→∀b∈fp,bR Y pl H' b:=fun {H' pl} hn hp b hb=>by
  refine⟨hn b hb,?_,?_,.inl (by rw [nj];exact List.mem_cons_of_mem _ hb),fun y c e=>(IY.ok.oA b (by rw [nj];exact List.mem_cons_of_mem _ hb)).2 y c e,fun p DN z=>?_⟩
  · exact(IY.ok.oA b (by rw [nj];exact List.mem_cons_of_mem _ hb)).1
  · exact IY.ok.km b (by rw [nj];exact List.mem_cons_of_mem _ hb)
  · rw [Gw,List.nil_append] at DN
    exact mz (by rw [←hp p DN,z];exact hb)
 have rJ:D∈Y.ex:=by rw [nj];exact List.mem_cons_self
 have rY:∀{H':Hp}{s':Shared}{σ':St}{aq:List Value}{k:Nat},Inv Y [] σ' H' s'→H' D=none→s'.heap.get? D=some (lobj aq k)→Inv Y [(D,lobj aq k)] σ' H' s':=fun {H' s' σ' aq k} I' hn e=>
  I'.dw fun p hp=>by
   have y7:p=(D,lobj aq k):=by simpa using hp
   subst y7
   refine⟨e,hn,(IY.ok.oA D rJ).1,IY.ok.km D rJ,fun v z=>?_⟩
   have z':Data.seq aq.toArray k=Data.cell v:=z
   cases z'
 obtain⟨W,⟨m0,w0⟩,turn⟩:=wc
 have loop:∀s₃:Shared,s₃={s with heap:=h₁,toks:=s.toks+([]:List (Str×Value)).length}→
  codeAny (model X.prog X.w) X.A (.compLoop (.ListComp elt [⟨.Name x px,iter,ifs,0⟩] scope pos) 0 (.ref it) (.ref D) Y.env) (RR (.ref D) (D+1)) s₃:=by
  rintro s₃ rfl
  refine codeAny_compLoop_tests
   (fun n s'=>∃i ys aq k H',Inv Y [(D,lobj aq k)] (bc caps σ none) H' s'∧Vals ys aq∧ys.length≤sizeLine∧tn i s'.heap∧(∀b∈fp,H' b=none)∧W i n ys H') ?_ m0
   ⟨0,[],[],0,H,rY IY dG.1 rR,.nil,Nat.zero_le _,T.keep _ _ _ t0 fun b _ o e=>old b o e,fun b hb=>(hf b hb).1,w0⟩
  rintro n s1 ⟨i,ys,aq,k,H1,I1,rv,hl,pK,fr1,w1⟩
  have mv:∀p∈[(D,lobj aq k)],p.1=D:=fun p hp=>by
   have y7:p=(D,lobj aq k):=by simpa using hp
   rw [y7]
  rcases turn i n ys H1 w1 with ⟨stop,qn⟩|⟨go,hsz,Nx,hNx,step⟩
  · have z:=T.done Y mO mD y3 (zQ.trans cH) i [(D,lobj aq k)] s1 (bc caps σ none) H1 (notedBy (model X.prog X.w) X.A Y.env fun e s'=>RR (.ref D) (D+1) (.error e) s') I1 (Ar fr1 mv) pK stop
    rw [qJ] at z
    refine bD z fun r s2 ⟨hr,I2⟩=>?_
    subst hr
    obtain⟨eD,nD,_,_,_⟩:=I2.pin (D,lobj aq k) (List.mem_append_right _ List.mem_cons_self)
    have hU:Un (cR X.stack) (D::fp) H (upd H1 D (.lst ys)) s.heap s2.heap:=by
     have b:=I2.base
     rw [Jm,nj] at b
     have b':Un (cR X.stack) (D::fp) H H1 s.heap s2.heap:=by
      have e1:Y.H₀=H:=by rw [←hY];rfl
      have e2:Y.s₀=s:=by rw [←hY];rfl
      rw [e1,e2] at b;exact b
     have ne:∀a u,H1 a=some u→a≠D:=fun a u e=>aF e nD
     exact⟨b'.keep,b'.slot,fun a o e n hx=>by rw [aL (fun z=>hx (by rw [z];exact List.mem_cons_self))];exact b'.free a o e n hx,b'.there,
      fun a xs e=>by rw [aL (ne _ _ (b'.bU a xs e))];exact b'.bU a xs e,fun a o u e=>by rw [aL (ne _ _ (b'.fk a o u e))];exact b'.fk a o u e,
      fun a ps e=>by obtain⟨mo,q⟩:=b'.gH a ps e;exact⟨mo,by rw [aL (ne _ _ q)];exact q⟩⟩
    have zL:fN X.prog X.w (upd H1 D (.lst ys)) s2.heap:=by
     have q:=I2.aO
     rw [mO,mD] at q
     exact q.adopt nD ⟨hl,aq,k,rv,eD⟩
    have IX:Inv X pins σ (upd H1 D (.lst ys)) s2:=I.qw (by have:=I2.os;rw [show Y.s₀=s by rw [←hY];rfl] at this;exact this) hU zL I2.bare (fun b hb=>by
     rcases List.mem_cons.mp hb with rfl|hb
     · exact⟨dG.2.2.2.1,dG.2.1,dG.2.2.2.2.1,dG.2.2.2.2.2⟩
     · have q:=hf b hb
       exact⟨q.2.2.2.1,q.2.1,q.2.2.2.2.1,q.2.2.2.2.2⟩)
    obtain⟨mC,xU,_⟩:=I2.loc
    rw [mm] at xU
    have fC:=I2.free
    rw [mm] at fC
    exact fin D (D+1) s2 mC H1 ys IX (qn D nD) xU ⟨by rw [aL (fun z=>vZ z.symm)];exact fC,ip.2⟩ ip.2.1
  · have z:=AJ (T.item Y mO mD y3 (zQ.trans cH) i [(D,lobj aq k)] s1 (bc caps σ none) H1 (notedBy (model X.prog X.w) X.A Y.env fun e s'=>RR (.ref D) (D+1) (.error e) s') I1 (Ar fr1 mv) pK go)
    rw [qJ] at z
    refine bD z fun r s2 ⟨u,hr,v,H2,I2,ru,yT,jI,fr2⟩=>?_
    subst hr
    have I2':=I2.pinned (Ar fr2 mv) (T.obj _ _ jI)
    have Gh:Y.env.scope.names.lookup x=some .local:=by rw [jb];exact lookup_relabel_local S.lx
    have g:=dA (X:=Y) (i:=0) (x:=x) (pos:=px) (by rw [yN];exact S.nd) (by rw [yN];exact S.n0) (.inl Gh) (.inr Gh)
    have a:=g _ s2 _ H2 v u (fun σ' H'=>σ'=bc caps σ (some v)∧H'=H2) I2' ru ⟨rfl,rfl⟩
    rw [mO,mD,qJ,Aq] at a
    refine wpAny_mono a (fun _ s3 ⟨σ3,H3,I3,e1,e2⟩=>?_) fun _ _ f=>f.elim
    subst e1 e2
    have c:=Ml _ s3 _ H3 _ I3 (step v H3 yT)
    rw [mO,mD,qJ,Aq] at c
    refine wpAny_mono c (fun b s4 ⟨H4,I4,q4⟩=>?_) fun _ _ f=>f.elim
    have again:∀{s5:Shared}{H5:Hp}{ys':List V}{its':List Value}{k' m':Nat},Inv Y (cF fp s2.heap) (bc caps σ (some v)) H5 s5→H5 D=none→s5.heap.get? D=some (lobj its' k')→Vals ys' its'→ys'.length≤sizeLine→m'<n→W (i+1) m' ys' H5→
     ∃m,m<n∧∃i ys aq k H',Inv Y [(D,lobj aq k)] (bc caps σ none) H' s5∧Vals ys aq∧ys.length≤sizeLine∧tn i s5.heap∧(∀b∈fp,H' b=none)∧W i m ys H':=fun {s5 H5 ys' its' k' m'} I5 nD eD fu wq hm w'=>by
     refine⟨m',hm,i+1,ys',its',k',H5,rY ((I5.dw fun p hp=>by simp at hp).weak (by simp [bc]) fun j w hj=>?_) nD eD,fu,wq,T.keep _ _ _ jI fun b hb o e=>(I5.pin (b,o) (List.mem_append_right _ (cm hb e))).1,fun b hb=>?_,w'⟩
     · cases j with
       | zero=>simp [bc] at hj
       | succ j=>simpa [bc] using hj
     · obtain⟨o,e,d⟩:=T.obj _ _ jI b hb
       exact(I5.pin (b,o) (List.mem_append_right _ (cm hb e))).2.1
    have kz:∀{s5:Shared}{H5:Hp}{σ5:St},Inv Y ([(D,lobj aq k)]++cF fp s2.heap) σ5 H5 s5→Inv Y (cF fp s2.heap) σ5 H5 s5:=fun I5=>I5.dw fun p hp=>I5.pin p (List.mem_append_right _ (List.mem_append_right _ hp))
    cases b with
    | false=>
     obtain⟨m',hm,w'⟩:=hNx _ _ q4
     obtain⟨eD,nD,_⟩:=I4.pin (D,lobj aq k) (List.mem_append_right _ (List.mem_append_left _ List.mem_cons_self))
     exact again (kz I4) nD eD rv hl hm w'
    | true=>
     rw [if_pos rfl]
     rw [if_pos rfl] at q4
     have d:=NA _ s4 _ H4 _ I4 q4
     rw [mO,mD,qJ,Aq] at d
     refine wpAny_mono d (fun w s5 ⟨y,H5,I5,ry,q5⟩=>?_) fun _ _ f=>f.elim
     obtain⟨m',hm,w'⟩:=hNx _ _ q5
     obtain⟨eD,nD,_⟩:=I5.pin (D,lobj aq k) (List.mem_append_right _ (List.mem_append_left _ List.mem_cons_self))
     refine append_at (hsz:=by rw [List.size_toArray,←rv.length];exact hl) eD fun h6 Nw Mm=>?_
     have I6:Inv Y (cF fp s2.heap) (bc caps σ (some v)) H5 {s5 with heap:=h6,toks:=s5.toks}:=(kz I5).turned (fun b o hb e=>(Nw.2 b hb).trans e) nD (IY.ok.oA D rJ).1 (.inl rJ) (fun y c e=>(IY.ok.oA D rJ).2 y c e) (fun p hp=>by
      rw [Gw,List.nil_append] at hp
      intro z
      exact mz (by rw [←z];exact(iF hp).1))
     refine again (ys':=ys++[y]) (its':=aq++[w]) (k':=k+1) I6 nD ?_ (rv.append (.cons ry .nil)) (by rw [List.length_append,List.length_singleton];exact hsz) hm w'
     rw [Mm]
     show some ({cls:=.type "list",data:=.seq (aq.toArray.push w) (k+1)}:Obj)=some {cls:=.type "list",data:=.seq (aq++[w]).toArray (k+1)}
     rw [List.push_toArray]
 rw [jb] at loop
 have pK:tn 0 h₁:=T.keep _ _ _ t0 fun b _ o e=>old b o e
 exact codeAny_compStart_list (loop _ rfl) (T.self _ 0 _ _ _ pK (loop _ rfl))
theorem fB {elt iter:Expr}{px pos:Pos}{ifs:List Expr}{wi:TI}{tc:TT}{te:TE} (cH:X.calm=true) (S:si X scope x N caps) (hi:PI X (.Name x px) iter wi)
 (hc:∀C s H ex,fe (lD X N scope C s H ex) ifs tc) (he:∀C s H ex,PE (lD X N scope C s H ex) elt te) (hs:∀x,foldedSetIterable iter X.env x=pure x:=by intro _;rfl) :
 PE X (.ListComp elt [⟨.Name x px,iter,ifs,0⟩] scope pos) (uV wi caps tc te):=by
 intro pins s σ H Q I h
 rw [eval_ListComp]
 refine wpAny_comprehension_free (use:=none) rfl hs (dZ (S.cells I.ok)) S.kind S.names (bD (hi pins s σ H _ I h) fun xv s1 h1=>bD h1 fun MV s2 h2=>?_)
 obtain⟨it,fp,tn,J,H2,e,I2,T,jI,f2,wc⟩:=h2
 subst e
 refine rZ (RR:=fun acc C=>compPost (model X.prog X.w) X.A X.xe none (EP X pins σ Q) acc C) cH S hc he I2 T jI f2 wc fun D C s' m' H' ys I' q hn fC _=>?_
 refine⟨m',hn,fun h' dJ=>⟨.ref D,upd H' D (.lst ys),?_,rfl,q⟩⟩
 exact I'.turned (t':=s'.toks) (fun b o hb e=>(dJ.2 b hb).trans e) fC.1 fC.2.1 fC.2.2.2.1 fC.2.2.2.2.1 fC.2.2.2.2.2
theorem Jr {elt iter:Expr}{px py pos tJ:Pos}{ifs:List Expr}{wi:TI}{tc:TT}{te:TE}{y:Str}{i:Nat} (cH:X.calm=true) (S:si X scope x N caps) (hi:PI X (.Name x px) iter wi)
 (hc:∀C s H ex,fe (lD X N scope C s H ex) ifs tc) (he:∀C s H ex,PE (lD X N scope C s H ex) elt te) (hN:X.N.Nodup) (hy:X.N[i]? = some y) (hx:X.env.scope.names.lookup y=some .local)
 (MK:swapsWith (.ListComp elt [⟨.Name x px,iter,ifs,0⟩] scope pos) (some (.Name y py)) tJ.line X.env=pure true) (hs:∀x,foldedSetIterable iter X.env x=pure x:=by intro _;rfl) :
 PS X (.Assign [.Name y py] (.ListComp elt [⟨.Name x px,iter,ifs,0⟩] scope pos) tJ) (fun D σ H=>uV wi caps tc te σ H fun v H1=>D.nx (σ.set i (some v)) H1):=by
 intro pins s σ H D I h
 rw [exec_Assign_Name_used _ _ _ _ MK]
 refine wpAny_bind (wpAny_standAt (wpAny_bind ?_))
 show wpAny _ X.A (do let _ ←comprehension (.ListComp elt [⟨.Name x px,iter,ifs,0⟩] scope pos) scope X.env _ (newList []) false (eval iter X.env) (some (assign (.Name y py) X.env))) _ _ s
 refine wpAny_bind (wpAny_mono (wpAny_comprehension_free (use:=some (assign (.Name y py) X.env)) (Q:=fun _ s'=>SP X pins D .next s') rfl hs (dZ (S.cells I.ok)) S.kind S.names
  (bD (hi pins s σ H _ I h) fun xv s1 h1=>bD h1 fun MV s2 h2=>?_)) (fun _ s' hq=>wpAny_pure (wpAny_pure hq)) fun _ _ e=>e)
 obtain⟨it,fp,tn,J,H2,e,I2,T,jI,f2,wc⟩:=h2
 subst e
 refine rZ (RR:=fun acc C=>compPost (model X.prog X.w) X.A X.xe (some (assign (.Name y py) X.env)) (fun _ s'=>SP X pins D .next s') acc C) cH S hc he I2 T jI f2 wc fun d C s' m' H' ys I' q hn fC SY=>?_
 show wpAny _ X.A (assign (.Name y py) X.env (.ref d)) _ _ _
 refine wpAny_assign_Name (oj I' hN hy (.inl hx) (v:=.ref d) rfl (fun xk I'' ⟨a,hs,ha⟩=>?_) (.inr hx))
 have bH:C≠a:=by
  rcases ha with rfl|ha
  · exact SY
  · exact fun z=>fC.2.2.2.2.1 _ _ ha z.symm
 refine⟨m',hn.sameBut hs bH,fun h' dJ=>⟨_,_,I''.turned (t':=xk.toks) (fun b o hb e=>(dJ.2 b hb).trans e) fC.1 fC.2.1 fC.2.2.2.1 fC.2.2.2.2.1 fC.2.2.2.2.2,q⟩⟩
end
end L2
namespace L2
open PySem PySem.Spec PyProof.Rows
noncomputable def Q3 (x:Str):It:=⟨fun i _=>i<x.cps.size,fun i H v H'=>H'=H∧∃c,x.cps[i]? = some c∧v = .str ⟨#[c]⟩,fun i _=>i=x.cps.size⟩
theorem ED {P:Program}{w:World}{K:PySem.W.Frag}{tg:Expr} (it:Addr) (x:Str) (t:Tok) {ty:String} (GY:ty="str_ascii_iterator"∨ty="str_iterator"):Turn P w K tg (Q3 x) [it] it (fun i h=>h.IsStrIter it ty x t i) where
 mem:=by simp
 obj:=fun i h st b hb=>by
  have e:b=it:=by simpa using hb
  subst e
  obtain⟨o,e,c,d⟩:=st
  exact⟨o,e,fun v z=>by rw [d] at z;cases z⟩
 keep:=fun i h h' st k=>by
  obtain⟨o,e,c,d⟩:=st
  exact⟨o,k it (by simp) o e,c,d⟩
 item:=by
  intro X hP hw hK hc i pins s σ H E I hf st hg
  subst hP hw hK
  obtain⟨f0,f1,f2,f3,f4,f5⟩:=hf it (by simp)
  have W:Walks X.prog X.w X.A it [it] [it] x.cps.size (SignAt x) (fun i h=>h.IsStrIter it ty x t i):=by
   rcases GY with rfl|rfl
   · exact Walks.strAscii (I.ok.hd hc) it x t
   · exact Walks.strWide (I.ok.hd hc) it x t
  refine W.item i s _ _ hg st fun v h' tk hv Fs kk=>?_
  obtain⟨c,u,e,rfl⟩:=hv
  have I1:Inv X pins σ H {s with heap:=h',toks:=tk}:=I.turned (fun b o hb e=>kk b o (by simpa using hb) e) f0 f1 f3 f4 f5
  obtain⟨o,eo,co,dO⟩:=id Fs
  refine⟨_,rfl,BM (s:={s with heap:=h',toks:=tk}) eo co dO (by rcases GY with rfl|rfl<;>decide) ⟨.str ⟨#[c]⟩,H,I1,⟨u,rfl⟩,⟨rfl,c,e,rfl⟩,Fs,fun b hb=>(hf b hb).1⟩⟩
 done:=by
  intro X hP hw hK hc i pins s σ H E I hf st hg
  subst hP hw hK
  obtain⟨f0,f1,f2,f3,f4,f5⟩:=hf it (by simp)
  have W:Walks X.prog X.w X.A it [it] [it] x.cps.size (SignAt x) (fun i h=>h.IsStrIter it ty x t i):=by
   rcases GY with rfl|rfl
   · exact Walks.strAscii (I.ok.hd hc) it x t
   · exact Walks.strWide (I.ok.hd hc) it x t
  have hg':i=x.cps.size:=hg
  subst hg'
  exact W.done s _ _ st fun h' tk kk=>⟨rfl,I.turned (fun b o hb e=>kk b o (by simpa using hb) e) f0 f1 f3 f4 f5⟩
 self:=fun _ _ _ _ _ st h=>by
  rcases GY with rfl|rfl
  · exact wpAny_pyIter_striter_ascii st h
  · exact wpAny_pyIter_striter_wide st h
noncomputable def Oc (tl:TE):TI:=fun σ H R=>tl σ H fun x H1=>∃z,x = .str z∧R (Q3 z) H1
theorem Fy {X:Cx}{tg l:Expr}{tl:TE} (hl:PE X l tl):PI X tg l (Oc tl):=by
 intro pins s σ H R I h
 refine bD (hl pins s σ H _ I h) fun v s1 ⟨x,H1,I1,r1,q1⟩=>?_
 obtain⟨z,e,q⟩:=q1
 subst e
 obtain⟨t,rfl⟩:=r1
 have fin:∀{ty:String},ty="str_ascii_iterator"∨ty="str_iterator"→PIE X pins σ tg R (.ref s1.heap.objs.size) {s1 with heap:=s1.heap.push {cls:=.type ty,data:=.fields #[.str z t,.int 0 0]}}:=fun {ty} GY=>by
  refine⟨s1.heap.objs.size,[s1.heap.objs.size],_,_,H1,rfl,I1.kept (t':=s1.toks) fun b o e=>Heap.get?_push_of_some _ e,ED _ z t GY,⟨_,Heap.get?_push_size _ rfl,rfl,rfl⟩,fun b hb=>?_,q⟩
  have e:b=s1.heap.objs.size:=by simpa using hb
  subst e
  exact I1.lG (Nat.le_refl _) (I1.aO.fresh (Nat.le_refl _))
 cases ha:z.cps.all (· < 128)
 · exact wpAny_pyIter_wide ha (fin (.inr rfl))
 · exact wpAny_pyIter_ascii ha (fin (.inl rfl))
theorem Di {K:PySem.W.Frag}{a:Addr}{xs:List V}{caps:List Nat}{tc:TT}{te:TE}{σ:St}{H:Hp}{Q:VK} (Pv:Nat→List V→Hp→Prop) (h0:Pv 0 [] H) (hx:xs.length<sizeLine) (hy:∀i ys H,Pv i ys H→ys.length≤i)
 (hl:∀i ys H,i≤xs.length→Pv i ys H→fD K H a xs)
 (hs:∀i x ys H,xs[i]? = some x→Pv i ys H→tc (bc caps σ (some x)) H fun b H2=>if b=true then te (bc caps σ (some x)) H2 fun y H3=>Pv (i+1) (ys++[y]) H3 else Pv (i+1) ys H2)
 (hd:∀ys H,Pv xs.length ys H→∀p,H p=none→Q (.ref p) (upd H p (.lst ys))):jC (NX K a) caps tc te σ H Q:=by
 refine⟨fun i m ys H=>m=xs.length - i∧i≤xs.length∧Pv i ys H,⟨xs.length,by simp,Nat.zero_le _,h0⟩,?_⟩
 rintro i m ys H ⟨rfl,hi,p⟩
 have q:=hl i ys H hi p
 by_cases dY:i<xs.length
 · refine .inr ⟨⟨xs,xs[i],q,by simp [dY]⟩,Nat.lt_of_le_of_lt (Nat.le_trans (hy i ys H p) hi) hx,Pv (i+1),fun ys' H' p'=>⟨xs.length - (i+1),by omega,rfl,dY,p'⟩,fun x H' y=>?_⟩
   obtain⟨e,y⟩:=y
   subst e
   exact hs i x ys _ (y xs q) p
 · have e:i=xs.length:=by omega
   subst e
   exact .inl ⟨⟨xs,q,Nat.le_refl _⟩,hd ys H p⟩
theorem zc {lo:Int}{n:Nat}{caps:List Nat}{tc:TT}{te:TE}{σ:St}{H:Hp}{Q:VK} (Pv:Nat→List V→Hp→Prop) (h0:Pv 0 [] H) (hx:n<sizeLine) (hy:∀i ys H,Pv i ys H→ys.length≤i)
 (hs:∀i ys H,i<n→Pv i ys H→tc (bc caps σ (some (.int (lo+i)))) H fun b H2=>if b=true then te (bc caps σ (some (.int (lo+i)))) H2 fun y H3=>Pv (i+1) (ys++[y]) H3 else Pv (i+1) ys H2)
 (hd:∀ys H,Pv n ys H→∀p,H p=none→Q (.ref p) (upd H p (.lst ys))):jC (GZ lo n) caps tc te σ H Q:=by
 refine⟨fun i m ys H=>m=n - i∧i≤n∧Pv i ys H,⟨n,by simp,Nat.zero_le _,h0⟩,?_⟩
 rintro i m ys H ⟨rfl,hi,p⟩
 by_cases dY:i<n
 · refine .inr ⟨dY,Nat.lt_of_le_of_lt (Nat.le_trans (hy i ys H p) hi) hx,Pv (i+1),fun ys' H' p'=>⟨n - (i+1),by omega,rfl,dY,p'⟩,fun x H' y=>?_⟩
   obtain⟨e,y⟩:=y
   subst e y
   exact hs i ys _ dY p
 · have e:i=n:=by omega
   subst e
   exact .inl ⟨Nat.le_refl _,hd ys H p⟩
theorem yL {x:Str}{caps:List Nat}{tc:TT}{te:TE}{σ:St}{H:Hp}{Q:VK} (Pv:Nat→List V→Hp→Prop) (h0:Pv 0 [] H) (hx:x.cps.size<sizeLine) (hy:∀i ys H,Pv i ys H→ys.length≤i)
 (hs:∀i c ys H,x.cps[i]? = some c→Pv i ys H→tc (bc caps σ (some (.str ⟨#[c]⟩))) H fun b H2=>if b=true then te (bc caps σ (some (.str ⟨#[c]⟩))) H2 fun y H3=>Pv (i+1) (ys++[y]) H3 else Pv (i+1) ys H2)
 (hd:∀ys H,Pv x.cps.size ys H→∀p,H p=none→Q (.ref p) (upd H p (.lst ys))):jC (Q3 x) caps tc te σ H Q:=by
 refine⟨fun i m ys H=>m=x.cps.size - i∧i≤x.cps.size∧Pv i ys H,⟨x.cps.size,by simp,Nat.zero_le _,h0⟩,?_⟩
 rintro i m ys H ⟨rfl,hi,p⟩
 by_cases dY:i<x.cps.size
 · refine .inr ⟨dY,Nat.lt_of_le_of_lt (Nat.le_trans (hy i ys H p) hi) hx,Pv (i+1),fun ys' H' p'=>⟨x.cps.size - (i+1),by omega,rfl,dY,p'⟩,fun v H' y=>?_⟩
   obtain⟨e,c,ec,ev⟩:=y
   subst e ev
   exact hs i c ys _ ec p
 · have e:i=x.cps.size:=by omega
   subst e
   exact .inl ⟨rfl,hd ys H p⟩
section
variable {X : Cx}
noncomputable def Qe:V→Option Int→Option Int→Hp→VK→Prop:=fun x lo hi H Q=>∃z,x = .str z∧z.length≤sizeLine∧Q (.str (Txt.slice z lo hi)) H
theorem zk:GC X Qe:=by
 intro pins s σ H x v vl vu lo hi sl Q I rx hs pl pu h
 obtain⟨z,rfl,hz,q⟩:=h
 obtain⟨t,rfl⟩:=rx
 refine⟨"str",_,F.slot_str_getitem.lookup,typeIs_str _ _ _,?_⟩
 have fin:∀t' k,EP X pins σ Q (.str (Txt.slice z lo hi) t') {s with toks:=k}:=fun t' k=>⟨.str _,H,I.tok _,⟨_,rfl⟩,q⟩
 cases pl with
 | none=>
  cases pu with
  | none=>exact wpAny_getItem_str_slice (l:=none) (u:=none) (st:=none) hs rfl (post_val_or_str ⟨Nat.le_trans (Txt.slice_le z _ _) hz,fin⟩)
  | int j uj=>exact wpAny_getItem_str_slice (l:=none) (u:=some (j,uj)) (st:=none) hs rfl (post_val_or_str ⟨Nat.le_trans (Txt.slice_le z _ _) hz,fin⟩)
 | int i ui=>
  cases pu with
  | none=>exact wpAny_getItem_str_slice (l:=some (i,ui)) (u:=none) (st:=none) hs rfl (post_val_or_str ⟨Nat.le_trans (Txt.slice_le z _ _) hz,fin⟩)
  | int j uj=>exact wpAny_getItem_str_slice (l:=some (i,ui)) (u:=some (j,uj)) (st:=none) hs rfl (post_val_or_str ⟨Nat.le_trans (Txt.slice_le z _ _) hz,fin⟩)
theorem kY:kg X (compareOp .LtE) (fun x y H Q=>∃i j,x = .str i∧y = .str j∧Q (.bl (!decide (j.cps.toList<i.cps.toList))) H):=by
 intro pins s σ H x y v u Q I rx ry h
 obtain⟨i,j,rfl,rfl,q⟩:=h
 obtain⟨t,rfl⟩:=rx
 obtain⟨t',rfl⟩:=ry
 exact PySem.P.le_str ⟨.bl _,H,I,rfl,q⟩
theorem sR {ys:List Str}:∀{us:List Value},Vals (ys.map V.str) us→StrsAre us ys:=by
 induction ys with
 | nil=>intro us r;cases r;exact .nil
 | cons y ys ih=>
  intro us r
  cases r with
  | cons r t=>
   obtain⟨k,rfl⟩:=r
   exact .cons y k (ih t)
noncomputable def rJoin (K:PySem.W.Frag):V→List V→Hp→VK→Prop:=fun x xs H Q=>∃sep a ys,x = .str sep∧xs=[.ref a]∧(fD K H a (ys.map V.str)∨jr K H a (ys.map V.str))∧(ys.map (·.length)).sum+ys.length*sep.length≤16777216∧Q (.str (Txt.join sep ys)) H
theorem qU:G0 X "str.join" (rJoin X.K):=by
 intro pins s σ H x xs v us Q I rx rs h
 obtain⟨sep,a,ys,rfl,rfl,hq,aO,q⟩:=h
 obtain⟨t,rfl⟩:=rx
 obtain⟨u,rfl,ru⟩:=vals1 rs
 cases ru
 rcases hq with hq|hq
 · obtain⟨aq,rv,p,hz⟩:=I.list hq
   exact join_list p.isList (sR rv) aO fun t' k=>⟨.str _,H,I.tok _,⟨_,rfl⟩,q⟩
 · obtain⟨aq,rv,p,hz⟩:=I.tuple hq
   exact join_tuple p (sR rv) aO fun t' k=>⟨.str _,H,I.tok _,⟨_,rfl⟩,q⟩
noncomputable def RJ:List TE→Str→TE
 | [],acc=>fun _ H Q=>acc.length≤sizeLine∧Q (.str acc) H
 | t::r,acc=>fun σ H Q=>t σ H fun v H1=>∃y,v = .str y∧(acc++y).length≤sizeLine∧RJ r (acc++y) σ H1 Q
inductive O0 (X:Cx):List Expr→List TE→Prop
 | nil:O0 X [] []
 | cons {e:Expr}{t:TE}{es:List Expr}{ts:List TE}:PE X e t→O0 X es ts→O0 X (e::es) (t::ts)
theorem Fx {pins:List (Addr×Obj)}{σ:St}{Q:VK}{es:List Expr}{ts:List TE} (h:O0 X es ts):∀(acc:Str) (H:Hp) (s:Shared),Inv X pins σ H s→RJ ts acc σ H Q→
 Joins (model X.prog X.w) X.A X.xe (evalEach es X.env) acc (fun out s₁=>out.length≤sizeLine∧EP X pins σ Q (.str out s₁.toks) {s₁ with toks:=s₁.toks+1}) s:=by
 induction h with
 | nil=>intro acc H s I h;exact⟨h.1,.str acc,H,I.tok _,⟨_,rfl⟩,h.2⟩
 | @cons e t es ts he _ ih=>
  intro acc H s I h
  refine bD (he pins s σ H _ I h) fun v s1 ⟨x,H1,I1,r1,y,ey,hz,q⟩=>?_
  subst ey
  obtain⟨t,rfl⟩:=r1
  exact⟨y,t,rfl,hz,ih _ H1 s1 I1 q⟩
theorem r9 {e1 e2:Expr}{es:List Expr}{ts:List TE}{pos:Pos} (h:O0 X (e1::e2::es) ts):PE X (.JoinedStr (e1::e2::es) pos) (RJ ts Str.empty):=by
 intro pins s σ H Q I hw
 exact JoinedStr_many (wpAny_joinPartsRec _ _ _ _ (Fx h _ H s I hw))
theorem ue {P:Program}{w:World}{A:Around}{bs:List Bool}{aq:List Value} (r:Vals (bs.map V.bl) aq):TruthOf P w A (fun i v=>aq.toArray[i]? = some v) (fun i=>bs.getD i false):=fun i v s Q E hv hq=>by
 have tL:aq[i]? = some v:=by simpa using hv
 have hi:i<aq.length:=(List.getElem?_eq_some_iff.mp tL).1
 have hb:i<bs.length:=by have:=r.length;simp at this;omega
 obtain⟨u,hu,ru⟩:=r.get (i:=i) (x:=.bl bs[i]) (by simp [hb])
 rw [tL] at hu;cases hu
 cases ru
 have e:bs.getD i false=bs[i]:=by simp [List.getD,hb]
 have OT:Q (bs.getD i false) s:=hq
 rw [e] at OT
 exact wpAny_truthy_bool OT
theorem all_range (bs:List Bool):(List.range bs.length).all (fun i=>bs.getD i false)=bs.all id:=by
 rw [Bool.eq_iff_iff,List.all_eq_true,List.all_eq_true]
 constructor
 · intro h b hb
   obtain⟨i,hi,rfl⟩:=List.mem_iff_getElem.mp hb
   have:=h i (List.mem_range.mpr hi)
   simpa [List.getD,hi] using this
 · intro h i hi
   have hi:=List.mem_range.mp hi
   have:=h bs[i] (List.getElem_mem hi)
   simpa [List.getD,hi] using this
theorem any_range (bs:List Bool):(List.range bs.length).any (fun i=>bs.getD i false)=bs.any id:=by
 rw [Bool.eq_iff_iff,List.any_eq_true,List.any_eq_true]
 constructor
 · rintro ⟨i,hi,h⟩
   have hi:=List.mem_range.mp hi
   exact⟨bs[i],List.getElem_mem hi,by simpa [List.getD,hi] using h⟩
 · rintro ⟨b,hb,h⟩
   obtain⟨i,hi,rfl⟩:=List.mem_iff_getElem.mp hb
   exact⟨i,List.mem_range.mpr hi,by simpa [List.getD,hi] using h⟩
theorem w6 (hc:X.calm=true):ck X (.builtin "all") (fun xs H Q=>∃(a:Addr) (bs:List Bool),xs=[.ref a]∧fD X.K H a (bs.map V.bl)∧Q (.bl (bs.all id)) H):=by
 intro pins s σ H xs us Q I r h
 obtain⟨a,bs,rfl,hq,q⟩:=h
 obtain⟨u,rfl,ru⟩:=vals1 r
 cases ru
 obtain⟨aq,rv,p,hz⟩:=I.list hq
 have I1:Inv X pins σ H {s with heap:=s.heap.push {cls:=.type "list_iterator",data:=.fields #[.ref a,.int 0 0]}}:=I.kept (t':=s.toks) fun b o e=>Heap.get?_push_of_some _ e
 have fp:=I.lG (b:=s.heap.objs.size) (Nat.le_refl _) (I.aO.fresh (Nat.le_refl _))
 have hl:=rv.length
 have dY:a<s.heap.objs.size:=by obtain⟨o,ho,_⟩:=p.isList;exact Heap.lt_size ho
 refine call_all_walk (wpAny_pyIter_list p.isList ⟨s.heap.objs.size,[s.heap.objs.size,a],[s.heap.objs.size],aq.toArray.size,_,_,fun i=>bs.getD i false,rfl,
  Walks.list (A:=X.A.in1) (show X.A.in1.handled=none from I.ok.hd hc) _ _ (Nat.ne_of_lt dY) aq.toArray,⟨⟨_,Heap.get?_push_size _ rfl,rfl,rfl⟩,p.isList.push _⟩,ue rv,fun h' tk kk=>?_⟩)
 refine⟨.bl (bs.all id),H,I1.turned (fun b o hb e=>kk b o (by simpa using hb) e) fp.1 fp.2.1 fp.2.2.2.1 fp.2.2.2.2.1 fp.2.2.2.2.2,?_,q⟩
 have e:aq.toArray.size=bs.length:=by simp at hl ⊢;exact hl.symm
 rw [e,all_range]
 rfl
end
end L2
namespace L2
open PySem PySem.Spec PyProof.Rows
inductive D where
 | non|bl (b:Bool)|int (i:Int)|str (x:Str)|tup (ds:List D)|lst (ds:List D)
mutual
noncomputable def D.eq:D→D→Bool
 | .non,e=>match e with | .non=>true|_=>false
 | .bl a,e=>match e with | .bl b=>a==b | .int j=>(if a then (1:Int) else 0)==j|_=>false
 | .int i,e=>match e with | .int j=>i==j | .bl b=>i==(if b then (1:Int) else 0)|_=>false
 | .str x,e=>match e with | .str y=>x==y|_=>false
 | .tup ds,e=>match e with | .tup es=>D.eqs ds es|_=>false
 | .lst ds,e=>match e with | .lst es=>D.eqs ds es|_=>false
noncomputable def D.eqs:List D→List D→Bool
 | [],es=>es.isEmpty
 | d::ds,es=>match es with|[]=>false|e::r=>D.eq d e&&D.eqs ds r
end
mutual
noncomputable def D.dp:D→Nat
 | .tup ds=>D.tK ds+1
 | .lst ds=>D.tK ds+1
 | _=>0
noncomputable def D.tK:List D→Nat
 | []=>0
 | d::ds=>max (D.dp d) (D.tK ds)
end
mutual
noncomputable def D.cl:D→Bool
 | .bl _=>false
 | .tup ds=>D.cls ds
 | .lst ds=>D.cls ds
 | _=>true
noncomputable def D.cls:List D→Bool
 | []=>true
 | d::ds=>D.cl d&&D.cls ds
end
mutual
theorem D.lp:∀d:D,D.eq d d=true
 | .non=>rfl
 | .bl b=>by simp [D.eq]
 | .int i=>by simp [D.eq]
 | .str x=>by simp [D.eq]
 | .tup ds=>by simp only [D.eq];exact D.sW ds
 | .lst ds=>by simp only [D.eq];exact D.sW ds
theorem D.sW:∀ds:List D,D.eqs ds ds=true
 | []=>rfl
 | d::ds=>by simp only [D.eqs,D.lp d,D.sW ds,Bool.and_self]
end
mutual
theorem D.KA:∀(d e:D),d.cl=true→e.cl=true→D.eq d e=true→d=e
 | .non,e,_,_,h=>by cases e<;>first|rfl|(simp [D.eq] at h)
 | .bl b,e,c,_,_=>by simp [D.cl] at c
 | .int i,e,_,c,h=>by cases e<;>first|(exfalso;simp [D.cl] at c;done)|(simp [D.eq] at h;rw [h];done)|(simp [D.eq] at h)
 | .str x,e,_,_,h=>by cases e<;>first|(simp [D.eq] at h;rw [h])|(simp [D.eq] at h)
 | .tup ds,e,c,c',h=>by
  cases e<;>first
   | (rename_i es
      simp only [D.eq] at h
      simp only [D.cl] at c c'
      rw [D.zD ds es c c' h])
   | (simp [D.eq] at h)
 | .lst ds,e,c,c',h=>by
  cases e<;>first
   | (rename_i es
      simp only [D.eq] at h
      simp only [D.cl] at c c'
      rw [D.zD ds es c c' h])
   | (simp [D.eq] at h)
theorem D.zD:∀(ds es:List D),D.cls ds=true→D.cls es=true→D.eqs ds es=true→ds=es
 | [],es,_,_,h=>by cases es<;>first|rfl|(simp [D.eqs] at h)
 | d::ds,es,c,c',h=>by
  cases es with
  | nil=>simp [D.eqs] at h
  | cons e r=>
   simp only [D.eqs,Bool.and_eq_true] at h
   simp only [D.cls,Bool.and_eq_true] at c c'
   rw [D.KA d e c.1 c'.1 h.1,D.zD ds r c.2 c'.2 h.2]
end
theorem D.eq_iff {d e:D} (c:d.cl=true) (c':e.cl=true):D.eq d e=true↔d=e:=⟨D.KA d e c c',fun h=>by rw [h];exact D.lp e⟩
theorem D.NJ {d e:D}{p:Prop} [Decidable p] (c:d.cl=true) (c':e.cl=true) (h:d=e↔p):D.eq d e=decide p:=by
 rw [Bool.eq_iff_iff,D.eq_iff c c',h,decide_eq_true_iff]
theorem D.mI:∀{ds es:List D},D.eqs ds es=true→ds.length=es.length
 | [],es,h=>by cases es<;>simp_all [D.eqs]
 | d::ds,es,h=>by
  cases es with
  | nil=>simp [D.eqs] at h
  | cons e r=>
   simp only [D.eqs,Bool.and_eq_true] at h
   simp [D.mI h.2]
theorem D.i9:∀(ds es:List D),(((List.range (min ds.length es.length)).all fun j=>D.eq (ds.getD j .non) (es.getD j .non))&&ds.length==es.length)=D.eqs ds es
 | [],es=>by cases es<;>simp [D.eqs]
 | d::ds,es=>by
  cases es with
  | nil=>simp [D.eqs]
  | cons e r=>
   have ih:=D.i9 ds r
   have e1:min (d::ds).length (e::r).length=min ds.length r.length+1:=by simp only [List.length_cons];omega
   have e2:((d::ds).length==(e::r).length)=(ds.length==r.length):=by simp
   have e3:((List.range (min ds.length r.length+1)).all fun j=>D.eq ((d::ds).getD j .non) ((e::r).getD j .non))=(D.eq d e&&(List.range (min ds.length r.length)).all fun j=>D.eq (ds.getD j .non) (r.getD j .non)):=by
    rw [List.range_succ_eq_map,List.all_cons,List.all_map]
    rfl
   rw [e1,e2,e3]
   simp only [D.eqs]
   rw [←ih,Bool.and_assoc]
mutual
noncomputable def Dt (H:Hp):D→V→Prop
 | .non,v=>v = .non
 | .bl b,v=>v = .bl b
 | .int i,v=>v = .int i
 | .str x,v=>v = .str x
 | .tup ds,v=>∃a vs,v = .ref a∧H a=some (.tup vs)∧aR H ds vs
 | .lst ds,v=>∃a vs,v = .ref a∧H a=some (.lst vs)∧aR H ds vs
noncomputable def aR (H:Hp):List D→List V→Prop
 | [],vs=>vs=[]
 | d::ds,vs=>∃v r,vs=v::r∧Dt H d v∧aR H ds r
end
theorem aR.length {H:Hp}:∀{ds:List D}{vs:List V},aR H ds vs→vs.length=ds.length
 | [],vs,h=>by simp only [aR] at h;simp [h]
 | d::ds,vs,h=>by
  simp only [aR] at h
  obtain⟨v,r,rfl,_,h⟩:=h
  simp [aR.length h]
theorem aR.get {H:Hp}:∀{ds:List D}{vs:List V}{i:Nat}{d:D},aR H ds vs→ds[i]? = some d→∃v,vs[i]? = some v∧Dt H d v
 | [],vs,i,d,_,e=>by simp at e
 | d'::ds,vs,i,d,h,e=>by
  simp only [aR] at h
  obtain⟨v,r,rfl,h1,h2⟩:=h
  cases i with
  | zero=>simp at e;subst e;exact⟨v,rfl,h1⟩
  | succ i=>simpa using aR.get (i:=i) h2 (by simpa using e)
theorem aR.append {H:Hp}:∀{ds es:List D}{vs us:List V},aR H ds vs→aR H es us→aR H (ds++es) (vs++us)
 | [],es,vs,us,h,h'=>by simp only [aR] at h;subst h;simpa using h'
 | d::ds,es,vs,us,h,h'=>by
  simp only [aR] at h
  obtain⟨v,r,rfl,h1,h2⟩:=h
  show aR H (d::(ds++es)) (v::(r++us))
  simp only [aR]
  exact⟨v,r++us,rfl,h1,aR.append h2 h'⟩
theorem aR.one {H:Hp}{d:D}{v:V} (h:Dt H d v):aR H [d] [v]:=by
 simp only [aR]
 exact⟨v,[],rfl,h,rfl⟩
theorem aR.nil {H:Hp}:aR H [] []:=by simp only [aR]
theorem aR.cons {H:Hp}{d:D}{v:V}{ds:List D}{vs:List V} (h:Dt H d v) (t:aR H ds vs):aR H (d::ds) (v::vs):=by
 simp only [aR]
 exact⟨v,vs,rfl,h,t⟩
theorem aR.take {H:Hp}:∀{ds:List D}{vs:List V} (n:Nat),aR H ds vs→aR H (ds.take n) (vs.take n)
 | _,_,0,_=>by simp [aR]
 | [],vs,n+1,h=>by simp only [aR] at h;subst h;simp [aR]
 | d::ds,vs,n+1,h=>by
  simp only [aR] at h
  obtain⟨v,r,rfl,h1,h2⟩:=h
  exact aR.cons h1 (aR.take n h2)
theorem aR.drop {H:Hp}:∀{ds:List D}{vs:List V} (n:Nat),aR H ds vs→aR H (ds.drop n) (vs.drop n)
 | _,_,0,h=>h
 | [],vs,n+1,h=>by simp only [aR] at h;subst h;simp [aR]
 | d::ds,vs,n+1,h=>by
  simp only [aR] at h
  obtain⟨v,r,rfl,h1,h2⟩:=h
  exact aR.drop n h2
theorem aR.set {H:Hp}{d:D}{v:V} (h:Dt H d v):∀{ds:List D}{vs:List V} (n:Nat),aR H ds vs→aR H (ds.set n d) (vs.set n v)
 | [],vs,n,h'=>by simp only [aR] at h';subst h';simp [aR]
 | e::ds,vs,0,h'=>by
  simp only [aR] at h'
  obtain⟨u,r,rfl,h1,h2⟩:=h'
  exact aR.cons h h2
 | e::ds,vs,n+1,h'=>by
  simp only [aR] at h'
  obtain⟨u,r,rfl,h1,h2⟩:=h'
  exact aR.cons h1 (aR.set h n h2)
mutual
theorem Dt.inj {H:Hp}:∀{d e:D}{v:V},Dt H d v→Dt H e v→d=e
 | .non,e,v,h,h'=>by simp only [Dt] at h;subst h;cases e<;>simp_all [Dt]
 | .bl b,e,v,h,h'=>by simp only [Dt] at h;subst h;cases e<;>simp_all [Dt]
 | .int i,e,v,h,h'=>by simp only [Dt] at h;subst h;cases e<;>simp_all [Dt]
 | .str x,e,v,h,h'=>by simp only [Dt] at h;subst h;cases e<;>simp_all [Dt]
 | .tup ds,e,v,h,h'=>by
  simp only [Dt] at h
  obtain⟨a,vs,rfl,ea,hs⟩:=h
  cases e with
  | tup es=>
   simp only [Dt] at h'
   obtain⟨a',Sf,q,CB,dJ⟩:=h'
   cases q
   rw [ea] at CB;cases CB
   rw [aR.inj hs dJ]
  | lst es=>
   simp only [Dt] at h'
   obtain⟨a',Sf,q,CB,dJ⟩:=h'
   cases q
   rw [ea] at CB;cases CB
  | _=>simp [Dt] at h'
 | .lst ds,e,v,h,h'=>by
  simp only [Dt] at h
  obtain⟨a,vs,rfl,ea,hs⟩:=h
  cases e with
  | lst es=>
   simp only [Dt] at h'
   obtain⟨a',Sf,q,CB,dJ⟩:=h'
   cases q
   rw [ea] at CB;cases CB
   rw [aR.inj hs dJ]
  | tup es=>
   simp only [Dt] at h'
   obtain⟨a',Sf,q,CB,dJ⟩:=h'
   cases q
   rw [ea] at CB;cases CB
  | _=>simp [Dt] at h'
theorem aR.inj {H:Hp}:∀{ds es:List D}{vs:List V},aR H ds vs→aR H es vs→ds=es
 | [],es,vs,h,h'=>by
  simp only [aR] at h;subst h
  cases es<;>simp_all [aR]
 | d::ds,es,vs,h,h'=>by
  simp only [aR] at h
  obtain⟨v,r,rfl,h1,h2⟩:=h
  cases es with
  | nil=>simp [aR] at h'
  | cons e es=>
   simp only [aR] at h'
   obtain⟨v',r',q,h1',h2'⟩:=h'
   cases q
   rw [Dt.inj h1 h1',aR.inj h2 h2']
end
mutual
theorem Dt.same {H H':Hp} (S:ay H H'):∀{d:D}{v:V},Dt H d v→Dt H' d v
 | .non,v,h=>h
 | .bl b,v,h=>h
 | .int i,v,h=>h
 | .str x,v,h=>h
 | .tup ds,v,h=>by
  simp only [Dt] at h ⊢
  obtain⟨a,vs,rfl,ea,hs⟩:=h
  exact⟨a,vs,rfl,S _ _ ea,aR.same S hs⟩
 | .lst ds,v,h=>by
  simp only [Dt] at h ⊢
  obtain⟨a,vs,rfl,ea,hs⟩:=h
  exact⟨a,vs,rfl,S _ _ ea,aR.same S hs⟩
theorem aR.same {H H':Hp} (S:ay H H'):∀{ds:List D}{vs:List V},aR H ds vs→aR H' ds vs
 | [],vs,h=>h
 | d::ds,vs,h=>by
  simp only [aR] at h ⊢
  obtain⟨v,r,rfl,h1,h2⟩:=h
  exact⟨v,r,rfl,Dt.same S h1,aR.same S h2⟩
end
mutual
noncomputable def D.nl:D→Bool
 | .lst _=>false
 | .tup ds=>D.my ds
 | _=>true
noncomputable def D.my:List D→Bool
 | []=>true
 | d::ds=>D.nl d&&D.my ds
end
noncomputable def nc (H H':Hp):Prop:=∀b xs,H b=some (.tup xs)→H' b=some (.tup xs)
theorem ay.bU {H H':Hp} (S:ay H H'):nc H H':=fun b xs h=>S b _ h
theorem nc.trans {H H1 H2:Hp} (a:nc H H1) (b:nc H1 H2):nc H H2:=fun c o h=>b c o (a c o h)
theorem nc.refl (H:Hp):nc H H:=fun _ _ h=>h
theorem nc.lst {H:Hp}{p:Addr}{xs ys:List V} (h:H p=some (.lst xs)):nc H (upd H p (.lst ys)):=fun b zs e=>by
 rw [aL (lM e h (by intro z;cases z))];exact e
mutual
theorem Dt.bU {H H':Hp} (S:nc H H'):∀{d:D}{v:V},d.nl=true→Dt H d v→Dt H' d v
 | .non,v,_,h=>h
 | .bl b,v,_,h=>h
 | .int i,v,_,h=>h
 | .str x,v,_,h=>h
 | .tup ds,v,n,h=>by
  simp only [Dt] at h ⊢
  obtain⟨a,vs,rfl,ea,hs⟩:=h
  simp only [D.nl] at n
  exact⟨a,vs,rfl,S _ _ ea,aR.bU S n hs⟩
 | .lst ds,v,n,h=>by simp [D.nl] at n
theorem aR.bU {H H':Hp} (S:nc H H'):∀{ds:List D}{vs:List V},D.my ds=true→aR H ds vs→aR H' ds vs
 | [],vs,_,h=>h
 | d::ds,vs,n,h=>by
  simp only [aR] at h ⊢
  obtain⟨v,r,rfl,h1,h2⟩:=h
  simp only [D.my,Bool.and_eq_true] at n
  exact⟨v,r,rfl,Dt.bU S n.1 h1,aR.bU S n.2 h2⟩
end
section
variable {P : Program} {w : World} {H : Hp} {s : Shared}
open PySem.SeqAt
theorem bo (aO:fN P w H s.heap) {d:D}{v:V}{u:Value} (h:Dt H d v) (r:RelV v u) :
 (∃ds a vs aq,d = .tup ds∧v = .ref a∧u = .ref a∧aR H ds vs∧Vals vs aq∧s.heap.IsTuple a aq.toArray)∨(∃ds a vs aq,d = .lst ds∧v = .ref a∧u = .ref a∧aR H ds vs∧Vals vs aq∧s.heap.IsList a aq.toArray) ∨
 (d = .non∧u = .none)∨(∃b,d = .bl b∧u = .bool b)∨(∃i t,d = .int i∧u = .int i t)∨∃x t,d = .str x∧u = .str x t:=by
 cases d with
 | non=>simp only [Dt] at h;subst h;cases r;exact .inr (.inr (.inl ⟨rfl,rfl⟩))
 | bl b=>simp only [Dt] at h;subst h;cases r;exact .inr (.inr (.inr (.inl ⟨b,rfl,rfl⟩)))
 | int i=>simp only [Dt] at h;subst h;obtain⟨t,rfl⟩:=r;exact .inr (.inr (.inr (.inr (.inl ⟨i,t,rfl,rfl⟩))))
 | str x=>simp only [Dt] at h;subst h;obtain⟨t,rfl⟩:=r;exact .inr (.inr (.inr (.inr (.inr ⟨x,t,rfl,rfl⟩))))
 | tup ds=>
  simp only [Dt] at h
  obtain⟨a,vs,rfl,ea,hs⟩:=h
  cases r
  obtain⟨_,aq,rv,p⟩:=aO a _ ea
  exact .inl ⟨ds,a,vs,aq,rfl,rfl,rfl,hs,rv,p⟩
 | lst ds=>
  simp only [Dt] at h
  obtain⟨a,vs,rfl,ea,hs⟩:=h
  cases r
  obtain⟨_,aq,n,rv,p⟩:=aO a _ ea
  exact .inr (.inl ⟨ds,a,vs,aq,rfl,rfl,rfl,hs,rv,⟨_,p,rfl,n,rfl⟩⟩)
theorem in1_units (A:Around):A.in1.units=A.units+1:=rfl
mutual
theorem Gj (aO:fN P w H s.heap):∀(d e:D) {A:Around}{x y:V}{u v:Value},Dt H d x→Dt H e y→RelV x u→RelV y v→A.units+d.dp+1<cLine→EqAt A s u v (D.eq d e)
 | .tup ds,e,A,x,y,u,v,hd,he,rx,ry,hu=>by
  have dM:A.units<cLine:=by omega
  rcases bo aO hd rx with ⟨ds',a,vs,aq,ed,ex,eu,hs,rv,p⟩|⟨_,_,_,_,z,_⟩|⟨z,_⟩|⟨_,z,_⟩|⟨_,_,z,_⟩|⟨_,_,z,_⟩<;>try cases z
  cases ed;subst ex eu
  rcases bo aO he ry with ⟨es,b,us,fO,ee,ey,ev,dJ,fu,p'⟩|⟨es,b,us,fO,ee,ey,ev,dJ,fu,p'⟩|⟨ee,ev⟩|⟨b,ee,ev⟩|⟨i,t,ee,ev⟩|⟨z,t,ee,ev⟩<;>subst ee ev
  · subst ey
    by_cases GO:a=b
    · subst GO
      rw [Dt.inj hd he,D.lp]
      exact EqAt.same _
    · refine EqAt.of_refs GO ?_
      have n1:aq.toArray.size=ds.length:=by have:=rv.length;have:=hs.length;simp;omega
      have n2:fO.toArray.size=es.length:=by have:=fu.length;have:=dJ.length;simp;omega
      simp only [D.eq]
      rw [←D.i9,←n1,←n2]
      refine RcAt.tuples p p' dM fun j j1 j2=>?_
      simp only [D.dp] at hu
      have:=jf aO ds es (A:=A.in1) hs dJ rv fu (by rw [in1_units];omega) j (by simpa using j1) (by simpa using j2)
      simpa using this
  · subst ey;exact EqAt.tuple_list p p' dM
  · exact EqAt.tuple_none p dM
  · exact EqAt.tuple_bool b p dM
  · exact EqAt.tuple_int i t p dM
  · exact EqAt.tuple_str z t p dM
 | .lst ds,e,A,x,y,u,v,hd,he,rx,ry,hu=>by
  have dM:A.units<cLine:=by omega
  rcases bo aO hd rx with ⟨_,_,_,_,z,_⟩|⟨ds',a,vs,aq,ed,ex,eu,hs,rv,p⟩|⟨z,_⟩|⟨_,z,_⟩|⟨_,_,z,_⟩|⟨_,_,z,_⟩<;>try cases z
  cases ed;subst ex eu
  rcases bo aO he ry with ⟨es,b,us,fO,ee,ey,ev,dJ,fu,p'⟩|⟨es,b,us,fO,ee,ey,ev,dJ,fu,p'⟩|⟨ee,ev⟩|⟨b,ee,ev⟩|⟨i,t,ee,ev⟩|⟨z,t,ee,ev⟩<;>subst ee ev
  · subst ey;exact EqAt.list_tuple p p' dM
  · subst ey
    by_cases GO:a=b
    · subst GO
      rw [Dt.inj hd he,D.lp]
      exact EqAt.same _
    · refine EqAt.of_refs GO ?_
      have n1:aq.toArray.size=ds.length:=by have:=rv.length;have:=hs.length;simp;omega
      have n2:fO.toArray.size=es.length:=by have:=fu.length;have:=dJ.length;simp;omega
      simp only [D.eq]
      by_cases hsz:aq.toArray.size=fO.toArray.size
      · have e:=D.i9 ds es
        rw [←n1,←n2,←hsz,Nat.min_self,beq_self_eq_true,Bool.and_true] at e
        rw [←e]
        refine RcAt.lists p p' hsz dM fun j j1 j2=>?_
        simp only [D.dp] at hu
        have:=jf aO ds es (A:=A.in1) hs dJ rv fu (by rw [in1_units];omega) j (by simpa using j1) (by simpa using j2)
        simpa using this
      · have e:D.eqs ds es=false:=by
         cases h:D.eqs ds es with
         | false=>rfl
         | true=>exact absurd (D.mI h) (by omega)
        rw [e]
        exact RcAt.lists_lengths p p' (by simpa using hsz) dM
  · exact EqAt.list_none p dM
  · exact EqAt.list_bool b p dM
  · exact EqAt.list_int i t p dM
  · exact EqAt.list_str z t p dM
 | .non,e,A,x,y,u,v,hd,he,rx,ry,hu=>by
  have dM:A.units<cLine:=by omega
  simp only [Dt] at hd;subst hd;cases rx
  rcases bo aO he ry with ⟨es,b,us,fO,ee,ey,ev,dJ,fu,p'⟩|⟨es,b,us,fO,ee,ey,ev,dJ,fu,p'⟩|⟨ee,ev⟩|⟨b,ee,ev⟩|⟨i,t,ee,ev⟩|⟨z,t,ee,ev⟩<;>subst ee ev
  · exact EqAt.none_tuple p' dM
  · exact EqAt.none_list p' dM
  · exact EqAt.same _
  · exact EqAt.none_bool b
  · exact EqAt.none_int i t
  · exact EqAt.none_str z t
 | .bl c,e,A,x,y,u,v,hd,he,rx,ry,hu=>by
  have dM:A.units<cLine:=by omega
  simp only [Dt] at hd;subst hd;cases rx
  rcases bo aO he ry with ⟨es,b,us,fO,ee,ey,ev,dJ,fu,p'⟩|⟨es,b,us,fO,ee,ey,ev,dJ,fu,p'⟩|⟨ee,ev⟩|⟨b,ee,ev⟩|⟨i,t,ee,ev⟩|⟨z,t,ee,ev⟩<;>subst ee ev
  · exact EqAt.bool_tuple c p' dM
  · exact EqAt.bool_list c p' dM
  · exact EqAt.bool_none c
  · exact EqAt.bool_bool c b
  · exact EqAt.bool_int c i t
  · exact EqAt.bool_str c z t
 | .int c,e,A,x,y,u,v,hd,he,rx,ry,hu=>by
  have dM:A.units<cLine:=by omega
  simp only [Dt] at hd;subst hd;obtain⟨tt,rfl⟩:=rx
  rcases bo aO he ry with ⟨es,b,us,fO,ee,ey,ev,dJ,fu,p'⟩|⟨es,b,us,fO,ee,ey,ev,dJ,fu,p'⟩|⟨ee,ev⟩|⟨b,ee,ev⟩|⟨i,t,ee,ev⟩|⟨z,t,ee,ev⟩<;>subst ee ev
  · exact EqAt.int_tuple c tt p' dM
  · exact EqAt.int_list c tt p' dM
  · exact EqAt.int_none c tt
  · exact EqAt.int_bool c tt b
  · exact EqAt.int_int c tt i t
  · exact EqAt.int_str c tt z t
 | .str c,e,A,x,y,u,v,hd,he,rx,ry,hu=>by
  have dM:A.units<cLine:=by omega
  simp only [Dt] at hd;subst hd;obtain⟨tt,rfl⟩:=rx
  rcases bo aO he ry with ⟨es,b,us,fO,ee,ey,ev,dJ,fu,p'⟩|⟨es,b,us,fO,ee,ey,ev,dJ,fu,p'⟩|⟨ee,ev⟩|⟨b,ee,ev⟩|⟨i,t,ee,ev⟩|⟨z,t,ee,ev⟩<;>subst ee ev
  · exact EqAt.str_tuple c tt p' dM
  · exact EqAt.str_list c tt p' dM
  · exact EqAt.str_none c tt
  · exact EqAt.str_bool c tt b
  · exact EqAt.str_int c tt i t
  · exact EqAt.str_str c tt z t
theorem jf (aO:fN P w H s.heap):∀(ds es:List D) {A:Around}{xs ys:List V}{us vs:List Value},aR H ds xs→aR H es ys→Vals xs us→Vals ys vs→A.units+D.tK ds+1<cLine→
 ∀j (h1:j<us.length) (h2:j<vs.length),EqAt A s us[j] vs[j] (D.eq (ds.getD j .non) (es.getD j .non))
 | [],es,A,xs,ys,us,vs,hd,he,rx,ry,hu,j,h1,h2=>by
  simp only [aR] at hd;subst hd;cases rx;simp at h1
 | d::ds,es,A,xs,ys,us,vs,hd,he,rx,ry,hu,j,h1,h2=>by
  simp only [aR] at hd
  obtain⟨x,xr,rfl,hx,hxr⟩:=hd
  cases rx with
  | cons r rt=>
   cases es with
   | nil=>simp only [aR] at he;subst he;cases ry;simp at h2
   | cons e er=>
    simp only [aR] at he
    obtain⟨y,yr,rfl,hy,hyr⟩:=he
    cases ry with
    | cons q qt=>
     simp only [D.tK] at hu
     cases j with
     | zero=>exact Gj aO d e hx hy r q (by omega)
     | succ j=>exact jf aO ds er hxr hyr rt qt (by omega) j (by simpa using h1) (by simpa using h2)
end
end
end L2
namespace L2
open PySem PySem.Spec PyProof.Rows
section
variable {P : Program} {w : World} {H : Hp} {s : Shared}
open PySem.SeqAt
theorem D.EC {ds es:List D} (h:ds.length≠es.length):D.eqs ds es=false:=by
 cases q:D.eqs ds es with
 | false=>rfl
 | true=>exact absurd (D.mI q) h
theorem Le (aO:fN P w H s.heap) {d e:D}{A:Around}{x y:V}{u v:Value} (hd:Dt H d x) (he:Dt H e y) (rx:RelV x u) (ry:RelV y v) (hu:A.units+d.dp+1<cLine):RcAt A s u v (D.eq d e):=by
 have dM:A.units<cLine:=by omega
 rcases bo aO hd rx with ⟨ds,a,vs,aq,ed,ex,eu,hs,rv,p⟩|⟨ds,a,vs,aq,ed,ex,eu,hs,rv,p⟩|⟨ed,eu⟩|⟨c,ed,eu⟩|⟨c,tt,ed,eu⟩|⟨c,tt,ed,eu⟩
 · subst ed eu
   rcases bo aO he ry with ⟨es,b,us,fO,ee,ey,ev,dJ,fu,p'⟩|⟨es,b,us,fO,ee,ey,ev,dJ,fu,p'⟩|⟨ee,ev⟩|⟨b,ee,ev⟩|⟨i,t,ee,ev⟩|⟨z,t,ee,ev⟩
   · subst ee ev
     have n1:aq.toArray.size=ds.length:=by have:=rv.length;have:=hs.length;simp;omega
     have n2:fO.toArray.size=es.length:=by have:=fu.length;have:=dJ.length;simp;omega
     simp only [D.eq]
     simp only [D.dp] at hu
     have all:∀j (j1:j<aq.toArray.size) (j2:j<fO.toArray.size),EqAt A.in1 s aq.toArray[j] fO.toArray[j] (D.eq (ds.getD j .non) (es.getD j .non)):=fun j j1 j2=>by
      have:=jf aO ds es (A:=A.in1) hs dJ rv fu (by rw [in1_units];omega) j (by simpa using j1) (by simpa using j2)
      simpa using this
     rw [←D.i9,←n1,←n2]
     exact RcAt.tuples p p' dM all
   · subst ee ev
     exact RcAt.tuple_list p p' dM
   · subst ee ev
     exact RcAt.tuple_none p dM
   · subst ee ev
     exact RcAt.tuple_bool b p dM
   · subst ee ev
     exact RcAt.tuple_int i t p dM
   · subst ee ev
     exact RcAt.tuple_str z t p dM
 · subst ed eu
   rcases bo aO he ry with ⟨es,b,us,fO,ee,ey,ev,dJ,fu,p'⟩|⟨es,b,us,fO,ee,ey,ev,dJ,fu,p'⟩|⟨ee,ev⟩|⟨b,ee,ev⟩|⟨i,t,ee,ev⟩|⟨z,t,ee,ev⟩
   · subst ee ev
     exact RcAt.list_tuple p p' dM
   · subst ee ev
     have n1:aq.toArray.size=ds.length:=by have:=rv.length;have:=hs.length;simp;omega
     have n2:fO.toArray.size=es.length:=by have:=fu.length;have:=dJ.length;simp;omega
     simp only [D.eq]
     simp only [D.dp] at hu
     have all:∀j (j1:j<aq.toArray.size) (j2:j<fO.toArray.size),EqAt A.in1 s aq.toArray[j] fO.toArray[j] (D.eq (ds.getD j .non) (es.getD j .non)):=fun j j1 j2=>by
      have:=jf aO ds es (A:=A.in1) hs dJ rv fu (by rw [in1_units];omega) j (by simpa using j1) (by simpa using j2)
      simpa using this
     by_cases hsz:aq.toArray.size=fO.toArray.size
     · have e:=D.i9 ds es
       rw [←n1,←n2,←hsz,Nat.min_self,beq_self_eq_true,Bool.and_true] at e
       rw [←e]
       exact RcAt.lists p p' hsz dM all
     · rw [D.EC (by omega)]
       exact RcAt.lists_lengths p p' (by simpa using hsz) dM
   · subst ee ev
     exact RcAt.list_none p dM
   · subst ee ev
     exact RcAt.list_bool b p dM
   · subst ee ev
     exact RcAt.list_int i t p dM
   · subst ee ev
     exact RcAt.list_str z t p dM
 · subst ed eu
   rcases bo aO he ry with ⟨es,b,us,fO,ee,ey,ev,dJ,fu,p'⟩|⟨es,b,us,fO,ee,ey,ev,dJ,fu,p'⟩|⟨ee,ev⟩|⟨b,ee,ev⟩|⟨i,t,ee,ev⟩|⟨z,t,ee,ev⟩
   · subst ee ev
     exact RcAt.none_tuple p' dM
   · subst ee ev
     exact RcAt.none_list p' dM
   · subst ee ev
     exact RcAt.none_none 
   · subst ee ev
     exact RcAt.none_bool b
   · subst ee ev
     exact RcAt.none_int i t
   · subst ee ev
     exact RcAt.none_str z t
 · subst ed eu
   rcases bo aO he ry with ⟨es,b,us,fO,ee,ey,ev,dJ,fu,p'⟩|⟨es,b,us,fO,ee,ey,ev,dJ,fu,p'⟩|⟨ee,ev⟩|⟨b,ee,ev⟩|⟨i,t,ee,ev⟩|⟨z,t,ee,ev⟩
   · subst ee ev
     exact RcAt.bool_tuple c p' dM
   · subst ee ev
     exact RcAt.bool_list c p' dM
   · subst ee ev
     exact RcAt.bool_none c
   · subst ee ev
     exact RcAt.bool_bool c b
   · subst ee ev
     exact RcAt.bool_int c i t
   · subst ee ev
     exact RcAt.bool_str c z t
 · subst ed eu
   rcases bo aO he ry with ⟨es,b,us,fO,ee,ey,ev,dJ,fu,p'⟩|⟨es,b,us,fO,ee,ey,ev,dJ,fu,p'⟩|⟨ee,ev⟩|⟨b,ee,ev⟩|⟨i,t,ee,ev⟩|⟨z,t,ee,ev⟩
   · subst ee ev
     exact RcAt.int_tuple c tt p' dM
   · subst ee ev
     exact RcAt.int_list c tt p' dM
   · subst ee ev
     exact RcAt.int_none c tt
   · subst ee ev
     exact RcAt.int_bool c tt b
   · subst ee ev
     exact RcAt.int_int c tt i t
   · subst ee ev
     exact RcAt.int_str c tt z t
 · subst ed eu
   rcases bo aO he ry with ⟨es,b,us,fO,ee,ey,ev,dJ,fu,p'⟩|⟨es,b,us,fO,ee,ey,ev,dJ,fu,p'⟩|⟨ee,ev⟩|⟨b,ee,ev⟩|⟨i,t,ee,ev⟩|⟨z,t,ee,ev⟩
   · subst ee ev
     exact RcAt.str_tuple c tt p' dM
   · subst ee ev
     exact RcAt.str_list c tt p' dM
   · subst ee ev
     exact RcAt.str_none c tt
   · subst ee ev
     exact RcAt.str_bool c tt b
   · subst ee ev
     exact RcAt.str_int c tt i t
   · subst ee ev
     exact RcAt.str_str c tt z t
theorem Nz (aO:fN P w H s.heap) {d e:D}{A:Around}{x y:V}{u v:Value} (hd:Dt H d x) (he:Dt H e y) (rx:RelV x u) (ry:RelV y v) (hu:A.units+d.dp+1<cLine):RcNeAt A s u v (!D.eq d e):=by
 have dM:A.units<cLine:=by omega
 rcases bo aO hd rx with ⟨ds,a,vs,aq,ed,ex,eu,hs,rv,p⟩|⟨ds,a,vs,aq,ed,ex,eu,hs,rv,p⟩|⟨ed,eu⟩|⟨c,ed,eu⟩|⟨c,tt,ed,eu⟩|⟨c,tt,ed,eu⟩
 · subst ed eu
   rcases bo aO he ry with ⟨es,b,us,fO,ee,ey,ev,dJ,fu,p'⟩|⟨es,b,us,fO,ee,ey,ev,dJ,fu,p'⟩|⟨ee,ev⟩|⟨b,ee,ev⟩|⟨i,t,ee,ev⟩|⟨z,t,ee,ev⟩
   · subst ee ev
     have n1:aq.toArray.size=ds.length:=by have:=rv.length;have:=hs.length;simp;omega
     have n2:fO.toArray.size=es.length:=by have:=fu.length;have:=dJ.length;simp;omega
     simp only [D.eq]
     simp only [D.dp] at hu
     have all:∀j (j1:j<aq.toArray.size) (j2:j<fO.toArray.size),EqAt A.in1 s aq.toArray[j] fO.toArray[j] (D.eq (ds.getD j .non) (es.getD j .non)):=fun j j1 j2=>by
      have:=jf aO ds es (A:=A.in1) hs dJ rv fu (by rw [in1_units];omega) j (by simpa using j1) (by simpa using j2)
      simpa using this
     rw [←D.i9,←n1,←n2]
     exact RcNeAt.tuples p p' dM all
   · subst ee ev
     exact RcNeAt.tuple_list p p' dM
   · subst ee ev
     exact RcNeAt.tuple_none p dM
   · subst ee ev
     exact RcNeAt.tuple_bool b p dM
   · subst ee ev
     exact RcNeAt.tuple_int i t p dM
   · subst ee ev
     exact RcNeAt.tuple_str z t p dM
 · subst ed eu
   rcases bo aO he ry with ⟨es,b,us,fO,ee,ey,ev,dJ,fu,p'⟩|⟨es,b,us,fO,ee,ey,ev,dJ,fu,p'⟩|⟨ee,ev⟩|⟨b,ee,ev⟩|⟨i,t,ee,ev⟩|⟨z,t,ee,ev⟩
   · subst ee ev
     exact RcNeAt.list_tuple p p' dM
   · subst ee ev
     have n1:aq.toArray.size=ds.length:=by have:=rv.length;have:=hs.length;simp;omega
     have n2:fO.toArray.size=es.length:=by have:=fu.length;have:=dJ.length;simp;omega
     simp only [D.eq]
     simp only [D.dp] at hu
     have all:∀j (j1:j<aq.toArray.size) (j2:j<fO.toArray.size),EqAt A.in1 s aq.toArray[j] fO.toArray[j] (D.eq (ds.getD j .non) (es.getD j .non)):=fun j j1 j2=>by
      have:=jf aO ds es (A:=A.in1) hs dJ rv fu (by rw [in1_units];omega) j (by simpa using j1) (by simpa using j2)
      simpa using this
     by_cases hsz:aq.toArray.size=fO.toArray.size
     · have e:=D.i9 ds es
       rw [←n1,←n2,←hsz,Nat.min_self,beq_self_eq_true,Bool.and_true] at e
       rw [←e]
       exact RcNeAt.lists p p' hsz dM all
     · rw [D.EC (by omega)]
       exact RcNeAt.lists_lengths p p' (by simpa using hsz) dM
   · subst ee ev
     exact RcNeAt.list_none p dM
   · subst ee ev
     exact RcNeAt.list_bool b p dM
   · subst ee ev
     exact RcNeAt.list_int i t p dM
   · subst ee ev
     exact RcNeAt.list_str z t p dM
 · subst ed eu
   rcases bo aO he ry with ⟨es,b,us,fO,ee,ey,ev,dJ,fu,p'⟩|⟨es,b,us,fO,ee,ey,ev,dJ,fu,p'⟩|⟨ee,ev⟩|⟨b,ee,ev⟩|⟨i,t,ee,ev⟩|⟨z,t,ee,ev⟩
   · subst ee ev
     exact RcNeAt.none_tuple p' dM
   · subst ee ev
     exact RcNeAt.none_list p' dM
   · subst ee ev
     exact RcNeAt.none_none 
   · subst ee ev
     exact RcNeAt.none_bool b
   · subst ee ev
     exact RcNeAt.none_int i t
   · subst ee ev
     exact RcNeAt.none_str z t
 · subst ed eu
   rcases bo aO he ry with ⟨es,b,us,fO,ee,ey,ev,dJ,fu,p'⟩|⟨es,b,us,fO,ee,ey,ev,dJ,fu,p'⟩|⟨ee,ev⟩|⟨b,ee,ev⟩|⟨i,t,ee,ev⟩|⟨z,t,ee,ev⟩
   · subst ee ev
     exact RcNeAt.bool_tuple c p' dM
   · subst ee ev
     exact RcNeAt.bool_list c p' dM
   · subst ee ev
     exact RcNeAt.bool_none c
   · subst ee ev
     exact RcNeAt.bool_bool c b
   · subst ee ev
     exact RcNeAt.bool_int c i t
   · subst ee ev
     exact RcNeAt.bool_str c z t
 · subst ed eu
   rcases bo aO he ry with ⟨es,b,us,fO,ee,ey,ev,dJ,fu,p'⟩|⟨es,b,us,fO,ee,ey,ev,dJ,fu,p'⟩|⟨ee,ev⟩|⟨b,ee,ev⟩|⟨i,t,ee,ev⟩|⟨z,t,ee,ev⟩
   · subst ee ev
     exact RcNeAt.int_tuple c tt p' dM
   · subst ee ev
     exact RcNeAt.int_list c tt p' dM
   · subst ee ev
     exact RcNeAt.int_none c tt
   · subst ee ev
     exact RcNeAt.int_bool c tt b
   · subst ee ev
     exact RcNeAt.int_int c tt i t
   · subst ee ev
     exact RcNeAt.int_str c tt z t
 · subst ed eu
   rcases bo aO he ry with ⟨es,b,us,fO,ee,ey,ev,dJ,fu,p'⟩|⟨es,b,us,fO,ee,ey,ev,dJ,fu,p'⟩|⟨ee,ev⟩|⟨b,ee,ev⟩|⟨i,t,ee,ev⟩|⟨z,t,ee,ev⟩
   · subst ee ev
     exact RcNeAt.str_tuple c tt p' dM
   · subst ee ev
     exact RcNeAt.str_list c tt p' dM
   · subst ee ev
     exact RcNeAt.str_none c tt
   · subst ee ev
     exact RcNeAt.str_bool c tt b
   · subst ee ev
     exact RcNeAt.str_int c tt i t
   · subst ee ev
     exact RcNeAt.str_str c tt z t
end
section
variable {X : Cx} {k : Nat}
noncomputable def QD:R2:=fun x y H Q=>∃d e,Dt H d x∧Dt H e y∧d.dp≤150∧Q (.bl (D.eq d e)) H
noncomputable def Oi:R2:=fun x y H Q=>∃d e,Dt H d x∧Dt H e y∧d.dp≤150∧Q (.bl (!D.eq d e)) H
theorem E4 (hr:fo k X.A):kg X (compareOp .Eq) QD:=by
 intro pins s σ H x y v u Q I rx ry h
 obtain⟨d,e,hd,he,hp,q⟩:=h
 exact Le I.aO hd he rx ry (by have:=hr.un;omega) _ _ _ _ ⟨.bl _,H,I,rfl,q⟩
theorem EY (hr:fo k X.A):kg X (compareOp .NotEq) Oi:=by
 intro pins s σ H x y v u Q I rx ry h
 obtain⟨d,e,hd,he,hp,q⟩:=h
 exact Nz I.aO hd he rx ry (by have:=hr.un;omega) _ _ _ _ ⟨.bl _,H,I,rfl,q⟩
noncomputable def OG (neg:Bool):R2:=fun x y H Q=>∃a vs ds e,y = .ref a∧(H a=some (.lst vs)∨H a=some (.tup vs))∧aR H ds vs∧Dt H e x∧D.tK ds≤150∧Q (.bl (if neg then !ds.any (fun d=>D.eq d e) else ds.any (fun d=>D.eq d e))) H
noncomputable def eU (H:Hp) (e:D) (u:Value):Bool:=@decide (∃d z,Dt H d z∧RelV z u∧D.eq d e=true) (Classical.propDecidable _)
theorem J1 {H:Hp}{d e:D}{z:V}{u:Value} (h:Dt H d z) (r:RelV z u):eU H e u=D.eq d e:=by
 unfold eU
 cases q:D.eq d e with
 | true=>exact @decide_eq_true _ (Classical.propDecidable _) ⟨d,z,h,r,q⟩
 | false=>
  refine @decide_eq_false _ (Classical.propDecidable _) ?_
  rintro ⟨d',z',h',r',q'⟩
  have ez:=RelV.inj r r'
  subst ez
  rw [←Dt.inj h h',q] at q'
  cases q'
theorem zR {H:Hp}{e:D}:∀{ds:List D}{vs:List V}{us:List Value},aR H ds vs→Vals vs us→us.any (eU H e)=ds.any (fun d=>D.eq d e)
 | [],vs,us,h,r=>by simp only [aR] at h;subst h;cases r;rfl
 | d::ds,vs,us,h,r=>by
  simp only [aR] at h
  obtain⟨v,vr,rfl,h1,h2⟩:=h
  cases r with
  | cons r rt=>rw [List.any_cons,List.any_cons,J1 h1 r,zR h2 rt]
theorem zU {P:Program}{w:World}{H:Hp}{s:Shared}{A:Around} (aO:fN P w H s.heap) {e:D}{x:V}{v:Value} (he:Dt H e x) (rx:RelV x v):∀{ds:List D}{vs:List V}{us:List Value},aR H ds vs→Vals vs us→A.units+D.tK ds+1<cLine→
 ∀u∈us,SeqAt.EqAt A s u v (eU H e u)
 | [],vs,us,h,r,_=>by simp only [aR] at h;subst h;cases r;intro u z;cases z
 | d::ds,vs,us,h,r,hu=>by
  simp only [aR] at h
  obtain⟨v',vr,rfl,h1,h2⟩:=h
  simp only [D.tK] at hu
  cases r with
  | cons r rt=>
   intro u z
   rcases List.mem_cons.mp z with rfl|z
   · rw [J1 h1 r];exact Gj aO d e h1 he r rx (by omega)
   · exact zU aO he rx h2 rt (by omega) u z
theorem MW (hr:fo k X.A):kg X (compareOp .In) (OG false):=by
 intro pins s σ H x y v u Q I rx ry h
 obtain⟨a,vs,ds,e,rfl,ha,hs,he,hp,q⟩:=h
 cases ry
 have hu:X.A.in1.units+D.tK ds+1<cLine:=by rw [in1_units];have:=hr.un;omega
 rcases ha with ha|ha
 · obtain⟨_,aq,n,rv,p⟩:=I.aO a _ ha
   refine SeqAt.in_listAt (eU H e) (show s.heap.IsList a aq.toArray from ⟨_,p,rfl,n,rfl⟩) (fun y hy=>zU I.aO he rx hs rv hu y (by simpa using hy)) ?_
   refine⟨.bl _,H,I,?_,q⟩
   rw [List.any_toArray,zR hs rv];rfl
 · obtain⟨_,aq,rv,p⟩:=I.aO a _ ha
   refine SeqAt.in_tupleAt (eU H e) (show s.heap.IsTuple a aq.toArray from p) (fun y hy=>zU I.aO he rx hs rv hu y (by simpa using hy)) ?_
   refine⟨.bl _,H,I,?_,q⟩
   rw [List.any_toArray,zR hs rv];rfl
noncomputable def Gq (t n:String):Bool:=t==n||(t=="bool"&&n=="int")
inductive K0 (H:Hp):V→String→Prop where
 | non:K0 H .non "NoneType"
 | bl (b:Bool):K0 H (.bl b) "bool"
 | int (i:Int):K0 H (.int i) "int"
 | str (x:Str):K0 H (.str x) "str"
 | lst {a:Addr}{xs:List V} (e:H a=some (.lst xs)):K0 H (.ref a) "list"
 | tup {a:Addr}{xs:List V} (e:H a=some (.tup xs)):K0 H (.ref a) "tuple"
theorem uJ {K:PySem.W.Frag}{t n:String} (ht:t∈["NoneType","bool","int","str","list","tuple","dict"]) (hn:n∈["bool","int","str","list","tuple","dict"]):PySem.W.kitOne K (.type t) (.type n)=some (Gq t n):=by
 simp only [List.mem_cons,List.not_mem_nil,or_false] at ht hn
 rcases ht with rfl|rfl|rfl|rfl|rfl|rfl|rfl<;>rcases hn with rfl|rfl|rfl|rfl|rfl|rfl<;>first|rfl|decide +kernel
noncomputable def Oe:List V→Hp→VK→Prop:=fun xs H Q=>∃x n t,xs=[x,.ty n]∧K0 H x t∧n∈["bool","int","str","list","tuple","dict"]∧Q (.bl (Gq t n)) H
theorem Ft:ck X (.builtin "isinstance") Oe:=by
 intro pins s σ H xs us Q I r h
 obtain⟨x,n,t,rfl,ty,hn,q⟩:=h
 obtain⟨u,c,rfl,ru,rc⟩:=vals2 r
 cases (show c=Value.type n from rc)
 have fin:∀tk,EP X pins σ Q (.bool (Gq t n)) {s with toks:=tk}:=fun tk=>⟨.bl _,H,I.tok _,rfl,q⟩
 cases ty with
 | non=>exact gr I ru .non (uJ (by simp) hn) fin
 | bl b=>exact gr I ru (.bl b) (uJ (by simp) hn) fin
 | int i=>exact gr I ru (.int i) (uJ (by simp) hn) fin
 | str z=>exact gr I ru (.str z) (uJ (by simp) hn) fin
 | lst e=>exact gr I ru (.lst e) (uJ (by simp) hn) fin
 | tup e=>exact gr I ru (.tup e) (uJ (by simp) hn) fin
end
end L2
namespace L2
open PySem PySem.Spec PyProof.Rows
theorem cA:bootBuiltins "len"=some (.builtin "len"):=by decide +kernel
theorem EV:bootBuiltins "all"=some (.builtin "all"):=by decide +kernel
theorem MZ:bootBuiltins "any"=some (.builtin "any"):=by decide +kernel
theorem Gv:bootBuiltins "max"=some (.builtin "max"):=by decide +kernel
theorem Lr:bootBuiltins "min"=some (.builtin "min"):=by decide +kernel
theorem d3:bootBuiltins "isinstance"=some (.builtin "isinstance"):=by decide +kernel
theorem qZ:bootBuiltins "int"=some (.type "int"):=by decide +kernel
theorem y6:bootBuiltins "str"=some (.type "str"):=by decide +kernel
theorem BQ:bootBuiltins "list"=some (.type "list"):=by decide +kernel
theorem xP:bootBuiltins "tuple"=some (.type "tuple"):=by decide +kernel
theorem bP {H:Hp}{p:Addr} (h:H p=none) (o:HO):ay H (upd H p o):=fun b u q=>by rw [aL (aF q h)];exact q
section
variable {X : Cx}
noncomputable def Fm:R2:=fun x y H Q=>∃a b xs ys,x = .ref a∧y = .ref b∧H a=some (.tup xs)∧H b=some (.tup ys)∧xs.length+ys.length≤sizeLine∧
 ∀p H',ay H H'→H' p=some (.tup (xs++ys))→Q (.ref p) H'
theorem EJ {prog:Program}{w:World}{A:Around}{E:Value→Shared→Prop}{s:Shared}{t b:Addr}{ws:List Value}{Q:Value→Shared→Prop} (ht:IsTup s.heap t ([]:List Value).toArray) (hb:IsTup s.heap b ws.toArray) (h:Q (.ref b) s) :
 wpAny (model prog w) A (binaryOp .Add (.ref t) (.ref b)) Q E s:=by
 obtain⟨⟨cls,dd,data,sl⟩,ho,hc,n,hd⟩:=id ht
 obtain⟨⟨XJ,RD,data2,JK⟩,ho2,hc2,n2,hd2⟩:=id hb
 simp only at hc hd hc2 hd2
 subst hc hd hc2 hd2
 exact concat_meets ⟨_,ho,rfl⟩ ⟨_,ho2,rfl⟩ noFill_tuple_add seq_tuple_add PySem.F.slot_tuple_add PySem.F.entry_tuple_add (PySem.F.args_tuple_add_2 _ _)
  (tuple_addW0 t b _ ws.toArray n n2 dd RD sl JK (by rfl)) ⟨ho,ho2,h⟩
theorem nF:kg X (binaryOp .Add) Fm:=by
 intro pins s σ H x y v u Q I rx ry h
 obtain⟨a,b,xs,ys,rfl,rfl,ha,hb,hz,q⟩:=h
 by_cases hx:xs=[]
 · subst hx
   cases rx
   cases ry
   obtain⟨_,aq,r1,p1⟩:=I.aO a _ ha
   obtain⟨_,vw,r2,p2⟩:=I.aO b _ hb
   cases r1
   exact EJ p1 p2 ⟨.ref b,H,I,rfl,q b H (ay.refl H) hb⟩
 · refine I0 pins s σ H _ _ v u Q I rx ry ⟨a,b,xs,ys,rfl,rfl,jr.of ha,jr.of hb,hx,hz,fun e=>?_,fun _ p hp=>q p _ (bP hp _) aT⟩
   subst e
   exact q a H (ay.refl H) (by rw [List.append_nil];exact ha)
end
noncomputable def C3 (H:Hp) (ds:List D) (Q:VK):Prop:=∀p vs H',ay H H'→H p=none→H' p=some (.lst vs)→aR H' ds vs→Q (.ref p) H'
noncomputable def xo (H:Hp) (d:D) (Q:VK):Prop:=∀v H',ay H H'→Dt H' d v→Q v H'
theorem C3.d {H:Hp}{ds:List D}{Q:VK} (h:xo H (.lst ds) Q):C3 H ds Q:=fun p vs H' S _ e d=>h _ H' S (by simp only [Dt];exact⟨p,vs,rfl,e,d⟩)
end L2
namespace L2
open PySem PySem.Spec PyProof.Rows
noncomputable def itemsOf:Option HO→Option (List V)
 | some (.lst xs)=>some xs
 | some (.tup xs)=>some xs
 | _=>none
theorem mG {K:PySem.W.Frag}{H:Hp}{a:Addr}{xs:List V} (h:itemsOf (H a)=some xs):fD K H a xs∨jr K H a xs:=by
 cases e:H a with
 | none=>rw [e] at h;cases h
 | some o=>
  rw [e] at h
  cases o with
  | lst ys=>cases h;exact .inl (fD.of e)
  | tup ys=>cases h;exact .inr (jr.of e)
  | _=>cases h
theorem aP {α:Type}{a:α}{r:List α}:kT (a::r) 0=some a:=gj (j:=0) rfl
theorem cf {α:Type}{a b:α}{r:List α}:kT (a::b::r) 1=some b:=gj (j:=1) rfl
theorem gM {α:Type}{a b c:α}{r:List α}:kT (a::b::c::r) 2=some c:=gj (j:=2) rfl
theorem mY {α:Type}{a b c d:α}{r:List α}:kT (a::b::c::d::r) 3=some d:=gj (j:=3) rfl
theorem JR {α:Type}{a b c d e:α}{r:List α}:kT (a::b::c::d::e::r) 4=some e:=gj (j:=4) rfl
section
variable {X : Cx}
noncomputable def N3:R2:=fun x y H Q=>∃p xs i v,x = .ref p∧y = .int i∧itemsOf (H p)=some xs∧kT xs i=some v∧Q v H
theorem bQ:IH X N3:=by
 intro value slice pins s σ H x y v u Q I rx ry h hs
 obtain⟨p,xs,i,z,rfl,rfl,e,hz,q⟩:=h
 rcases mG (K:=X.K) e with hq|hq
 · exact v7 value slice pins s σ H _ _ v u Q I rx ry ⟨p,xs,i,z,rfl,rfl,hq,hz,q⟩ hs
 · exact MY value slice pins s σ H _ _ v u Q I rx ry ⟨p,xs,i,z,rfl,rfl,hq,hz,q⟩ hs
theorem TU:ck X (.builtin "len") (fun xs H Q=>∃p ys,xs=[.ref p]∧itemsOf (H p)=some ys∧Q (.int ys.length) H):=by
 intro pins s σ H xs us Q I r h
 obtain⟨p,ys,rfl,e,q⟩:=h
 exact eT pins s σ H _ us Q I r ⟨p,ys,rfl,mG e,q⟩
theorem Zo:GC X (fun x lo hi H Q=>∃a xs,x = .ref a∧H a=some (.lst xs)∧∀p,H p=none→Q (.ref p) (upd H p (.lst (iB xs lo hi)))):=by
 intro pins s σ H x v vl vu lo hi sl Q I rx hs pl pu h
 obtain⟨a,xs,rfl,e,q⟩:=h
 exact Iv pins s σ H _ v vl vu lo hi sl Q I rx hs pl pu ⟨a,xs,rfl,fD.of e,q⟩
end
noncomputable def Ad (J:It) (g:TG) (tb:TS) (D:Ends) (σ:St) (H:Hp):Prop:=
 ∃W:Nat→Nat→St→Hp→Prop,(∃m,W 0 m σ H)∧∀i m σ H,W i m σ H→
  (J.stop i H∧D.nx σ H)∨(J.go i H∧∃N:St→Hp→Prop,(∀σ' H',N σ' H'→∃m',m'<m∧W (i+1) m' σ' H')∧∀x H',J.yT i H x H'→g x σ H' fun σ2 H2=>tb {D with nx:=N,ct:=N,bk:=D.nx} σ2 H2)
theorem forR {lo:Int}{n:Nat}{g:TG}{tb:TS}{D:Ends}{σ:St}{H:Hp} (Pv:Nat→St→Hp→Prop) (h0:Pv 0 σ H)
 (hs:∀i σ H,i<n→Pv i σ H→g (.int (lo+i)) σ H fun σ2 H2=>tb {D with nx:=Pv (i+1),ct:=Pv (i+1),bk:=D.nx} σ2 H2) (hd:∀σ H,Pv n σ H→D.nx σ H):Ad (GZ lo n) g tb D σ H:=Dc Pv h0 hs hd
theorem L5 {wi:TI}{g:TG}{tb:TS}{D:Ends}{σ:St}{H:Hp}:Pc wi g tb D σ H=wi σ H fun J H1=>Ad J g tb D σ H1:=rfl
theorem ay.new {H0 H:Hp} (S:ay H0 H) {p:Addr} (n:H p=none) (o:HO):ay H0 (upd H p o):=S.trans (bP n o)
theorem ay.put {H0 H:Hp} (S:ay H0 H) {p:Addr} (n:H0 p=none) (o:HO):ay H0 (upd H p o):=fun b u h=>by
 rw [aL (aF h n)];exact S b u h
theorem ay.old {H0 H:Hp} (S:ay H0 H) {p:Addr} (n:H p=none):H0 p=none:=by
 cases e:H0 p with
 | none=>rfl
 | some o=>rw [S p o e] at n;cases n
theorem Dt.new {H:Hp}{d:D}{v:V} (h:Dt H d v) {p:Addr} (n:H p=none) (o:HO):Dt (upd H p o) d v:=h.same (bP n o)
theorem Dt.tup {H:Hp}{ds:List D}{vs:List V}{a:Addr} (e:H a=some (.tup vs)) (h:aR H ds vs):Dt H (.tup ds) (.ref a):=by
 simp only [Dt];exact⟨a,vs,rfl,e,h⟩
theorem Dt.lst {H:Hp}{ds:List D}{vs:List V}{a:Addr} (e:H a=some (.lst vs)) (h:aR H ds vs):Dt H (.lst ds) (.ref a):=by
 simp only [Dt];exact⟨a,vs,rfl,e,h⟩
theorem fZ {H:Hp}{ds:List D}{v:V}:Dt H (.tup ds) v↔∃a vs,v = .ref a∧H a=some (.tup vs)∧aR H ds vs:=by simp only [Dt]
theorem BG {H:Hp}{ds:List D}{v:V}:Dt H (.lst ds) v↔∃a vs,v = .ref a∧H a=some (.lst vs)∧aR H ds vs:=by simp only [Dt]
theorem fJ {H:Hp}{vs:List V}:aR H [] vs↔vs=[]:=by simp only [aR]
theorem aY {H:Hp}{d:D}{ds:List D}{vs:List V}:aR H (d::ds) vs↔∃v r,vs=v::r∧Dt H d v∧aR H ds r:=by simp only [aR]
theorem aV {H:Hp}{i:Int}{v:V}:Dt H (.int i) v↔v = .int i:=by simp only [Dt]
theorem bh {H:Hp}{x:Str}{v:V}:Dt H (.str x) v↔v = .str x:=by simp only [Dt]
theorem wm {H:Hp}{b:Bool}{v:V}:Dt H (.bl b) v↔v = .bl b:=by simp only [Dt]
theorem eW {H:Hp}{v:V}:Dt H .non v↔v = .non:=by simp only [Dt]
theorem aR.vc {H:Hp}:∀{ns:List Str}{vs:List V},aR H (ns.map D.str) vs→vs=ns.map V.str
 | [],vs,h=>by simpa only [List.map_nil,aR] using h
 | n::r,vs,h=>by
  simp only [List.map_cons,aR] at h
  obtain⟨v,t,rfl,h1,h2⟩:=h
  rw [bh.mp h1,aR.vc h2];rfl
theorem LW {CX:CXT}{P:Program}{w:World}{K:PySem.W.Frag}{mg:Str→Option Value}{base:Heap}{N:List Str}{qual:Str}{scope:Scope}{f:Addr}{cd:Value}{A:Around}{outer:List Env}{s:Shared}{H:Hp}{E:XK} :
 (vR CX P w K mg base N qual scope f cd A outer s H E).K=K:=rfl
theorem Ox {X:Cx}{N:List Str}{scope:Scope}{C:Addr}{s:Shared}{H:Hp}{ex:List Addr}:(lD X N scope C s H ex).K=X.K:=rfl
theorem Sa {i j:Int} (h1 : -18446744073709551616<i) (h2:i<18446744073709551616):Ea i j:=.inl ⟨h1,h2⟩
theorem U9 {i j:Int} (h1 : -18446744073709551616<j) (h2:j<18446744073709551616):Ea i j:=.inr ⟨h1,h2⟩
theorem Aa {K:PySem.W.Frag}{H:Hp}{a:Addr}{xs:List V}{R:List V→Prop} (h:fD K H a xs) (q:R xs):∃x,(fD K H a x∨jr K H a x)∧R x:=⟨xs,.inl h,q⟩
theorem JZ {K:PySem.W.Frag}{H:Hp}{a:Addr}{xs:List V}{i:Int}{v:V}{R:V→Prop} (h:fD K H a xs) (e:kT xs i=some v) (q:R v):∃x,fD K H a x∧∃y,kT x i=some y∧R y:=⟨xs,h,v,e,q⟩
end L2
namespace L2
open PySem PySem.Spec PyProof.Rows
noncomputable def Qy (i:Nat) (te:TE):TS:=fun D σ H=>te σ H fun x H1=>D.nx (σ.set i (some x)) H1
theorem aA {X:Cx}{i:Nat}{x:Str}{e:Expr}{te:TE}{pos pos':Pos} (hN:X.N.Nodup) (hi:X.N[i]? = some x) (hx:Loc X.env.scope x) (he:PE X e te) (hs:swapsWith e (some (.Name x pos')) pos.line X.env=pure false:=by rfl) (hf:X.fn x=true∨X.env.scope.names.lookup x=some .local:=by first|exact .inl rfl|exact .inr rfl|assumption):PS X (.Assign [.Name x pos'] e pos) (Qy i te):=LU hN hi hx he hs hf
noncomputable def Kb (i:Nat) (wi:TI) (caps:List Nat) (tc:TT) (te:TE):TS:=fun D σ H=>uV wi caps tc te σ H fun v H1=>D.nx (σ.set i (some v)) H1
theorem vi {X:Cx}{scope:Scope}{x:Str}{N:List Str}{caps:List Nat}{elt iter:Expr}{px py pos tJ:Pos}{ifs:List Expr}{wi:TI}{tc:TT}{te:TE}{y:Str}{i:Nat} (cH:X.calm=true) (S:si X scope x N caps) (hi:PI X (.Name x px) iter wi)
 (hc:∀C s H ex,fe (lD X N scope C s H ex) ifs tc) (he:∀C s H ex,PE (lD X N scope C s H ex) elt te) (hN:X.N.Nodup) (hy:X.N[i]? = some y) (hx:X.env.scope.names.lookup y=some .local)
 (MK:swapsWith (.ListComp elt [⟨.Name x px,iter,ifs,0⟩] scope pos) (some (.Name y py)) tJ.line X.env=pure true) (hs:∀x,foldedSetIterable iter X.env x=pure x:=by intro _;rfl) :
 PS X (.Assign [.Name y py] (.ListComp elt [⟨.Name x px,iter,ifs,0⟩] scope pos) tJ) (Kb i wi caps tc te):=Jr cH S hi hc he hN hy hx MK hs
theorem LC {i:Nat}{te:TE}{D:Ends}{σ:St}{H:Hp}:Qy i te D σ H=te σ H fun x H1=>D.nx (σ.set i (some x)) H1:=rfl
theorem Jk {i:Nat}{wi:TI}{caps:List Nat}{tc:TT}{te:TE}{D:Ends}{σ:St}{H:Hp}:Kb i wi caps tc te D σ H=uV wi caps tc te σ H fun v H1=>D.nx (σ.set i (some v)) H1:=rfl
theorem GV {i:Nat}{σ:St}{H:Hp}{Q:VK}:DW i σ H Q=(∃v,σ[i]? = some (some v)∧Q v H):=rfl
theorem Ov {v:V}{σ:St}{H:Hp}{Q:VK}:tC v σ H Q=(Q v H):=rfl
theorem LI {ta:TE}{σ:St}{H:Hp}{Q:VK}:OP ta σ H Q=(ta σ H fun x H1=>Q (.bl (decide (x = .non))) H1):=rfl
theorem X2 {t:TE}{σ:St}{H:Hp}{Q:Bool→Hp→Prop}:tB t σ H Q=(t σ H fun x H1=>∃c,x = .bl c∧Q c H1):=rfl
theorem Li {t u:TT}{σ:St}{H:Hp}{Q:Bool→Hp→Prop}:QJ t u σ H Q=(t σ H fun c H1=>if c=true then u σ H1 Q else Q false H1):=rfl
theorem QL {t u:TT}{σ:St}{H:Hp}{Q:Bool→Hp→Prop}:tOr t u σ H Q=(t σ H fun c H1=>if c=true then Q true H1 else u σ H1 Q):=rfl
theorem MJ {t:TT}{σ:St}{H:Hp}{Q:Bool→Hp→Prop}:QM t σ H Q=(t σ H fun c H1=>Q (!c) H1):=rfl
theorem Jn {ta tb:TE}{σ:St}{H:Hp}{Q:VK}:JX ta tb σ H Q=(ta σ H fun x H1=>∃c,x = .bl c∧if c=true then tb σ H1 Q else Q (.bl false) H1):=rfl
theorem L8 {ta tb:TE}{σ:St}{H:Hp}{Q:VK}:Oz ta tb σ H Q=(ta σ H fun x H1=>∃c,x = .bl c∧if c=true then Q (.bl true) H1 else tb σ H1 Q):=rfl
theorem HW {ta:TE}{σ:St}{H:Hp}{Q:VK}:KL ta σ H Q=(ta σ H fun x H1=>∃c,x = .bl c∧Q (.bl (!c)) H1):=rfl
theorem Og {t:TT}{ta tb:TE}{σ:St}{H:Hp}{Q:VK}:tIf t ta tb σ H Q=(t σ H fun c H1=>if c=true then ta σ H1 Q else tb σ H1 Q):=rfl
theorem Ir {D:Ends}{σ:St}{H:Hp}:Kl  D σ H=(D.nx σ H):=rfl
theorem K8 {t u:TS}{D:Ends}{σ:St}{H:Hp}:gX t u D σ H=(t {D with nx:=u D} σ H):=rfl
theorem Im {te:TE}{D:Ends}{σ:St}{H:Hp}:Ki te D σ H=(te σ H fun _ H1=>D.nx σ H1):=rfl
theorem ML {te:TE}{D:Ends}{σ:St}{H:Hp}:OI te D σ H=(te σ H D.rt):=rfl
theorem Lh {c:TT}{t u:TS}{D:Ends}{σ:St}{H:Hp}:Pg c t u D σ H=(c σ H fun b H1=>if b=true then t D σ H1 else u D σ H1):=rfl
theorem FF {D:Ends}{σ:St}{H:Hp}:Eh  D σ H=(False):=rfl
theorem AY {i:Nat}{v:V}{σ:St}{H:Hp}{Q:St→Hp→Prop}:DK i v σ H Q=(Q (σ.set i (some v)) H):=rfl
theorem MB {vs:List V}{σ:St}{H:Hp}{Q:St→Hp→Prop}:ON  vs σ H Q=(vs=[]∧Q σ H):=rfl
theorem Js {t:TG}{u:Ik}{vs:List V}{σ:St}{H:Hp}{Q:St→Hp→Prop}:Kp t u vs σ H Q=(∃v r,vs=v::r∧t v σ H fun σ' H'=>u r σ' H' Q):=rfl
theorem Nf {K:PySem.W.Frag}{n:Nat}{t:Ik}{v:V}{σ:St}{H:Hp}{Q:St→Hp→Prop}:Pz K n t v σ H Q=(∃a xs,v = .ref a∧jr K H a xs∧xs.length=n∧t xs σ H Q):=rfl
theorem Nl {to ti:TE}{t:Jg}{v:V}{σ:St}{H:Hp}{Q:St→Hp→Prop}:N2 to ti t v σ H Q=(to σ H fun o H1=>ti σ H1 fun i H2=>t o i v H2 fun H3=>Q σ H3):=rfl
theorem Lm {te:TE}{g:TG}{D:Ends}{σ:St}{H:Hp}:La te g D σ H=(te σ H fun x H1=>g x σ H1 D.nx):=rfl
theorem LP {i:Nat}{te:TE}{ti:QS}{D:Ends}{σ:St}{H:Hp}:Px i te ti D σ H=(∃x,σ[i]? = some (some x)∧te σ H fun y H1=>ti x y H1 fun z H2=>D.nx (σ.set i (some z)) H2):=rfl
theorem Jf {ta:TA}{σ:St}{H:Hp}{R:It→Hp→Prop}:J9 ta σ H R=(ta σ H fun vs H1=>∃j:Int,vs=[.int j] ∧ -(2^62)≤j∧j<2^62∧R (GZ 0 j.toNat) H1):=rfl
theorem KU {r:R2}{ta tb:TE}{σ:St}{H:Hp}{Q:VK}:NO r ta tb σ H Q=(ta σ H fun x H1=>tb σ H1 fun y H2=>r x y H2 Q):=rfl
theorem PY {r:V→Hp→VK→Prop}{ta:TE}{σ:St}{H:Hp}{Q:VK}:tUn r ta σ H Q=(ta σ H fun x H1=>r x H1 Q):=rfl
theorem aaz {C:Int→Int→Prop}{g:Int→Int→V}{x y:V}{H:Hp}{Q:VK}:rI C g x y H Q=(∃i j,x = .int i∧y = .int j∧C i j∧Q (g i j) H):=rfl
theorem Kk {g:Int→Int→V}{x y:V}{H:Hp}{Q:VK}:Hy g x y H Q=(∃i j,x = .int i∧y = .int j∧Q (g i j) H):=rfl
theorem Vl {g:Int→V}{x:V}{H:Hp}{Q:VK}:rU g x H Q=(∃i,x = .int i∧Q (g i) H):=rfl
theorem QR {x y:V}{H:Hp}{Q:VK}:rEq  x y H Q=(zi x y=true∧Q (.bl (decide (x=y))) H):=rfl
theorem Py {x y:V}{H:Hp}{Q:VK}:rNe  x y H Q=(zi x y=true∧Q (.bl (!decide (x=y))) H):=rfl
theorem Bv {t:TE}{σ:St}{H:Hp}{Q:Bool→Hp→Prop}:E8 t σ H Q=(t σ H fun x H'=>∃k,x = .bl k∧Q k H'):=rfl
theorem FZ {r r':R2}{ta tb tc:TE}{σ:St}{H:Hp}{Q:VK}:zE r r' ta tb tc σ H Q=(ta σ H fun x H1=>tb σ H1 fun y H2=>r x y H2 fun z H3=>∃k,z = .bl k ∧   (if k=true then tc σ H3 fun w' H4=>r' y w' H4 Q else Q (.bl false) H3)):=rfl
theorem E9 {σ:St}{H:Hp}{Q:List V→Hp→Prop}:MD  σ H Q=(Q [] H):=rfl
theorem Bw {ta:TE}{tr:TA}{σ:St}{H:Hp}{Q:List V→Hp→Prop}:Fb ta tr σ H Q=(ta σ H fun x H1=>tr σ H1 fun xs H2=>Q (x::xs) H2):=rfl
theorem IK {sp:Sp}{ua:List V}{E:XK}{t:TA}{σ:St}{H:Hp}{Q:VK}:KI sp ua E t σ H Q=(t σ H fun vs H1=>sp (vs++ua) H1 Q E):=rfl
theorem Ka {r:List V→Hp→VK→Prop}{t:TA}{σ:St}{H:Hp}{Q:VK}:Y1 r t σ H Q=(t σ H fun vs H1=>r vs H1 Q):=rfl
theorem B0 {σ:St}{H:Hp}{Q:Option Int→Hp→Prop}:AG  σ H Q=(Q none H):=rfl
theorem JF {t:TE}{σ:St}{H:Hp}{Q:Option Int→Hp→Prop}:JO t σ H Q=(t σ H fun x H1=>∃i,x = .int i∧Q (some i) H1):=rfl
theorem P7 {r:V→Option Int→Option Int→Hp→VK→Prop}{te:TE}{tl th:TO}{σ:St}{H:Hp}{Q:VK}:tSl r te tl th σ H Q=(te σ H fun x H1=>tl σ H1 fun l H2=>th σ H2 fun u H3=>r x l u H3 Q):=rfl
theorem NC {K:PySem.W.Frag}{x y:V}{H:Hp}{Q:VK}:OR K x y H Q=(∃p xs i v,x = .ref p∧y = .int i∧fD K H p xs∧kT xs i=some v∧Q v H):=rfl
theorem Ny {x y:V}{H:Hp}{Q:VK}:O2  x y H Q=(∃z i c,x = .str z∧y = .int i∧z.length≤sizeLine∧kT z.cps.toList i=some c∧Q (.str ⟨#[c]⟩) H):=rfl
theorem OX {K:PySem.W.Frag}{T:String}{r:V→List V→Hp→VK→Prop}{to:TE}{t:TA}{σ:St}{H:Hp}{Q:VK}:tBM K T r to t σ H Q=(to σ H fun x H1=>NN K T x H1∧t σ H1 fun xs H2=>r x xs H2 Q):=rfl
theorem Mf {ty td:TE}{σ:St}{H:Hp}{Q:VK}:N9 ty td σ H Q=(ty σ H fun y H1=>td σ H1 fun x H2=>∃a o,x = .ref a∧tN H2 a y o∧Q (.bl o.isSome) H2):=rfl
theorem IC {td ty tv:TE}{D:Ends}{σ:St}{H:Hp}:Kw td ty tv D σ H=(tv σ H fun v H1=>td σ H1 fun x H2=>ty σ H2 fun y H3=>∃a H4,x = .ref a∧xC H3 a y v H4∧D.nx σ H4):=rfl
theorem LL {σ:St}{H:Hp}{Q:Bool→Hp→Prop}:Mw  σ H Q=(Q true H):=rfl
theorem Ji {wi:TI}{caps:List Nat}{tc:TT}{te:TE}{σ:St}{H:Hp}{Q:VK}:uV wi caps tc te σ H Q=(wi σ H fun J H1=>jC J caps tc te σ H1 Q):=rfl
theorem Mv {tl:TE}{σ:St}{H:Hp}{R:It→Hp→Prop}:Oc tl σ H R=(tl σ H fun x H1=>∃z,x = .str z∧R (Q3 z) H1):=rfl
theorem LJ {x:V}{lo hi:Option Int}{H:Hp}{Q:VK}:Qe  x lo hi H Q=(∃z,x = .str z∧z.length≤sizeLine∧Q (.str (Txt.slice z lo hi)) H):=rfl
theorem IQ {K:PySem.W.Frag}{x:V}{xs:List V}{H:Hp}{Q:VK}:rJoin K x xs H Q=(∃sep a ys,x = .str sep∧xs=[.ref a]∧(fD K H a (ys.map V.str)∨jr K H a (ys.map V.str))∧(ys.map (·.length)).sum+ys.length*sep.length≤16777216∧Q (.str (Txt.join sep ys)) H):=rfl
theorem Md {x y:V}{H:Hp}{Q:VK}:QD  x y H Q=(∃d e,Dt H d x∧Dt H e y∧d.dp≤150∧Q (.bl (D.eq d e)) H):=rfl
theorem LH {x y:V}{H:Hp}{Q:VK}:Oi  x y H Q=(∃d e,Dt H d x∧Dt H e y∧d.dp≤150∧Q (.bl (!D.eq d e)) H):=rfl
theorem NI {neg:Bool}{x y:V}{H:Hp}{Q:VK}:OG neg x y H Q=(∃a vs ds e,y = .ref a∧(H a=some (.lst vs)∨H a=some (.tup vs))∧aR H ds vs∧Dt H e x∧D.tK ds≤150∧Q (.bl (if neg then !ds.any (fun d=>D.eq d e) else ds.any (fun d=>D.eq d e))) H):=rfl
theorem Mr {xs:List V}{H:Hp}{Q:VK}:Oe  xs H Q=(∃x n t,xs=[x,.ty n]∧K0 H x t∧n∈["bool","int","str","list","tuple","dict"]∧Q (.bl (Gq t n)) H):=rfl
theorem Jc {x y:V}{H:Hp}{Q:VK}:Fm  x y H Q=(∃a b xs ys,x = .ref a∧y = .ref b∧H a=some (.tup xs)∧H b=some (.tup ys)∧xs.length+ys.length≤sizeLine ∧   ∀p H',ay H H'→H' p=some (.tup (xs++ys))→Q (.ref p) H'):=rfl
theorem Nu {x y:V}{H:Hp}{Q:VK}:N3  x y H Q=(∃p xs i v,x = .ref p∧y = .int i∧itemsOf (H p)=some xs∧kT xs i=some v∧Q v H):=rfl
theorem Hg {i j:Int}:(zi (.int i) (.int j)=true)=True:=eq_true rfl
theorem Ho {i j:Str}:(zi (.str i) (.str j)=true)=True:=eq_true rfl
theorem II {i j:Bool}:(zi (.bl i) (.bl j)=true)=True:=eq_true rfl
end L2
namespace L2
open PySem PySem.Spec PyProof.Rows
noncomputable def aM (H:Hp) (o:HO) (Q:VK):Prop:=∀p,H p=none→Q (.ref p) (upd H p o)
theorem aM.mk {H:Hp}{o:HO}{Q:VK} (h:∀p H',ay H H'→H p=none→H' p=some o→Q (.ref p) H'):aM H o Q:=fun p hp=>h p _ (bP hp o) hp aT
noncomputable def ny (H:Hp) (l:Addr) (o:HO) (R:Hp→Prop):Prop:=R (upd H l o)
theorem ny.mk {H:Hp}{l:Addr}{o:HO}{R:Hp→Prop} (h:∀H',(∀b,b≠l→H' b=H b)→H' l=some o→R H'):ny H l o R:=h _ (fun b hb=>aL hb) aT
theorem Mb {t:TA}{σ:St}{H:Hp}{Q:VK}:Ni t σ H Q=(t σ H fun xs H1=>xs.length≤sizeLine∧aM H1 (.tup xs) Q):=rfl
theorem Lk {t:TA}{σ:St}{H:Hp}{Q:VK}:Po t σ H Q=(t σ H fun xs H1=>xs.length≤sizeLine∧aM H1 (.lst xs) Q):=rfl
theorem CO {x:V}{vs:List V}{H:Hp}{Q:VK}:Bb x vs H Q=(∃l xs y,x = .ref l∧vs=[y]∧H l=some (.lst xs)∧xs.length<sizeLine∧ny H l (.lst (xs++[y])) (Q .non)):=rfl
theorem CC {x:V}{vs:List V}{H:Hp}{Q:VK}:Br x vs H Q=(∃l b xs zs,x = .ref l∧vs=[.ref b]∧H l=some (.lst xs)∧H b=some (.lst zs)∧xs.length+zs.length≤sizeLine∧ny H l (.lst (xs++zs)) (Q .non)):=rfl
theorem Mi {x y:V}{H:Hp}{Q:VK}:OS x y H Q=(∃l b xs zs,x = .ref l∧y = .ref b∧H l=some (.lst xs)∧H b=some (.lst zs)∧xs.length+zs.length≤sizeLine∧aM H (.lst (xs++zs)) Q):=rfl
theorem Mn {x y:V}{H:Hp}{Q:VK}:Oa x y H Q=(∃l k xs,x = .ref l∧y = .int k∧H l=some (.lst xs) ∧ -(2^63)≤k∧k<2^63∧xs.length*k.toNat≤sizeLine∧aM H (.lst (List.replicate k.toNat xs).flatten) Q):=rfl
theorem IL {o i v:V}{H:Hp}{Q:Hp→Prop}:JI o i v H Q=(∃p xs k j,o = .ref p∧i = .int k∧H p=some (.lst xs)∧Az xs.length k=some j∧ny H p (.lst (xs.set j v)) Q):=rfl
theorem FX {σ:St}{H:Hp}{Q:VK}:EF σ H Q=aM H (.dK []) Q:=rfl
noncomputable def Ke:V→Option Int→Option Int→Hp→VK→Prop:=fun x lo hi H Q=>∃a xs,x = .ref a∧H a=some (.lst xs)∧aM H (.lst (iB xs lo hi)) Q
theorem LF {X:Cx}:GC X Ke:=Zo
theorem Iw {x:V}{lo hi:Option Int}{H:Hp}{Q:VK}:Ke x lo hi H Q=(∃a xs,x = .ref a∧H a=some (.lst xs)∧aM H (.lst (iB xs lo hi)) Q):=rfl
noncomputable def Kh:List V→Hp→VK→Prop:=fun xs H Q=>∃p ys,xs=[.ref p]∧itemsOf (H p)=some ys∧Q (.int ys.length) H
theorem qQ {X:Cx}:ck X (.builtin "len") Kh:=TU
theorem AU {xs:List V}{H:Hp}{Q:VK}:Kh xs H Q=(∃p ys,xs=[.ref p]∧itemsOf (H p)=some ys∧Q (.int ys.length) H):=rfl
theorem aN {H:Hp}{a:Addr}{xs:List V} (h:H a=some (.lst xs)):itemsOf (H a)=some xs:=by rw [h];rfl
theorem aj {H:Hp}{a:Addr}{xs:List V} (h:H a=some (.tup xs)):itemsOf (H a)=some xs:=by rw [h];rfl
theorem ay.mV {H0 H H':Hp}{l:Addr} (S:ay H0 H) (n:H0 l=none) (k:∀b,b≠l→H' b=H b):ay H0 H':=fun b o e=>by
 rw [k b (aF e n)];exact S b o e
theorem Dt.sg {H H':Hp}{l:Addr}{xs:List V}{d:D}{v:V} (hl:H l=some (.lst xs)) (k:∀b,b≠l→H' b=H b) (n:d.nl=true) (h:Dt H d v):Dt H' d v:=
 h.bU (fun b ys e=>by rw [k b (lM e hl (by intro z;cases z))];exact e) n
theorem aR.sg {H H':Hp}{l:Addr}{xs:List V}{d:List D}{v:List V} (hl:H l=some (.lst xs)) (k:∀b,b≠l→H' b=H b) (n:D.my d=true) (h:aR H d v):aR H' d v:=
 h.bU (fun b ys e=>by rw [k b (lM e hl (by intro z;cases z))];exact e) n
noncomputable abbrev Tree:=M.Tr Str
noncomputable def dT:Tree→D
 | .leaf x=>.tup [.str "leaf",.str x]
 | .knot f l r=>.tup [.str "knot",.str f,dT l,dT r]
noncomputable def vP (p:List Nat):List V:=p.map fun (i:Nat)=>.int (i:Int)
noncomputable def dP (p:List Nat):D:=.tup (p.map fun (i:Nat)=>.int (i:Int))
noncomputable def dO:Option (List Nat)→D
 | none=>.non
 | some p=>dP p
theorem xh (t:Tree):(dT t).nl=true:=by
 induction t with
 | leaf x=>simp [dT,D.nl,D.my]
 | knot f l r ihl ihr=>simp [dT,D.nl,D.my,ihl,ihr]
theorem Gp (p:List Nat):D.my (p.map fun (i:Nat)=>D.int (i:Int))=true:=by
 induction p with
 | nil=>rfl
 | cons i p ih=>simp [D.my,D.nl,ih]
theorem Gy (p:List Nat):D.cls (p.map fun (i:Nat)=>D.int (i:Int))=true:=by
 induction p with
 | nil=>rfl
 | cons i p ih=>simp [D.cls,D.cl,ih]
theorem EI (p:List Nat):D.tK (p.map fun (i:Nat)=>D.int (i:Int))=0:=by
 induction p with
 | nil=>rfl
 | cons i p ih=>simp [D.tK,D.dp,ih]
theorem xH (p:List Nat):(dP p).nl=true:=by simp only [dP,D.nl];exact Gp p
theorem N5 (p:List Nat):(dP p).cl=true:=by simp only [dP,D.cl];exact Gy p
theorem Pf (p:List Nat):(dP p).dp=1:=by simp only [dP,D.dp,EI]
theorem Kv (o:Option (List Nat)):(dO o).cl=true:=by cases o<;>simp [dO,N5,D.cl]
theorem xB (o:Option (List Nat)):(dO o).nl=true:=by cases o<;>simp [dO,xH,D.nl]
theorem A1 (o:Option (List Nat)):(dO o).dp≤1:=by cases o<;>simp [dO,Pf,D.dp]
theorem yB:∀{p q:List Nat},(p.map fun (i:Nat)=>D.int (i:Int))=(q.map fun (i:Nat)=>D.int (i:Int))→p=q
 | [],[],_=>rfl
 | [],_::_,h=>by simp at h
 | _::_,[],h=>by simp at h
 | i::p,j::q,h=>by
  simp only [List.map_cons,List.cons.injEq,D.int.injEq] at h
  rw [yB h.2]
  have:i=j:=by omega
  rw [this]
theorem MQ {p q:List Nat} (h:dP p=dP q):p=q:=by
 simp only [dP,D.tup.injEq] at h
 exact yB h
theorem LZ {p q:Option (List Nat)} (h:dO p=dO q):p=q:=by
 cases p<;>cases q<;>simp only [dO] at h
 · rfl
 · simp [dP] at h
 · simp [dP] at h
 · rw [MQ h]
theorem aR.ints {H:Hp}:∀{p:List Nat}{vs:List V},aR H (p.map fun (i:Nat)=>D.int (i:Int)) vs→vs=vP p
 | [],vs,h=>by
  simp only [List.map_nil,aR] at h
  exact h
 | i::p,vs,h=>by
  simp only [List.map_cons,aR] at h
  obtain⟨v,r,rfl,h1,h2⟩:=h
  rw [aV.mp h1,aR.ints h2];rfl
theorem aR.ofInts {H:Hp}:∀{p:List Nat},aR H (p.map fun (i:Nat)=>D.int (i:Int)) (vP p)
 | []=>by simp only [List.map_nil,aR,vP]
 | i::p=>aR.cons (aV.mpr rfl) aR.ofInts
theorem Bk {H:Hp}{p:List Nat}{v:V} (h:Dt H (dP p) v):∃a,v = .ref a∧H a=some (.tup (vP p)):=by
 obtain⟨a,vs,rfl,e,h⟩:=fZ.mp h
 rw [aR.ints h] at e
 exact⟨a,rfl,e⟩
theorem qh {H:Hp}{p:List Nat}{a:Addr} (e:H a=some (.tup (vP p))):Dt H (dP p) (.ref a):=Dt.tup e aR.ofInts
theorem vt {H:Hp}{x:Str}{v:V} (h:Dt H (dT (.leaf x)) v):∃a,v = .ref a∧H a=some (.tup [.str "leaf",.str x]):=by
 simp only [dT] at h
 obtain⟨a,vs,rfl,e,h⟩:=fZ.mp h
 obtain⟨v1,r,rfl,h1,h⟩:=aY.mp h
 obtain⟨v2,r,rfl,h2,h⟩:=aY.mp h
 rw [fJ.mp h,bh.mp h1,bh.mp h2] at e
 exact⟨a,rfl,e⟩
theorem gm {H:Hp}{f:Str}{l r:Tree}{v:V} (h:Dt H (dT (.knot f l r)) v):∃a vl vr,v = .ref a∧H a=some (.tup [.str "knot",.str f,vl,vr])∧Dt H (dT l) vl∧Dt H (dT r) vr:=by
 simp only [dT] at h
 obtain⟨a,vs,rfl,e,h⟩:=fZ.mp h
 obtain⟨v1,r1,rfl,h1,h⟩:=aY.mp h
 obtain⟨v2,r2,rfl,h2,h⟩:=aY.mp h
 obtain⟨v3,r3,rfl,h3,h⟩:=aY.mp h
 obtain⟨v4,r4,rfl,h4,h⟩:=aY.mp h
 rw [fJ.mp h,bh.mp h1,bh.mp h2] at e
 exact⟨a,v3,v4,rfl,e,h3,h4⟩
theorem Bt {H:Hp}{x:Str}{a:Addr} (e:H a=some (.tup [.str "leaf",.str x])):Dt H (dT (.leaf x)) (.ref a):=Dt.tup e (.cons (bh.mpr rfl) (.cons (bh.mpr rfl) .nil))
theorem BE {H:Hp}{f:Str}{l r:Tree}{a:Addr}{vl vr:V} (e:H a=some (.tup [.str "knot",.str f,vl,vr])) (hl:Dt H (dT l) vl) (hr:Dt H (dT r) vr):Dt H (dT (.knot f l r)) (.ref a):=
 Dt.tup e (.cons (bh.mpr rfl) (.cons (bh.mpr rfl) (.cons hl (.cons hr .nil))))
theorem zh {H:Hp}{t:Tree}{v:V} (h:Dt H (dT t) v):∃a r,v = .ref a∧H a=some (.tup (.str (if t.i7 then "leaf" else "knot") :: .str t.name::r)):=by
 cases t with
 | leaf x=>obtain⟨a,rfl,e⟩:=vt h;exact⟨a,_,rfl,e⟩
 | knot f l r=>obtain⟨a,vl,vr,rfl,e,_⟩:=gm h;exact⟨a,_,rfl,e⟩
theorem aR.fY {α:Type}{H:Hp}{f:α→D}:∀{l:List α}{vs:List V}{i:Nat}{x:α},aR H (l.map f) vs→l[i]? = some x→∃v,vs[i]? = some v∧Dt H (f x) v:=fun h e=>h.get (by rw [List.getElem?_map,e];rfl)
noncomputable def iJ (c:Int) (many k:Nat):Str:=⟨(M.nm c many k).toArray⟩
theorem Gd (a:List Nat) (b:List Nat):(Str.mk a.toArray)++(Str.mk b.toArray)=Str.mk (a++b).toArray:=by
 show Str.append _ _=_
 simp [Str.append]
theorem tH:∀l:List Nat,Str.join (⟨#[]⟩:Str) (l.map fun c=>(⟨#[c]⟩:Str))=⟨l.toArray⟩
 | []=>rfl
 | [c]=>rfl
 | c::d::l=>by
  have ih:=tH (d::l)
  show (⟨#[c]⟩:Str)++(⟨#[]⟩:Str)++Str.join ⟨#[]⟩ ((d::l).map fun c=>(⟨#[c]⟩:Str))=_
  rw [ih]
  have e:(⟨#[c]⟩:Str)++(⟨#[]⟩:Str)=Str.mk [c].toArray:=by show Str.append _ _=_;simp [Str.append]
  rw [e,Gd];rfl
theorem yi (l:List Nat):Txt.join (Str.ofString "") (l.map fun c=>(⟨#[c]⟩:Str))=⟨l.toArray⟩:=by
 show Builtin.Str.glued _ _=_
 rw [StrLaws.glued_eq_join]
 have:Str.ofString ""=(⟨#[]⟩:Str):=by decide +kernel
 rw [this];exact tH l
noncomputable def isName (l:List Nat):Bool:=decide (1≤l.length)&&(decide (l.length≤8)&&l.all fun c=>decide (97≤c)&&decide (c≤122))
theorem yh {l:List Nat} (h:M.good l):isName l=true:=by
 obtain⟨h1,h2,h3⟩:=h
 unfold isName
 simp only [Bool.and_eq_true,decide_eq_true_eq,List.all_eq_true]
 exact⟨h1,h2,h3⟩
noncomputable def bb (x:Str):Bool:=isName x.cps.toList
structure jE (many:Nat) (t:Tree) (c c':Int):Prop where
 perm:t.lv.Perm ((List.range many).map (iJ c many))
 kn:∀f∈t.kn,f∈(List.range 3).map (iJ c' 3)
 dp:t.dp≤24
theorem HG {c:Int}{many i j:Nat} (hm:many≤32) (hi:i<many) (hj:j<many) (h:iJ c many i=iJ c many j):i=j:=by
 unfold iJ at h
 simp only [Str.mk.injEq,Array.mk.injEq] at h
 exact M.K6 hm hi hj (by simpa using h)
theorem zz {c:Int}{many k:Nat} (h:k<many):bb (iJ c many k)=true:=yh (M.JD h)
namespace jE
variable {many : Nat} {t : Tree} {c c' : Int}
theorem len (h:jE many t c c'):t.lv.length=many:=by rw [h.perm.length_eq];simp
theorem nodup (h:jE many t c c') (hm:many≤32):t.lv.Nodup:=h.perm.nodup_iff.mpr (M.qB fun _ _ hi hj e=>HG hm hi hj e)
theorem Wm (h:jE many t c c'):∀x∈t.lv,bb x=true:=fun x hx=>by
 obtain⟨k,hk,rfl⟩:=List.mem_map.mp (h.perm.mem_iff.mp hx)
 exact zz (List.mem_range.mp hk)
theorem aa6 (h:jE many t c c'):∀x∈t.kn,bb x=true:=fun x hx=>by
 obtain⟨k,hk,rfl⟩:=List.mem_map.mp (h.kn x hx)
 exact zz (List.mem_range.mp hk)
end jE
theorem jo {α:Type}{xs:List α}{i:Int}{v:α} (h0:0≤i) (h:xs[i.toNat]? = some v):kT xs i=some v:=by
 have e:i=((i.toNat:Nat):Int):=by omega
 rw [e];exact gj h
theorem BK {n:Nat}{i:Int} (h0:0≤i) (h:i<n):Az n i=some i.toNat:=by unfold Az;rw [if_pos h0,if_pos h]
theorem AH {xs:List V}{p:Nat} (h:p≤xs.length):iB xs none (some (p:Int))=xs.take p:=by
 have e1:HT.cM xs.length 0 none=0:=rfl
 have e2:HT.cM xs.length xs.length (some (p:Int))=p:=by rw [HT.qS];omega
 unfold iB
 rw [e1,e2];simp
theorem pT {xs:List V}{p:Nat} (h:p≤xs.length):iB xs (some (p:Int)) none=xs.drop p:=by
 have e1:HT.cM xs.length xs.length none=xs.length:=rfl
 have e2:HT.cM xs.length 0 (some (p:Int))=p:=by rw [HT.qS];omega
 unfold iB
 rw [e1,e2,List.take_of_length_le (by simp)]
noncomputable def J0:List V→Hp→VK→Prop:=fun xs H Q=>∃k,xs=[.bl k]∧Q (.int (if k then 1 else 0)) H
theorem kW {X:Cx}:ck X (.type "int") J0:=fun pins s σ H xs us Q I r h=>Cg pins s σ H xs us Q I r (.inr h)
theorem Jx {xs:List V}{H:Hp}{Q:VK}:J0 xs H Q=(∃k,xs=[.bl k]∧Q (.int (if k then 1 else 0)) H):=rfl
noncomputable abbrev LETT:Str:=Str.ofString "abcdefghijklmnopqrstuvwxyz"
theorem u1:LETT.cps.toList=(List.range 26).map (97 + ·):=by decide +kernel
theorem Hf {i:Int} (h0:0≤i) (h:i<26):kT LETT.cps.toList i=some (97+i.toNat):=by
 refine jo h0 ?_
 rw [u1,List.getElem?_map,List.getElem?_range (by omega)];rfl
theorem m6:LETT.length≤sizeLine:=by
 have:LETT.length=26:=by
  have e:=congrArg List.length u1
  simpa [Str.length] using e
 rw [this];decide
theorem vK (c:Int):kT LETT.cps.toList (c % 26)=some (M.cn c):=Hf (by omega) (by omega)
theorem Bq {α:Type} (n:Nat) (x:α):(List.replicate n [x]).flatten=List.replicate n x:=by
 induction n with
 | zero=>rfl
 | succ n ih=>simp [List.replicate_succ,ih]
theorem ty_str {K:PySem.W.Frag}{z:Str}{H:Hp}:(NN K "str" (.str z) H)=True:=eq_true rfl
theorem o1 {K:PySem.W.Frag}{H:Hp}{p:Addr}{xs:List V} (e:H p=some (.lst xs)):NN K "list" (.ref p) H:=.inl ⟨rfl,_,fD.of e⟩
theorem cP {n:Nat} (h:n≤100000):n<sizeLine:=Nat.lt_of_le_of_lt h (by decide)
theorem aZ {n:Nat} (h:n≤100000):n≤sizeLine:=Nat.le_of_lt (cP h)
theorem xI:∀l:List Nat,((l.map fun c=>(⟨#[c]⟩:Str)).map (fun x=>x.length)).sum=l.length
 | []=>rfl
 | c::l=>by simp only [List.map_cons,List.sum_cons,xI l,List.length_cons];show 1+l.length=_;omega
theorem Eg {K:PySem.W.Frag}{H:Hp}{p2 p5:Addr}{xs:List V}{l:List Nat}{R:Hp→Prop} (e2:H p2=some (.lst xs)) (e5:H p5=some (.lst (l.map fun x=>V.str ⟨#[x]⟩))) (hx:xs.length≤1000) (hl:l.length≤1000)
 (q:∀H',(∀b,b≠p2→H' b=H b)→H' p2=some (.lst (xs++[.str ⟨l.toArray⟩]))→R H') :
 NN K "list" (.ref p2) H∧∃x,(fD K H p5 (x.map V.str)∨jr K H p5 (x.map V.str))∧(x.map (fun x=>x.length)).sum+x.length*(Str.ofString "").length≤16777216∧
  ∃KG,H p2=some (.lst KG)∧KG.length<sizeLine∧ny H p2 (.lst (KG++[.str (Txt.join (Str.ofString "") x)])) R:=by
 refine⟨o1 e2,l.map fun c=>(⟨#[c]⟩:Str),.inl (fD.of (by rw [e5,List.map_map];rfl)),?_,xs,e2,cP (by omega),ny.mk fun H' k e=>q H' k ?_⟩
 · rw [xI,List.length_map]
   have:(Str.ofString "").length=0:=by decide +kernel
   rw [this];omega
 · rw [e,yi]
noncomputable def WalkL (K:PySem.W.Frag) (x:V) (H:Hp) (R:It→Hp→Prop):Prop:=∃a,x = .ref a∧(∃xs,H a=some (.lst xs))∧R (NX K a) H
noncomputable def lX (K:PySem.W.Frag) (x:V) (H:Hp) (R:It→Hp→Prop):Prop:=∃a,x = .ref a∧(∃xs,H a=some (.tup xs))∧R (NQ K a) H
noncomputable def iL (K:PySem.W.Frag) (tl:TE):TI:=fun σ H R=>tl σ H fun x H1=>WalkL K x H1 R
noncomputable def iT (K:PySem.W.Frag) (tl:TE):TI:=fun σ H R=>tl σ H fun x H1=>lX K x H1 R
theorem Ti {K:PySem.W.Frag}{tl:TE}{σ:St}{H:Hp}{R:It→Hp→Prop}:iL K tl σ H R=tl σ H fun x H1=>WalkL K x H1 R:=rfl
theorem aaW {K:PySem.W.Frag}{tl:TE}{σ:St}{H:Hp}{R:It→Hp→Prop}:iT K tl σ H R=tl σ H fun x H1=>lX K x H1 R:=rfl
theorem AE {X:Cx}{tg l:Expr}{tl:TE} (hl:PE X l tl):PI X tg l (iL X.K tl):=by
 intro pins s σ H R I h
 refine bD (hl pins s σ H _ I h) fun v s1 ⟨x,H1,I1,r1,q1⟩=>?_
 obtain⟨a,rfl,⟨xs,ha⟩,q⟩:=q1
 cases r1
 have fp:∀b∈[s1.heap.objs.size],bR X pins H1 b:=fun b hb=>by
  have e:b=s1.heap.objs.size:=by simpa using hb
  rw [e]
  exact I1.lG (Nat.le_refl _) (I1.aO.fresh (Nat.le_refl _))
 obtain⟨aq,rv,p,hz⟩:=I1.list (fD.of ha)
 exact wpAny_pyIter_list p.isList ⟨_,_,_,_,H1,rfl,I1.kept (t':=s1.toks) fun b o e=>Heap.get?_push_of_some _ e,Cj a _,⟨_,Heap.get?_push_size _ rfl,rfl,rfl⟩,fp,q⟩
theorem RF {X:Cx}{tg l:Expr}{tl:TE} (hl:PE X l tl):PI X tg l (iT X.K tl):=by
 intro pins s σ H R I h
 refine bD (hl pins s σ H _ I h) fun v s1 ⟨x,H1,I1,r1,q1⟩=>?_
 obtain⟨a,rfl,⟨xs,ha⟩,q⟩:=q1
 cases r1
 have fp:∀b∈[s1.heap.objs.size],bR X pins H1 b:=fun b hb=>by
  have e:b=s1.heap.objs.size:=by simpa using hb
  rw [e]
  exact I1.lG (Nat.le_refl _) (I1.aO.fresh (Nat.le_refl _))
 obtain⟨aq,rv,p,hz⟩:=I1.tuple (jr.of ha)
 exact wpAny_pyIter_tuple (show s1.heap.IsTuple a aq.toArray from p) ⟨_,_,_,_,H1,rfl,I1.kept (t':=s1.toks) fun b o e=>Heap.get?_push_of_some _ e,Au a _,⟨_,Heap.get?_push_size _ rfl,rfl,rfl⟩,fp,q⟩
theorem WalkL.DF {K:PySem.W.Frag}{a:Addr}{xs:List V}{g:TG}{tb:TS}{D:Ends}{σ:St}{H:Hp} (e:H a=some (.lst xs)) (Pv:Nat→St→Hp→Prop) (h0:Pv 0 σ H) (hl:∀i σ H,i≤xs.length→Pv i σ H→H a=some (.lst xs))
 (hs:∀i x σ H,xs[i]? = some x→Pv i σ H→g x σ H fun σ2 H2=>tb {D with nx:=Pv (i+1),ct:=Pv (i+1),bk:=D.nx} σ2 H2) (hd:∀σ H,Pv xs.length σ H→D.nx σ H):WalkL K (.ref a) H fun J H1=>Ad J g tb D σ H1:=
 ⟨a,rfl,⟨xs,e⟩,Em Pv h0 (fun i σ H h p=>fD.of (hl i σ H h p)) hs hd⟩
theorem lX.DF {K:PySem.W.Frag}{a:Addr}{xs:List V}{g:TG}{tb:TS}{D:Ends}{σ:St}{H:Hp} (e:H a=some (.tup xs)) (Pv:Nat→St→Hp→Prop) (h0:Pv 0 σ H) (hl:∀i σ H,i≤xs.length→Pv i σ H→H a=some (.tup xs))
 (hs:∀i x σ H,xs[i]? = some x→Pv i σ H→g x σ H fun σ2 H2=>tb {D with nx:=Pv (i+1),ct:=Pv (i+1),bk:=D.nx} σ2 H2) (hd:∀σ H,Pv xs.length σ H→D.nx σ H):lX K (.ref a) H fun J H1=>Ad J g tb D σ H1:=
 ⟨a,rfl,⟨xs,e⟩,Ht Pv h0 (fun i σ H h p=>jr.of (hl i σ H h p)) hs hd⟩
theorem WalkL.comp {K:PySem.W.Frag}{a:Addr}{xs:List V}{caps:List Nat}{tc:TT}{te:TE}{σ:St}{H:Hp}{Q:VK} (e:H a=some (.lst xs)) (Pv:Nat→List V→Hp→Prop) (h0:Pv 0 [] H) (hx:xs.length≤100000)
 (hy:∀i ys H',Pv i ys H'→ys.length≤i)
 (hs:∀i x ys H',xs[i]? = some x→ay H H'→Pv i ys H'→tc (bc caps σ (some x)) H' fun b H2=>if b=true then te (bc caps σ (some x)) H2 fun y H3=>ay H H3∧Pv (i+1) (ys++[y]) H3 else ay H H2∧Pv (i+1) ys H2)
 (hd:∀p ys H1 H2,ay H H1→ay H1 H2→Pv xs.length ys H1→H1 p=none→H2 p=some (.lst ys)→Q (.ref p) H2):WalkL K (.ref a) H fun J H1=>jC J caps tc te σ H1 Q:=
 ⟨a,rfl,⟨xs,e⟩,Di (fun i ys H'=>ay H H'∧Pv i ys H') ⟨ay.refl H,h0⟩ (cP hx) (fun i ys H' p=>hy i ys H' p.2) (fun i ys H' _ p=>fD.of (p.1 _ _ e)) (fun i x ys H' ex p=>hs i x ys H' ex p.1 p.2) fun ys H' p q n=>hd q ys H' _ p.1 (bP n _) p.2 n aT⟩
theorem jh {α:Type}{f:α→D} (h:∀a,(f a).nl=true):∀l:List α,D.my (l.map f)=true
 | []=>rfl
 | a::l=>by simp only [List.map_cons,D.my,h a,jh h l,Bool.and_self]
end L2
namespace L2
open PySem PySem.Spec PyProof.Rows
theorem kX {x y:Str} (h:x.cps.toList=y.cps.toList):x=y:=by
 obtain⟨⟨a⟩⟩:=x
 obtain⟨⟨b⟩⟩:=y
 simp only at h
 rw [h]
theorem cps_append (x y:Str):(x++y).cps.toList=x.cps.toList++y.cps.toList:=by
 show (Str.append x y).cps.toList=_
 simp [Str.append]
theorem zA (l:List Nat):(Str.mk l.toArray).cps.toList=l:=by simp
theorem cy (x:Str):x.length=x.cps.toList.length:=by simp [Str.length]
theorem len_app (x y:Str):(x++y).length=x.length+y.length:=by rw [cy,cy,cy,cps_append,List.length_append]
theorem oE (x:Str) {a b:Nat} (GO:a≤b) (hb:b≤x.length):(Txt.slice x (some (a:Int)) (some (b:Int))).cps.toList=(x.cps.toList.drop a).take (b - a):=by
 have:Txt.slice x (some (a:Int)) (some (b:Int))=StrLaws.sliceText x (some (a:Int)) (some (b:Int)):=rfl
 rw [this,StrLaws.sliceText_nat x GO hb]
theorem yg (x:Str) (a:Option Int) {b:Nat} (hb:x.length≤b):Txt.slice x a (some (b:Int))=Txt.slice x a (some (x.length:Int)):=by
 have h1:¬((b:Int)<0):=by omega
 have h2:¬((x.length:Int)<0):=by omega
 have e:Builtin.Str.strSliceIndices a (some (b:Int)) 1 x.length=Builtin.Str.strSliceIndices a (some (x.length:Int)) 1 x.length:=by
  simp only [Builtin.Str.strSliceIndices,h1,h2,if_false,show (1:Int) > 0 by decide,if_true]
  have e1:min (b:Int) (x.length:Int)=(x.length:Int):=by omega
  have e2:min (x.length:Int) (x.length:Int)=(x.length:Int):=by omega
  rw [e1,e2]
 unfold Txt.slice
 rw [e]
theorem Dh (x:Str) {e:Nat} (he:e≤x.length):(Txt.slice x (some (e:Int)) (some ((e:Int)+1))).cps.toList=(x.cps.toList.drop e).take 1:=by
 have e1:(e:Int)+1=((e+1:Nat):Int):=by omega
 rw [e1]
 by_cases h:e+1≤x.length
 · rw [oE x (by omega) h];congr 1;omega
 · have e2:e=x.length:=by omega
   rw [yg x _ (by omega),oE x he (Nat.le_refl _),e2]
   have:x.cps.toList.drop x.length=[]:=by rw [cy];simp
   rw [this];simp
theorem Gr (x:Str) {e c:Nat} (he:e≤x.length):decide (V.str (Txt.slice x (some (e:Int)) (some ((e:Int)+1)))=V.str ⟨#[c]⟩)=decide (x.cps.toList[e]? = some c):=by
 rw [Bool.eq_iff_iff]
 simp only [decide_eq_true_eq,V.str.injEq]
 have s:=Dh x he
 have hd:(x.cps.toList.drop e).take 1=[c]↔x.cps.toList[e]? = some c:=by
  cases h:x.cps.toList[e]? with
  | none=>
   have:x.cps.toList.drop e=[]:=List.drop_eq_nil_of_le (List.getElem?_eq_none_iff.mp h)
   rw [this];simp
  | some d=>
   obtain⟨hi,e2⟩:=List.getElem?_eq_some_iff.mp h
   rw [List.drop_eq_getElem_cons hi,e2];simp
 rw [←hd,←s]
 constructor
 · intro h;rw [h]
 · intro h;exact kX h
noncomputable def isSign (c:Nat):Bool:=c==40||c==32||c==41
noncomputable def nameEnd (l:List Nat) (s:Nat):Nat:=s+((l.drop s).takeWhile fun c=>!isSign c).length
theorem zq {l:List Nat}{s:Nat} (h:s≤l.length):nameEnd l s≤l.length:=by
 unfold nameEnd
 have:=(List.takeWhile_prefix (fun c=>!isSign c) (l:=l.drop s)).length_le
 simp at this;omega
theorem zm (l:List Nat) (s:Nat):s≤nameEnd l s:=by unfold nameEnd;omega
noncomputable def tf (l:List Nat):Nat→Nat→Option (Tree×Nat)
 | 0,_=>none
 | n+1,s=>
  if l[nameEnd l s]? = some 40 then
   match tf l n (nameEnd l s+1) with
   | none=>none
   | some (a,m)=>if l[m]? = some 32 then (match tf l n (m+1) with
    | none=>none
    | some (b,z)=>if l[z]? = some 41 then some (.knot ⟨((l.drop s).take (nameEnd l s - s)).toArray⟩ a b,z+1) else none) else none
  else some (.leaf ⟨((l.drop s).take (nameEnd l s - s)).toArray⟩,nameEnd l s)
noncomputable def dI:Tree→List Nat
 | .leaf x=>x.cps.toList
 | .knot f l r=>f.cps.toList++(40::(dI l++(32::(dI r++[41]))))
theorem sv {pre nm post:List Nat} (h:∀c∈nm,isSign c=false) (hp:post=[]∨∃c r,post=c::r∧isSign c=true):nameEnd (pre++(nm++post)) pre.length=pre.length+nm.length:=by
 unfold nameEnd
 rw [List.drop_left]
 congr 1
 have e:(nm++post).takeWhile (fun c=>!isSign c)=nm:=by
  rw [List.takeWhile_append_of_pos (by intro c hc;simp [h c hc])]
  rcases hp with rfl|⟨c,r,rfl,hc⟩
  · simp
  · simp [List.takeWhile_cons,hc]
 rw [e]
theorem IJ:∀(t:Tree) (n:Nat) (pre post:List Nat),t.dp≤n→(∀x∈t.lv,∀c∈x.cps.toList,isSign c=false)→(∀x∈t.kn,∀c∈x.cps.toList,isSign c=false)→
 (post=[]∨∃c r,post=c::r∧(c=32∨c=41))→tf (pre++(dI t++post)) n pre.length=some (t,pre.length+(dI t).length):=by
 intro t
 have nm:∀(pre x post:List Nat),((pre++(x++post)).drop pre.length).take (pre.length+x.length - pre.length)=x:=fun pre x post=>by
  rw [List.drop_left,show pre.length+x.length - pre.length=x.length by omega,List.take_left]
 have st:∀(x:Str),(⟨x.cps.toList.toArray⟩:Str)=x:=fun x=>kX (by simp)
 induction t with
 | leaf x=>
  intro n pre post hd hl hk hp
  obtain⟨n,rfl⟩:∃m,n=m+1:=⟨n - 1,by simp [M.Tr.dp] at hd;omega⟩
  have e:nameEnd (pre++(x.cps.toList++post)) pre.length=pre.length+x.cps.toList.length:=by
   refine sv (hl x (by simp [M.Tr.lv])) ?_
   rcases hp with h|⟨c,r,h,hc⟩
   · exact .inl h
   · exact .inr ⟨c,r,h,by rcases hc with rfl|rfl<;>rfl⟩
  have g:(pre++(x.cps.toList++post))[pre.length+x.cps.toList.length]? = post[0]?:=by
   rw [List.getElem?_append_right (by omega),List.getElem?_append_right (by omega)];congr 1;omega
  have ne:¬(pre++(x.cps.toList++post))[pre.length+x.cps.toList.length]? = some 40:=by
   rw [g]
   rcases hp with rfl|⟨c,r,rfl,hc⟩
   · simp
   · rcases hc with rfl|rfl<;>simp
  show tf (pre++(x.cps.toList++post)) (n+1) pre.length=some (.leaf x,pre.length+x.cps.toList.length)
  rw [tf,e,if_neg ne,nm,st]
 | knot f l r ihl ihr=>
  intro n pre post hd hl hk hp
  obtain⟨n,rfl⟩:∃m,n=m+1:=⟨n - 1,by simp [M.Tr.dp] at hd;omega⟩
  simp only [M.Tr.dp] at hd
  simp only [M.Tr.lv,List.mem_append] at hl
  simp only [M.Tr.kn,List.mem_cons,List.mem_append] at hk
  have c1:pre++(dI (.knot f l r)++post)=pre++(f.cps.toList++(40::(dI l++(32::(dI r++(41::post)))))):=by simp [dI]
  have c2:pre++(dI (.knot f l r)++post)=(pre++f.cps.toList++[40])++(dI l++(32::(dI r++(41::post)))):=by simp [dI]
  have c3:pre++(dI (.knot f l r)++post)=(pre++f.cps.toList++[40]++dI l++[32])++(dI r++(41::post)):=by simp [dI]
  have e:nameEnd (pre++(dI (.knot f l r)++post)) pre.length=pre.length+f.cps.toList.length:=by
   rw [c1]
   exact sv (hk f (.inl rfl)) (.inr ⟨40,_,rfl,rfl⟩)
  have g1:(pre++(dI (.knot f l r)++post))[pre.length+f.cps.toList.length]? = some 40:=by
   rw [c1,List.getElem?_append_right (by omega),List.getElem?_append_right (by omega)]
   simp
  have t1:=ihl n (pre++f.cps.toList++[40]) (32::(dI r++(41::post))) (by omega) (fun x h=>hl x (.inl h)) (fun x h=>hk x (.inr (.inl h))) (.inr ⟨32,_,rfl,.inl rfl⟩)
  have t2:=ihr n (pre++f.cps.toList++[40]++dI l++[32]) (41::post) (by omega) (fun x h=>hl x (.inr h)) (fun x h=>hk x (.inr (.inr h))) (.inr ⟨41,_,rfl,.inr rfl⟩)
  rw [←c2] at t1
  rw [←c3] at t2
  have l1:(pre++f.cps.toList++[40]).length=pre.length+f.cps.toList.length+1:=by simp;omega
  have l2:(pre++f.cps.toList++[40]++dI l++[32]).length=pre.length+f.cps.toList.length+1+(dI l).length+1:=by simp;omega
  rw [l1] at t1
  rw [l2] at t2
  have g2:(pre++(dI (.knot f l r)++post))[pre.length+f.cps.toList.length+1+(dI l).length]? = some 32:=by
   rw [c2,List.getElem?_append_right (by simp;omega),List.getElem?_append_right (by simp;omega)]
   simp
   rw [show pre.length+f.cps.size+1+(dI l).length - (pre.length+(f.cps.size+1)) - (dI l).length=0 by omega]
   rfl
  have g3:(pre++(dI (.knot f l r)++post))[pre.length+f.cps.toList.length+1+(dI l).length+1+(dI r).length]? = some 41:=by
   rw [c3,List.getElem?_append_right (by simp;omega),List.getElem?_append_right (by simp;omega)]
   simp
   rw [show pre.length+f.cps.size+1+(dI l).length+1+(dI r).length - (pre.length+(f.cps.size+((dI l).length+1+1))) - (dI r).length=0 by omega]
   rfl
  have nmk:((pre++(dI (.knot f l r)++post)).drop pre.length).take (pre.length+f.cps.toList.length - pre.length)=f.cps.toList:=by rw [c1];exact nm _ _ _
  have ln:(dI (.knot f l r)).length=f.cps.toList.length+1+(dI l).length+1+(dI r).length+1:=by simp [dI];omega
  rw [tf,e,if_pos g1,t1]
  dsimp only
  rw [if_pos g2,t2]
  dsimp only
  rw [if_pos g3,nmk,st,ln]
  congr 2
  omega
theorem Hl:∀t:Tree,(∀x∈t.lv,x.cps.toList.length≤8)→(∀x∈t.kn,x.cps.toList.length≤8)→(dI t).length+11≤19*t.lv.length:=by
 intro t
 induction t with
 | leaf x=>intro hl _;have:=hl x (by simp [M.Tr.lv]);simp only [dI,M.Tr.lv,List.length_singleton];omega
 | knot f l r ihl ihr=>
  intro hl hk
  simp only [M.Tr.lv,List.mem_append] at hl
  simp only [M.Tr.kn,List.mem_cons,List.mem_append] at hk
  have h1:=ihl (fun x h=>hl x (.inl h)) (fun x h=>hk x (.inr (.inl h)))
  have h2:=ihr (fun x h=>hl x (.inr h)) (fun x h=>hk x (.inr (.inr h)))
  have h3:=hk f (.inl rfl)
  simp only [dI,M.Tr.lv,List.length_append,List.length_cons,List.length_nil]
  omega
theorem gD {x:Str} (h:bb x=true):x.cps.toList.length≤8:=by
 unfold bb isName at h
 simp only [Bool.and_eq_true,decide_eq_true_eq] at h
 exact h.2.1
theorem qb {x:Str} (h:bb x=true):∀c∈x.cps.toList,isSign c=false:=fun c hc=>by
 unfold bb isName at h
 simp only [Bool.and_eq_true,List.all_eq_true,decide_eq_true_eq] at h
 have:=h.2.2 c hc
 unfold isSign
 simp only [Bool.or_eq_false_iff,beq_eq_false_iff_ne]
 omega
section
variable {X : Cx}
noncomputable def JN (te:TE):TE:=fun σ H Q=>te σ H fun v H1=>∃y,v = .str y∧y.length≤sizeLine∧Q (.str y) H1
theorem By {e:Expr}{te:TE}{pos:Pos} (h:PE X e te):PE X (.FormattedValue e (-1) none pos) (JN te):=by
 intro pins s σ H Q I hw
 refine wpAny_FormattedValue_plain (bD (h pins s σ H _ I hw) fun v s1 ⟨x,H1,I1,r1,q1⟩=>?_)
 obtain⟨y,rfl,hy,q⟩:=q1
 obtain⟨t,rfl⟩:=r1
 exact wpAny_formatField_str ⟨.str y,H1,I1,⟨_,rfl⟩,q⟩ ⟨.str y,H1,I1.tok _,⟨_,rfl⟩,q⟩ hy
theorem HQ {te:TE}{σ:St}{H:Hp}{Q:VK}:JN te σ H Q=(te σ H fun v H1=>∃y,v = .str y∧y.length≤sizeLine∧Q (.str y) H1):=rfl
theorem Hk {body:List Stmt}{h₀:ExceptHandler}{hs:List ExceptHandler}{pos:Pos}{tb:TS} (hb:nz X.Jt body tb):PS X (.Try body (h₀::hs) [] [] pos) tb:=by
 intro pins s σ H D I h
 refine wpAny_Try_except (wpAny_mono (hb pins s σ H D (I.g0 _) h) (fun f s1 q=>?_) fun _ _ z=>False.elim z)
 have q:=q.cO
 cases f with
 | next=>exact wpAny_execs_nil q
 | _=>exact q
end
theorem OO {f:Int→Int→Int}{x y:V}{H:Hp}{Q:VK}:ipI f x y H Q=(∃i j,x = .int i∧y = .int j∧Q (.int (f i j)) H):=rfl
theorem IS (c:Nat):(!(Builtin.Str.occurrences (Str.ofString "( )") ⟨#[c]⟩ 0 (Str.ofString "( )").length 1).isEmpty)=isSign c:=by
 rw [PySem.StrLaws.found_one,show (Str.ofString "( )").cps.toList=[40,32,41] by decide +kernel,Bool.eq_iff_iff]
 unfold isSign
 simp
 omega
theorem uF (x:Str) {e c:Nat} (he:e≤x.length):decide (Txt.slice x (some (e:Int)) (some ((e:Int)+1))=(⟨#[c]⟩:Str))=decide (x.cps.toList[e]? = some c):=by
 rw [←Gr x he];simp only [V.str.injEq]
theorem aby:Str.ofString "("=(⟨#[40]⟩:Str):=by decide +kernel
theorem Wz:Str.ofString " "=(⟨#[32]⟩:Str):=by decide +kernel
theorem VJ:Str.ofString ")"=(⟨#[41]⟩:Str):=by decide +kernel
theorem FI (x:Str) {a b:Nat} (GO:a≤b) (hb:b≤x.length):Txt.slice x (some (a:Int)) (some (b:Int))=⟨((x.cps.toList.drop a).take (b - a)).toArray⟩:=kX (by rw [oE x GO hb])
end L2
namespace L2
open PySem PySem.Spec PyProof.Rows
open PySem.W (hideAll hideAll_get hideAll_none of_hideAll funFrames_hide fresh_of_stays)
theorem pE {P:Program}{w:World}{H:Hp}{h:Heap}{a:Addr}:∀{o:HO},bS P w H h a o→∃ob,h.get? a=some ob
 | .lst _,x=>by obtain⟨_,_,_,_,e⟩:=x;exact⟨_,e⟩
 | .tup _,x=>by obtain⟨_,_,_,o,e,_⟩:=x;exact⟨_,e⟩
 | .dK _,x=>by obtain⟨_,_,_,_,o,_,_,e,_⟩:=x;exact⟨_,e⟩
 | .dT _,x=>by obtain⟨_,_,_,_,o,_,_,e,_⟩:=x;exact⟨_,e⟩
 | .set _ _,x=>by obtain⟨o,_,_,_,e,_⟩:=x;exact⟨_,e⟩
 | .ins _ _ _,x=>by obtain⟨_,_,_,e,_⟩:=x;exact⟨_,e⟩
 | .own _,x=>x
 | .xd _,x=>by obtain⟨_,⟨o,_,_,e,_⟩,_⟩:=x;exact⟨_,e⟩
 | .met _ _,x=>⟨_,x⟩
 | .rng _ _,x=>by obtain⟨_,_,_,e⟩:=x;exact⟨_,e⟩
 | .frz _ _,x=>⟨_,x.1⟩
 | .tbl _,x=>⟨_,x⟩
 | .ext _,x=>x.2.1
noncomputable def xX (l:List Env) (e C T:Addr) (h:Heap):Prop:=∃a0,Heap.FlyingW (hideAll h (e::T::cR l)) l e (.ref C) a0 h
noncomputable def CXE (P:Program) (w:World):CXT:=fun outer H s E x s'=>∃(e C T:Addr) (H':Hp),x = .ref e∧xX outer e C T s'.heap∧(H' e=none∧H' T=none∧s.heap.get? e=none∧s.heap.get? T=none)∧
 s'.os=s.os∧AllBare s'.gens∧Un (cR outer) [] H H' s.heap s'.heap∧fN P w H' s'.heap∧E (.ref C) none H'
theorem AB {l:List Env}{env:Env}{a:Addr} (h:env∈l) (e:env.frame=some a):a∈cR l:=List.mem_filterMap.mpr ⟨env,h,e⟩
theorem xX.mk {B h:Heap}{l:List Env}{e C:Addr}{a0:Value} (f:Heap.FlyingW B l e (.ref C) a0 h):∃T,B.get? T=none∧xX l e C T h∧∃oT ts,h.get? T=some oT∧oT.data = .fields ts:=by
 obtain⟨f1,f2,f3,oe,vs,T,oT,ts,a1,a2,a3,a4,a5,a6,a7,a8,a9⟩:=f
 exact⟨T,a5,⟨a0,fun b o q=>of_hideAll _ q,hideAll_none _ (by simp),funFrames_hide f3 (fun env he a ha=>by simp [AB he ha]),oe,vs,T,oT,ts,a1,a2,a3,a4,hideAll_none _ (by simp),a6,a7,a8,a9⟩,oT,ts,a7,a8⟩
structure Left (l:List Env) (hid:List Addr) (h h':Heap):Prop where
 keep:∀b o,h.get? b=some o→b∉hid→b∉cR l→h'.get? b=some o
 slot:∀b o,h.get? b=some o→b∈cR l→∃sl,h'.get? b=some {o with slots:=sl}
section
variable {X : Cx} {pins : List (Addr × Obj)} {σ : St} {H : Hp} {s : Shared}
theorem Inv.iQ (I:Inv X pins σ H s) {b:Addr} (hb:b∈cR X.stack):∃o,s.heap.get? b=some o∧∀vs,o.data ≠ .fields vs:=by
 obtain⟨_,o,ho,hn⟩:=I.stack.mem hb
 exact⟨o,ho,hn⟩
structure Lv (X:Cx) (E:XK):Prop where
 qT:X.stack=X.env::X.outer
 fr:X.env.frame=some X.env.locals
 ex:X.ex=[]
 xe:∀x s',wpAny (model X.prog X.w) X.A (leaving X.env x) (fun _ xk=>CXE X.prog X.w X.outer X.H₀ X.s₀ E x xk) (fun _ _=>False) s'→X.xe x s'
theorem BJ (L:Lv X E) {H':Hp}{h1 h':Heap}{s1:Shared}{e C T0:Addr}{a0:Value} (I:Inv X pins σ H s) (un:Un (cR X.stack) [] H H' s.heap h1) (aO:fN X.prog X.w H' h1)
 (ne:H' e=none) (nT:H' T0=none) (ge:s.heap.get? e=none) (gT:s.heap.get? T0=none) (fl:Heap.FlyingW (hideAll h1 (e::T0::cR X.stack)) X.outer e (.ref C) a0 h')
 (sm:h1.UpToSlots h') (os:s1.os=s.os) (bare:AllBare s1.gens) (q:E (.ref C) none H'):CXE X.prog X.w X.outer X.H₀ X.s₀ E (.ref e) {s1 with heap:=h'}:=by
 have ex:=L.ex
 have xM:=L.qT
 have fs:cR X.stack=X.env.locals::X.fs:=by rw [xM];show List.filterMap _ _=_;rw [List.filterMap_cons_some L.fr];rfl
 have gP:∀b o,h1.get? b=some o→b≠e→b≠T0→b∉cR X.stack→h'.get? b=some o:=fun b o q n1 n2 n3=>fl.1 b o (hideAll_get _ q (by simp [n1,n2,n3]))
 have G3:∀b∈cR X.stack,∃o,h1.get? b=some o∧∀vs,o.data ≠ .fields vs:=fun b hb=>by
  obtain⟨o,ho,hn⟩:=I.iQ hb
  obtain⟨sl,e1⟩:=un.any ho (I.ia b hb) (by simp)
  exact⟨_,e1,hn⟩
 have Qu:∀b∈cR X.stack,H' b=none:=fun b hb=>by
  obtain⟨o,ho,hn⟩:=I.iQ hb
  exact un.free b o ho (I.ia b hb) (by simp)
 obtain⟨T,hB,F,oT,ts,hT,dT⟩:=xX.mk fl
 have old:∀b o,X.s₀.heap.get? b=some o→∃o',s.heap.get? b=some o':=fun b o q=>I.base.there b o q (by rw [ex];simp)
 have yu:∀o,h1.get? T=some o→T=e∨T=T0∨T∈cR X.stack:=fun o ho=>by
  by_cases Qn:T=e
  · exact .inl Qn
  by_cases Pd:T=T0
  · exact .inr (.inl Pd)
  by_cases PN:T∈cR X.stack
  · exact .inr (.inr PN)
  · rw [hideAll_get _ ho (by simp [Qn,Pd,PN])] at hB;cases hB
 have D9:¬T∈cR X.stack:=fun hb=>by
  obtain⟨o,ho,hn⟩:=G3 T hb
  obtain⟨sl,e1⟩:=sm T o ho hn
  rw [hT] at e1
  cases e1
  exact hn _ dT
 refine⟨e,C,T,H',rfl,F,⟨ne,?_,?_,?_⟩,?_,bare,?_,?_,q⟩
 · cases hh:H' T with
   | none=>rfl
   | some o=>
    obtain⟨ob,G1⟩:=pE (aO T o hh)
    rcases yu ob G1 with z|z|z
    · rw [z,ne] at hh;cases hh
    · rw [z,nT] at hh;cases hh
    · exact absurd z D9
 · cases hh:X.s₀.heap.get? e with
   | none=>rfl
   | some o=>obtain⟨o',h2⟩:=old e o hh;rw [ge] at h2;cases h2
 · cases hh:X.s₀.heap.get? T with
   | none=>rfl
   | some o=>
    obtain⟨o',h2⟩:=old T o hh
    obtain⟨o2,h3⟩:=un.there T o' h2 (by simp)
    rcases yu o2 h3 with z|z|z
    · rw [z,ge] at h2;cases h2
    · rw [z,gT] at h2;cases h2
    · exact absurd z D9
 · exact os.trans I.os
 · have nl:∀b o,X.s₀.heap.get? b=some o→b≠X.env.locals:=fun b o q z=>by
    have h1:=Heap.lt_size q
    have h2:=I.ok.above
    exact absurd (Nat.lt_of_lt_of_le h1 h2) (by rw [z];exact Nat.lt_irrefl _)
   refine⟨fun b o q n hb _=>?_,fun b o q n hb _=>?_,fun b o q n _=>?_,fun b o q _=>?_,fun b xs q=>un.bU b xs (I.base.bU b xs q),fun b o u q=>un.fk b o u (I.base.fk b o u q),fun b ps q=>?_⟩
   · have k1:=I.base.keep b o q n hb (by rw [ex];simp)
     have n1:=I.base.free b o q n (by rw [ex];simp)
     have qX:b∉cR X.stack:=by rw [fs];simp [nl b o q];exact hb
     have k2:=un.keep b o k1 n1 qX (by simp)
     exact gP b o k2 (fun z=>by rw [z,ge] at k1;cases k1) (fun z=>by rw [z,gT] at k1;cases k1) qX
   · obtain⟨sl,k1⟩:=I.base.slot b o q n hb (by rw [ex];simp)
     have n1:=I.base.free b o q n (by rw [ex];simp)
     have qX:b∈cR X.stack:=by rw [fs];exact List.mem_cons_of_mem _ hb
     obtain⟨JK,k2⟩:=un.slot b _ k1 n1 qX (by simp)
     obtain⟨o',uZ,DH⟩:=G3 b qX
     rw [k2] at uZ
     cases uZ
     obtain⟨Mo,k3⟩:=sm b _ k2 DH
     exact⟨Mo,k3⟩
   · obtain⟨o',h2⟩:=old b o q
     exact un.free b o' h2 (I.base.free b o q n (by rw [ex];simp)) (by simp)
   · obtain⟨o',h2⟩:=old b o q
     obtain⟨o2,h3⟩:=un.there b o' h2 (by simp)
     by_cases hb:b∈cR X.stack
     · obtain⟨o3,Pm,O1⟩:=G3 b hb
       obtain⟨sl,k⟩:=sm b o3 Pm O1
       exact⟨_,k⟩
     · exact⟨o2,gP b o2 h3 (fun z=>by rw [z,ge] at h2;cases h2) (fun z=>by rw [z,gT] at h2;cases h2) hb⟩
   · obtain⟨m1,e1⟩:=I.base.gH b ps q
     obtain⟨m2,e2⟩:=un.gH b _ e1
     exact⟨m1++m2,by rw [e2,Array.append_assoc]⟩
 · intro a o ho
   refine (aO a o ho).gP (fun b u hb q=>?_) (fun _ z=>z) fun _ _ z=>z
   have qX:H' b≠none:=by
    rcases hb with z|z
    · rw [z,ho];simp
    · rw [z];simp
   exact gP b u q (fun z=>qX (by rw [z];exact ne)) (fun z=>qX (by rw [z];exact nT)) fun z=>qX (Qu b z)
theorem qi (L:Lv X E):Passes (CXE X.prog X.w) X E:=by
 intro pins σ H s x s' I h
 obtain⟨e,C,T,H',rfl,⟨a0,fl⟩,⟨n1,n2,g1,g2⟩,os,bare,un,aO,q⟩:=h
 refine L.xe _ _ ?_
 have JJ:=fl
 rw [L.qT] at JJ
 refine wpAny_leaves_onW (by rw [I.ok.frames,L.qT]) L.fr JJ fun h' fl2 sm=>?_
 rw [←L.qT] at fl2
 exact BJ L I un aO n1 n2 g1 g2 fl2 sm os bare q
end
end L2
namespace L2
open PySem PySem.Spec PyProof.Rows
open PySem.W (hideAll hideAll_get hideAll_none of_hideAll funFrames_hide fresh_of_stays flyingW_base)
abbrev Km:List Value:=[.type "ValueError",.type "Exception",.type "BaseException",.type "object"]
noncomputable def gJ (K:PySem.W.Frag) (C:Addr):Prop:=PySem.W.excIn K C Km "ValueError.__new__"=true
noncomputable def ni (K:PySem.W.Frag) (C F:Addr):Bool:=match K.lookup C with
 | some ⟨_,_,.cls cd,_⟩=>cd.mro.contains (.ref F)
 | _=>false
theorem gJ.obj {K:PySem.W.Frag}{h:Heap}{C:Addr} (q:gJ K C) (X:K.In h):∃bm N nm q bs hdct sn sub ab col dd k0 k1 k2 k3 k5 mN,h.get? C=some (excClassObj nm q C N bs bm hdct sn sub ab col dd k0 k1 k2 k3 k5 "ValueError.__new__")∧h.Ns N mN∧mN "__init__"=none∧OwnTail h Km bm∧
 ∀F,ni K C F=(Value.ref C::bm).contains (.ref F):=by
 have q:PySem.W.excIn K C Km "ValueError.__new__"=true:=q
 unfold PySem.W.excIn at q
 split at q
 · rename_i dd cd sl lk
   split at q
   · rename_i C' bm k0 k1 k2 k3 nid k5 em es
     simp only [beq_iff_eq,Bool.and_eq_true,Bool.not_eq_true'] at q
     obtain⟨⟨⟨⟨⟨q1,q2⟩,q3⟩,q4⟩,q5⟩,q6⟩:=q
     cases q1
     cases q2
     cases cd with
     | mk nm bs mro ns qn hd sn sub ab col del=>
      simp only at em q3 q5 q6
      cases em
      cases q3
      have hs:sl = #[k0,k1,k2,k3,some (.builtin "ValueError.__new__"),k5]:=by
       cases sl with
       | mk l=>simp only at es;rw [es]
      cases hs
      exact⟨bm,ns,nm,qn,bs,hd,sn,sub,ab,col,dd,k0,k1,k2,k3,k5,_,X _ _ lk,Heap.Ns.of_isNs (PySem.W.isNs_of_in X q5),PySem.W.nsMap_none_of_in X q5 q6,PySem.W.tail_of_in X q4,fun F=>by unfold ni;rw [lk]⟩
   · cases q
 · cases q
theorem gJ.own {K:PySem.W.Frag}{h:Heap}{mg:Str→Option Value}{x:Str}{C:Addr} (q:gJ K C) (X:K.In h) (e:mg x=some (.ref C)):OwnCls x C Km "ValueError.__new__" mg h:=by
 obtain⟨bm,N,nm,qn,bs,hdct,sn,sub,ab,col,dd,k0,k1,k2,k3,k5,mN,hC,hN,Qs,TL,_⟩:=q.obj X
 exact⟨e,bm,N,nm,qn,bs,hdct,sn,sub,ab,col,dd,k0,k1,k2,k3,k5,mN,hC,hN,Qs,TL⟩
section
variable {X : Cx} {E : XK}
theorem gone {P:Program}{w:World}{H:Hp}{h:Heap}{a:Addr} (aO:fN P w H h) (e:h.get? a=none):H a=none:=by
 cases q:H a with
 | none=>rfl
 | some o=>obtain⟨ob,hb⟩:=pE (aO a o q);rw [e] at hb;cases hb
theorem uq {h:Heap}{xs ys:List Addr} (s:∀a∈ys,a∈xs):(hideAll h xs).StaysIn (hideAll h ys):=fun b o q=>by
 have hb:b∉xs:=fun z=>by rw [hideAll_none _ z] at q;cases q
 exact hideAll_get _ (of_hideAll _ q) fun z=>hb (s b z)
noncomputable def DZ (C:Addr) (E:XK) (ta:TA):TS:=fun _ σ H=>ta σ H fun vs H1=>vs.length≤sizeLine∧E (.ref C) none H1
theorem FV {C:Addr}{E:XK}{ta:TA}{D:Ends}{σ:St}{H:Hp}:DZ C E ta D σ H=(ta σ H fun vs H1=>vs.length≤sizeLine∧E (.ref C) none H1):=rfl
theorem iO {x:Str}{C:Addr}{e0:Expr}{es:List Expr}{ta:TA}{np eY pos:Pos} (L:Lv X E) (hg:Gl X x) (hm:X.mg x=some (.ref C)) (q:gJ X.K C) (hc:X.calm=true) (ha:PA X (e0::es) ta)
 (El:(x==("__debug__":Str))=false:=by decide) (he:starEach (e0::es) X.env=(false,eval e0 X.env)::starEach es X.env:=by rfl) (wK:(backTo eY (starEach es X.env)).any (·.1)=false:=by rfl) :
 PS X (.Raise (some (.Call (.Name x np) (e0::es) [] eY)) none pos) (DZ C E ta):=by
 intro pins s σ H D I h
 have O:=q.own I.ok.mod.NP hm
 obtain⟨bm,N,nm,qn,bs,hdct,sn,sub,ab,col,dd,k0,k1,k2,k3,k5,mN,hC,hN,Qs,TL⟩:=O.obj
 refine wpAny_Raise_call_subT (C:=C) (nm:=nm) (q:=qn) (N:=N) (bs:=bs) (bm:=bm) (hdct:=hdct) (sn:=sn) (sub:=sub) (ab:=ab) (col:=col) (dd:=dd) (k0:=k0) (k1:=k1) (k2:=k2) (k3:=k3) (k5:=k5)
  PySem.F.excBase_ValueError (mN:=mN) (TL.hasType PySem.F.excBase_ValueError.hasBase) (I.ok.hd hc) (by rw [he];show (false||(backTo eY (starEach es X.env)).any (·.1))=false;rw [wK];rfl) Qs (je I hg hm ⟨rfl,?_⟩ El)
 have z:=ha eY pins s σ H _ I h
 rw [he] at z ⊢
 refine Calls.evalArgs_plain (wpAny_mono z (fun us s2 ⟨vs,H2,I2,r,hl,qE⟩=>⟨rfl,by rw [←r.length];exact hl,I2.bk _ _ hC,hN.keeps I2.bk,TL.keeps I2.bk,fun h' e hx=>?_⟩) fun _ _ y=>y)
 refine L.xe _ _ ?_
 have hin:∀env∈X.env::X.outer,∀a,env.frame=some a→a∈cR X.stack:=fun env he a ha=>by rw [L.qT];exact AB he ha
 have fun2:s2.heap.FunFrames (hideAll s2.heap (cR X.stack)) (X.env::X.outer):=funFrames_hide (L.qT▸I2.stack) hin
 refine wpAny_leaves_madeW (base:=hideAll s2.heap (cR X.stack)) (h:=s2.heap) (by rw [I2.ok.frames,L.qT]) L.fr (fun b o q=>of_hideAll _ q) fun2 hx fun h2 t fl _ _ sm=>?_
 have ne:=gone I2.aO hx.new
 exact BJ (s1:=s2) L I2 Un.refl I2.aO ne ne hx.new hx.new (flyingW_base (uq (by intro a ha;simp [ha])) fl) ((Heap.UpToSlots.of_keeps hx.keeps).trans sm) rfl I2.bare qE
end
section
variable {P : Program} {w : World} {K : PySem.W.Frag} {mg : Str→Option Value} {base : Heap}
theorem d8.G2 {x qual:Str}{st:Stmt}{f:Addr}{fd:FuncData}{N ps:List Str}{k:Nat}{sp:Sp} (F:d8 K x qual st f fd) (S:aD N ps (ah st)) (len:∀vs H Q E,sp vs H Q E→vs.length=ps.length)
 (yo:∀(bt:Value) (A:Around) (outer:List Env) (s:Shared) (H:Hp) (vs:List V) (Q:VK) (E:XK),fo k (A.deeper (envOfC qual (ah st) s.heap.objs.size f bt))→sp vs H Q E→
   Lv (vR (CXE P w) P w K mg base N qual (ah st) f bt A outer s H E) E→
   ∃t,nz (vR (CXE P w) P w K mg base N qual (ah st) f bt A outer s H E) (au st) t∧t {nx:=fun _ H'=>Q .non H',rt:=Q} (start N vs) H):bg P w K mg base (CXE P w) (k+1) f fd ps sp:=by
 obtain⟨oc,od,kV,doc,pm,an,bt,ct,Il,rfl,lk,De⟩:=F.ex
 refine KQ lk De S len fun A outer s H vs Q E hr lK=>yo bt A outer s H vs Q E hr lK ⟨rfl,rfl,rfl,fun x s' h=>wpAny_mono h (fun _ _ z=>z) fun _ _ z=>z.elim⟩
end
end L2
namespace L2
open PySem PySem.Spec PyProof.Rows
open PySem.W (hideAll hideAll_get hideAll_none of_hideAll funFrames_hide fresh_of_stays flyingW_base)
noncomputable def DP (J:St→Prop) (sp:Sp) (ua:List V) (E:XK) (t:TA):TE:=fun σ H Q=>t σ H fun vs H1=>J σ∧sp (vs++ua) H1 Q E
theorem Eo {J:St→Prop}{sp:Sp}{ua:List V}{E:XK}{t:TA}{σ:St}{H:Hp}{Q:VK}:DP J sp ua E t σ H Q=(t σ H fun vs H1=>J σ∧sp (vs++ua) H1 Q E):=rfl
section
variable {X : Cx} {CX : CXT} {k : Nat} {f : Addr} {fd : FuncData} {ps : List Str} {sp : Sp} {ua : List V} {ds : List Value} {E : XK} {x : Str} {p pos : Pos} {e : Expr} {es : List Expr} {t : TA} {J : St→Prop}
noncomputable def JW (CX:CXT) (X:Cx) (J:St→Prop) (E:XK):Prop:=∀(pins:List (Addr×Obj)) (σ:St) (H:Hp) (s:Shared) (e:Value) (s':Shared),Inv X pins σ H s→J σ→CX X.stack H s E e s'→X.xe e s'
theorem GQ (F:bg X.prog X.w X.K X.mg X.base CX k f fd ps sp) (hr:fo k X.A) (hg:Gl X x) (hm:X.mg x=some (.ref f)) (hk:PySem.W.keepIn X.K (.ref f)=true) (hb:Binds X.K fd ps ds) (hd:Vals ua ds) (hx:JW CX X J E)
 (ha:PA X (e::es) t) (El:(x==("__debug__":Str))=false:=by decide) (he:starEach (e::es) X.env=(false,eval e X.env)::starEach es X.env:=by rfl) (wK:(backTo pos (starEach es X.env)).any (·.1)=false:=by rfl) :
 PE X (.Call (.Name x p) (e::es) [] pos) (DP J sp ua E t):=by
 intro pins s σ H Q I h
 refine wpAny_Call_Name_kw (je I hg hm ?_ El)
 refine PySem.W.callWith_K (h₀:=X.base) I.ok.mod.NP hk (bD (ha pos pins s σ H _ I h) fun us s1 ⟨vs,H1,I1,r,hj,q⟩=>⟨I1.rq,?_⟩) he wK
 have r2:Vals (vs++ua) (us++ds):=r.append hd
 have hl:(us++ds).length=ps.length:=by rw [←r2.length];exact F.len _ _ _ _ q
 refine wpAny_call (codeAny_mono (F.run X.A X.stack s1 H1 ⟨us,[]⟩ (us++ds) (vs++ua) Q E hr I1.OJ (hb s1 us I1.rq hl) r2 q) fun r s' hq=>?_)
 cases r with
 | error e=>exact hx pins σ H1 s1 e s' I1 hj hq
 | ok fl=>
  cases fl with
  | ret u=>exact I1.after hq
  | next=>exact False.elim hq
  | brk=>exact False.elim hq
  | cont=>exact False.elim hq
end
section
variable {X : Cx} {pins pn : List (Addr × Obj)} {σ : St} {H : Hp} {s : Shared} {E : XK}
noncomputable abbrev Cx.pinned (X:Cx) (pn:List (Addr×Obj)):Cx:={X with pn:=X.pn++pn}
theorem Cx.Ok.pinned (ok:X.Ok) (pn:List (Addr×Obj)):(X.pinned pn).Ok:=
 ⟨ok.mod,ok.kind,ok.glob,ok.blt,ok.above,ok.inj,ok.has,ok.G4,ok.hd,ok.frames,ok.qT,ok.oA,ok.bs,ok.Ah,ok.sy,ok.km,ok.jN,ok.Dz⟩
theorem Cx.Ok.jO (ok:(X.pinned pn).Ok):X.Ok:=
 ⟨ok.mod,ok.kind,ok.glob,ok.blt,ok.above,ok.inj,ok.has,ok.G4,ok.hd,ok.frames,ok.qT,ok.oA,ok.bs,ok.Ah,ok.sy,ok.km,ok.jN,ok.Dz⟩
theorem Inv.Ym (I:Inv X pins σ H s):Inv (X.pinned pins) [] σ H s:=⟨I.ok.pinned _,I.os,I.bare,I.base,I.loc,I.cell,I.free,I.eV,fun p hp=>I.pin p (by simpa using hp),I.aO,I.len⟩
theorem Inv.C6 (I:Inv (X.pinned pn) pins σ H s):Inv X pn σ H s:=⟨I.ok.jO,I.os,I.bare,I.base,I.loc,I.cell,I.free,I.eV,fun p hp=>I.pin p (List.mem_append_left _ hp),I.aO,I.len⟩
noncomputable abbrev Cx.Lw (X:Cx) (pn:List (Addr×Obj)) (J:St→Prop) (E:XK):Cx:=
 (X.pinned pn).g0 fun x s'=>∃pins σ H s,Inv (X.pinned pn) pins σ H s∧J σ∧CXE X.prog X.w X.stack H s E x s'
theorem Qj {J:St→Prop}:JW (CXE X.prog X.w) (X.Lw pn J E) J E:=fun pins σ H s _ _ I j h=>⟨pins,σ,H,s,I.cO,j,h⟩
theorem SP.O4 {J:St→Prop}{D:Ends}{f:Flow}{s':Shared} (h:SP (X.Lw pn J E) pins D f s'):SP X pn D f s':=by
 cases f with
 | next=>obtain⟨σ',H',I,q⟩:=h;exact⟨σ',H',I.cO.C6,q⟩
 | brk=>obtain⟨σ',H',I,q⟩:=h;exact⟨σ',H',I.cO.C6,q⟩
 | cont=>obtain⟨σ',H',I,q⟩:=h;exact⟨σ',H',I.cO.C6,q⟩
 | ret u=>obtain⟨v,σ',H',I,r,q⟩:=h;exact⟨v,σ',H',I.cO.C6,r,q⟩
noncomputable abbrev Cx.xj (X:Cx) (e:Addr):Cx:={X with A:=X.A.mark (some (.ref e)),calm:=false,xe:=fun _ _=>False}
theorem Cx.Ok.xj (ok:X.Ok) (e:Addr):(X.xj e).Ok:=
 ⟨ok.mod,ok.kind,ok.glob,ok.blt,ok.above,ok.inj,ok.has,ok.G4,fun z=>(Bool.false_ne_true z).elim,ok.frames,ok.qT,ok.oA,ok.bs,ok.Ah,ok.sy,ok.km,ok.jN,ok.Dz⟩
theorem Inv.xj (I:Inv X pins σ H s) (e:Addr):Inv (X.xj e) pins σ H s:=⟨I.ok.xj e,I.os,I.bare,I.base,I.loc,I.cell,I.free,I.eV,I.pin,I.aO,I.len⟩
theorem Inv.Bn {e:Addr} (ok:X.Ok) (I:Inv (X.xj e) pins σ H s):Inv X pins σ H s:=⟨ok,I.os,I.bare,I.base,I.loc,I.cell,I.free,I.eV,I.pin,I.aO,I.len⟩
theorem En {H':Hp}{h1 h':Heap}{e C T0:Addr}{a0:Value}{l:List Env} (I:Inv X pins σ H s) (un:Un (cR X.stack) [] H H' s.heap h1) (aO:fN X.prog X.w H' h1)
 (ne:H' e=none) (nT:H' T0=none) (ge:s.heap.get? e=none) (gT:s.heap.get? T0=none) (fl:Heap.FlyingW (hideAll h1 (e::T0::cR X.stack)) l e (.ref C) a0 h') (sm:h1.UpToSlots h') :
 Un (cR X.stack) [] H H' s.heap h'∧fN X.prog X.w H' h':=by
 have gP:∀b o,h1.get? b=some o→b≠e→b≠T0→b∉cR X.stack→h'.get? b=some o:=fun b o q n1 n2 n3=>fl.1 b o (hideAll_get _ q (by simp [n1,n2,n3]))
 have G3:∀b∈cR X.stack,∃o,h1.get? b=some o∧∀vs,o.data ≠ .fields vs:=fun b hb=>by
  obtain⟨o,ho,hn⟩:=I.iQ hb
  obtain⟨sl,e1⟩:=un.any ho (I.ia b hb) (by simp)
  exact⟨_,e1,hn⟩
 have Qu:∀b∈cR X.stack,H' b=none:=fun b hb=>by
  obtain⟨o,ho,hn⟩:=I.iQ hb
  exact un.free b o ho (I.ia b hb) (by simp)
 refine⟨⟨fun b o q n hb hx=>?_,fun b o q n hb hx=>?_,un.free,fun b o q hx=>?_,un.bU,un.fk,un.gH⟩,fun a o ho=>?_⟩
 · exact gP b o (un.keep b o q n hb hx) (fun z=>by rw [z,ge] at q;cases q) (fun z=>by rw [z,gT] at q;cases q) hb
 · obtain⟨sl,k2⟩:=un.slot b o q n hb hx
   obtain⟨o',uZ,DH⟩:=G3 b hb
   rw [k2] at uZ
   cases uZ
   obtain⟨Mo,k3⟩:=sm b _ k2 DH
   exact⟨Mo,k3⟩
 · obtain⟨o2,h3⟩:=un.there b o q hx
   by_cases hb:b∈cR X.stack
   · obtain⟨o3,Pm,O1⟩:=G3 b hb
     obtain⟨sl,k⟩:=sm b o3 Pm O1
     exact⟨_,k⟩
   · exact⟨o2,gP b o2 h3 (fun z=>by rw [z,ge] at q;cases q) (fun z=>by rw [z,gT] at q;cases q) hb⟩
 · refine (aO a o ho).gP (fun b u hb q=>?_) (fun _ z=>z) fun _ _ z=>z
   have qX:H' b≠none:=by
    rcases hb with z|z
    · rw [z,ho];simp
    · rw [z];simp
   exact gP b u q (fun z=>qX (by rw [z];exact ne)) (fun z=>qX (by rw [z];exact nT)) fun z=>qX (Qu b z)
noncomputable def zx (e C:Addr):HO:=.ext fun h=>∃ob,h.get? e=some ob∧ob.cls = .ref C
theorem Bc {H':Hp}{s1:Shared}{h1 h':Heap}{e C T0:Addr}{a0:Value}{l:List Env} (I:Inv X pins σ H s) (un:Un (cR X.stack) [] H H' s.heap h1) (aO:fN X.prog X.w H' h1)
 (ne:H' e=none) (nT:H' T0=none) (ge:s.heap.get? e=none) (gT:s.heap.get? T0=none) (fl:Heap.FlyingW (hideAll h1 (e::T0::cR X.stack)) l e (.ref C) a0 h') (sm:h1.UpToSlots h') (os:s1.os=s.os) (bare:AllBare s1.gens) :
 Inv X pins σ H' {s1 with heap:=h'}∧Inv X pins σ (upd H' e (zx e C)) {s1 with heap:=h'}:=by
 obtain⟨u,k⟩:=En I un aO ne nT ge gT fl sm
 obtain⟨ob,G1,Q2⟩:=fl.there
 have k2:fN X.prog X.w (upd H' e (zx e C)) h':=k.adopt ne ⟨⟨ob,G1,Q2⟩,⟨ob,G1⟩,fun h1 h2 ⟨o,h,c⟩ st=>⟨o,st o h,c⟩⟩
 have u2:Un (cR X.stack) [] H (upd H' e (zx e C)) s.heap h':=by
  refine⟨u.keep,u.slot,fun b o q n hx=>?_,u.there,fun b xs q=>?_,fun b o w q=>?_,fun b ps q=>?_⟩
  · rw [aL (fun z=>by rw [z,ge] at q;cases q)];exact u.free b o q n hx
  · have:=u.bU b xs q
    rw [aL (aF this ne)];exact this
  · have:=u.fk b o w q
    rw [aL (aF this ne)];exact this
  · obtain⟨more,this⟩:=u.gH b ps q
    exact⟨more,by rw [aL (aF this ne)];exact this⟩
 exact⟨I.qw (s':={s1 with heap:=h'}) os u k bare (by simp),I.qw (s':={s1 with heap:=h'}) os u2 k2 bare (by simp)⟩
end
theorem wx {M:Model}{A:Around}{E:Value→Shared→Prop}{s:Shared}{Q:Bool→Shared→Prop}{K:PySem.W.Frag}{e C F:Addr}{ob:Obj} (X:K.In s.heap) (qC:gJ K C) (qF:gJ K F) (he:s.heap.get? e=some ob) (hc:ob.cls = .ref C)
 (hq:Q (ni K C F) s):wpAny M A (excMatches (.ref e) (.ref F)) Q E s:=by
 obtain⟨bm,N,nm,qn,bs,hdct,sn,sub,ab,col,dd,k0,k1,k2,k3,k5,mN,hC,hN,Qs,TL,hS⟩:=qC.obj X
 obtain⟨bm',N',nm',qn',bs',acD,sn',afO,ab',aeI,Of,j0,j1,j2,j3,j5,mN',hF,_,_,TL',_⟩:=qF.obj X
 have hB:(Value.ref F::bm').contains (.type "BaseException")=true:=by rw [List.contains_cons,TL'.hasType PySem.F.excBase_ValueError.hasBase,Bool.or_true]
 have f:=tc_notTuple
 rw [hS] at hq
 obtain⟨h,g,d,t,os⟩:=s
 generalize hb:(Value.ref C::bm).contains (.ref F)=b at hq
 unfold excMatches
 repeat (first|(with_reducible refine wpAny_loadPart_at he ?_;rw [hc])|with_reducible refine wpAny_loadPart_at hF ?_|with_reducible refine wpAny_loadPart_at hC ?_|(with_reducible refine wpAny_isSubtype_exc hF ?_;rw [hB])|(with_reducible refine wpAny_isSubtype_exc hC ?_;rw [hb])|wp_step)
 cases b<;>(wp_walk;exact hq)
end L2
namespace L2
open PySem PySem.Spec PyProof.Rows
open PySem.W (hideAll hideAll_get hideAll_none of_hideAll funFrames_hide fresh_of_stays flyingW_base)
section
variable {X : Cx} {pins : List (Addr × Obj)} {σ : St} {H : Hp} {s : Shared}
theorem Inv.unbind {i:Nat}{n:Str}{u:Option Value}{h':Heap}{t':Nat}{m:Str→Option Value} (I:Inv X pins σ H s) (hN:X.N.Nodup) (hi:X.N[i]? = some n)
 (hl:∀(i:Nat) (x:Str) (v:V),X.N[i]? = some x→σ[i]? = some (some v)→Qw X.env.scope x→∃u,RelV v u∧Look X.env s.heap m x u)
 (hn:s.heap.Ns X.env.locals m) (DH:h'.Ns X.env.locals (fun x=>if x=n then u else m x)) (hs:Heap.SameBut X.env.locals s.heap h'):Inv X pins (σ.set i none) H {s with heap:=h',toks:=t'}:=by
 have Gz:=I.Gz
 obtain⟨oL,_,_,hoL,_⟩:=id hn
 have old:∀b o,X.s₀.heap.get? b=some o→b≠X.env.locals:=fun b o e=>Nat.ne_of_lt (Nat.lt_of_lt_of_le (Heap.lt_size e) I.ok.above)
 have Ra:i<σ.length:=by rw [I.len];exact(List.getElem?_eq_some_iff.mp hi).1
 refine⟨I.ok,I.os,I.bare,⟨fun b o e n hb hx=>(hs.2 b (old b o e)).trans (I.base.keep b o e n hb hx),fun b o e n hb hx=>?_,I.base.free,fun b o e hx=>?_,I.base.bU,I.base.fk,I.base.gH⟩,⟨_,DH,fun j y v' e1 e2 e3=>?_⟩,fun y c e=>?_,I.free,I.eV,fun p hp=>?_,fun b ob e=>?_,by simpa using I.len⟩
 · obtain⟨sl,e1⟩:=I.base.slot b o e n hb hx
   exact⟨sl,(hs.2 b (old b o e)).trans e1⟩
 · obtain⟨o',e1⟩:=I.base.there b o e hx
   exact⟨o',(hs.2 b (old b o e)).trans e1⟩
 · by_cases hj:j=i
   · subst hj
     rw [List.getElem?_set_self Ra] at e2
     cases e2
   · rw [List.getElem?_set_ne (Ne.symm hj)] at e2
     obtain⟨u',r',q⟩:=hl j y v' e1 e2 e3
     refine⟨u',r',?_⟩
     rcases q with ⟨k,e⟩|⟨k,c,e,z⟩
     · refine .inl ⟨k,?_⟩
       have:y≠n:=fun e=>hj (rj hN e1 (e▸hi))
       simp [this,e]
     · exact .inr ⟨k,c,e,z.sameBut hs (Gz y c e)⟩
 · obtain⟨w',z⟩:=I.cell y c e
   exact⟨w',z.sameBut hs (Gz y c e)⟩
 · obtain⟨e,n,ne,nf,d⟩:=I.pin p hp
   exact⟨(hs.2 p.1 ne).trans e,n,ne,nf,d⟩
 · refine (I.aO b ob e).gP (fun c w' hc q=>(hs.2 c ?_).trans q) (fun _ q=>q) fun _ _ q=>q
   rintro rfl
   rcases hc with rfl|hc
   · rw [I.free] at e;cases e
   · rw [I.free] at hc;cases hc
theorem name_goes {M:Model}{A:Around}{E:Value→Shared→Prop}{i:Nat}{n:Str}{pos:Pos}{Q:Unit→Shared→Prop} (I:Inv X pins σ H s) (hN:X.N.Nodup) (hi:X.N[i]? = some n) (hk:X.env.scope.names.lookup n=some .local)
 (h:∀s',Inv X pins (σ.set i none) H s'→Q () s'):wpAny M A (do bindName X.env n .none;unbindBehindTheSuite X.env n pos) Q E s:=by
 obtain⟨m,hn,hl⟩:=id I.loc
 have M9:(X.env.scope.kind == .class||(X.env.scope.kind == .module&&X.env.locals != X.env.globals))=false:=by rw [I.ok.kind];rfl
 exact wpAny_nameGoes_keeps hk hn M9 fun h' v DH hs=>h _ (I.unbind hN hi hl hn DH hs)
noncomputable def wV (i:Nat) (D:Ends):Ends:={nx:=fun σ H=>D.nx (σ.set i none) H,rt:=D.rt,bk:=fun σ H=>D.bk (σ.set i none) H,ct:=fun σ H=>D.ct (σ.set i none) H}
noncomputable def EhA (K:PySem.W.Frag) (CF:Addr) (i:Nat) (J:St→St→Prop) (ts:TS) (D:Ends) (σ0:St):XK:=fun Cv _ H'=>∃C,Cv = .ref C∧gJ K C∧ni K C CF=true∧∀σ' e,J σ0 σ'→H' e=none→ts (wV i D) (σ'.set i (some (.ref e))) (upd H' e (zx e C))
noncomputable def OY (tb:Ends→St→TS):TS:=fun D σ H=>tb D σ D σ H
theorem Lp {tb:Ends→St→TS}{D:Ends}{σ:St}{H:Hp}:OY tb D σ H=tb D σ D σ H:=rfl
theorem HI {body J3:List Stmt}{b0:Stmt}{F n:Str}{np Ec pos:Pos}{i:Nat}{CF:Addr}{J:St→St→Prop}{ts:TS}{tb:Ends→St→TS} (xM:X.stack=X.env::X.outer) (W7:X.env.frame=some X.env.locals)
 (hgF:Gl X F) (hmF:X.mg F=some (.ref CF)) (qF:gJ X.K CF) (hN:X.N.Nodup) (hi:X.N[i]? = some n) (hl:X.env.scope.names.lookup n=some .local)
 (hb:∀D σ0 pn,nz (X.Lw pn (J σ0) (EhA X.K CF i J ts D σ0)) body (tb D σ0)) (hs:∀e,nz (X.xj e) (b0::J3) ts) (El:(F==("__debug__":Str))=false:=by decide) :
 PS X (.Try body [.ExceptHandler (some (.Name F np)) (some n) (b0::J3) Ec] [] [] pos) (OY tb):=by
 intro pins s σ H D I h
 refine wpAny_Try_except (wpAny_mono (hb D σ pins [] s σ H D (I.Ym.g0 _) h) (fun f s1 q=>?_) fun x s1 q=>?_)
 · have q:=q.O4
   cases f with
   | next=>exact wpAny_execs_nil q
   | _=>exact q
 obtain⟨D8,σ',H1,s0,I1,hj,hx⟩:=q
 obtain⟨e,C,T,H',rfl,⟨a0,fl⟩,⟨n1,n2,g1,g2⟩,os,bare,un,aO,C',eC,qC,wO,hts⟩:=hx
 cases eC
 have JJ:=fl
 rw [xM] at JJ
 refine wpAny_looks_onW (by rw [I.ok.frames,xM]) W7 JJ fun h4 QY sm4=>?_
 refine wpAny_landsW QY fun h5 Xb sm5=>?_
 have Qa:=Xb
 rw [←xM] at Qa
 have I5:=(Bc I1.C6 un aO n1 n2 g1 g2 Qa (sm4.trans sm5) os bare).1
 obtain⟨ob,G1,Xc⟩:=Xb.there
 refine wpAny_handleBy_cons (codeAny_handlers_test (je (X:=X.xj e) (I5.xj e) hgF hmF ?_ El)) (by intro q;cases q)
 refine wx I5.rq qC qF G1 Xc ?_
 rw [wO]
 refine codeAny_handlers_suite_as ?_
 refine lands_againW Xb fun h6 fl6 TR=>?_
 have QQ:=fl6
 rw [←xM] at QQ
 have I6:=(Bc I1.C6 un aO n1 n2 g1 g2 QQ ((sm4.trans sm5).trans TR) os bare).2
 refine mU (X:=X.xj e) (I6.xj e) hN hi (.inl hl) (v:=.ref e) rfl (fun s7 I7=>?_) (.inr hl)
 refine wpAny_mono (hs e pins s7 _ _ (wV i D) I7 (hts σ' e hj n1)) (fun f s8 q8=>?_) fun _ _ z=>z.elim
 cases f with
 | next=>obtain⟨σ8,H8,I8,q8⟩:=q8;exact name_goes (I8.Bn I.ok) hN hi hl fun s9 I9=>⟨_,_,I9,q8⟩
 | brk=>obtain⟨σ8,H8,I8,q8⟩:=q8;exact name_goes (I8.Bn I.ok) hN hi hl fun s9 I9=>⟨_,_,I9,q8⟩
 | cont=>obtain⟨σ8,H8,I8,q8⟩:=q8;exact name_goes (I8.Bn I.ok) hN hi hl fun s9 I9=>⟨_,_,I9,q8⟩
 | ret u=>obtain⟨v,σ8,H8,I8,r8,q8⟩:=q8;exact name_goes (I8.Bn I.ok) hN hi hl fun s9 I9=>⟨v,_,_,I9,r8,q8⟩
end
end L2
namespace L2
open PySem PySem.Spec PyProof.Rows PySem.Builtin PySem.Builtin.ObjectAttr PySem.Builtin.Getset_descriptor
structure sG (K:PySem.W.Frag) (C:Addr):Prop where
 at_:gJ K C
 ga:PySem.W.findIn K (.ref C) "__getattribute__"=some (some (.builtin "BaseException.__getattribute__"))
 gx:PySem.W.findIn K (.ref C) "__getattr__"=some none
 cl:PySem.W.findIn K (.ref C) "__class__"=some (some (.builtin "object.__class__"))
 sp:PySem.W.specialIn K (.builtin "object.__class__") "__get__"=some (some (.builtin "getset_descriptor.__get__"))
 tk:PySem.W.takesIn K (.builtin "object.__class__")=some true
 mr:PySem.W.mroIn K C (.type "object")=some true
 cs:(PySem.W.clsIn K C).isSome=true
section
variable {prog : Program} {w : World} {A : Around} {E : Value→Shared→Prop} {s : Shared} {K : PySem.W.Frag} {e C : Addr} {ob : Obj}
theorem wb {M:Model}{KN:Value}{Q:Unit→Shared→Prop} (X:K.In s.heap) (q:gJ K C) (he:s.heap.get? e=some ob) (hc:ob.cls = .ref C) (hq:Q () s) :
 wpAny M A (checkBuiltinCall "BaseException.__getattribute__" ⟨[.ref e,KN],[]⟩) Q E s:=by
 obtain⟨bm,N,nm,qn,bs,hdct,sn,sub,ab,col,dd,k0,k1,k2,k3,k5,mN,hC,hN,Qs,TL,hS⟩:=q.obj X
 obtain⟨h,g,d,t,os⟩:=s
 have z1:builtinKind "BaseException.__getattribute__"=some .slot:=by decide +kernel
 have z2:splitId "BaseException.__getattribute__"=some ("BaseException","__getattribute__"):=by decide +kernel
 have z3:(Value.ref C::bm).contains (.type "BaseException")=true:=by rw [List.contains_cons,TL.hasType PySem.F.excBase_ValueError.hasBase,Bool.or_true]
 have z4:=PySem.F.args_bexc_ga (.ref e) KN
 simp only [checkBuiltinCall,z2,z1]
 refine wpAny_bind ?_
 · unfold isInstance
   repeat (first|(with_reducible refine wpAny_loadPart_at he ?_;rw [hc])|(with_reducible refine wpAny_isSubtype_exc hC ?_;rw [z3])|wp_step)
   exact hq
theorem HL {R:Result→Shared→Prop}{tp:Value} (X:K.In s.heap) (hm:PySem.W.mroIn K C (.type "object")=some true) (he:s.heap.get? e=some ob) (hc:ob.cls = .ref C)
 (h:R (.ok (.ret (.ref C))) s):codeAny (model prog w) A (.call (.builtin "getset_descriptor.__get__") ⟨[.builtin "object.__class__",.ref e,tp],[]⟩) R s:=by
 obtain⟨hh,g,dr,t,os⟩:=s
 have L0:PySem.W.Looks (model prog w) hh (typeOf (.ref e)) (.ref C):=hc▸(PySem.W.Looks.ld he).andThen .now
 have L1:=PySem.W.looks_mroIn (M:=model prog w) X hm
 refine codeAny_call_builtin PySem.W.KF.slot_gs.plain PySem.W.KF.entry_gs (PySem.W.KF.slot_gs.check _ _ _ _ _ _ _ _ PySem.W.KF.type_class (PySem.W.KF.args_gs _ _ _) ?_)
 unfold Builtin.«getset_descriptor.__get__»
 unfold descrGet
 rw [PySem.W.dga_obj]
 refine wpAny_bind (wpAny_pure ?_)
 unfold descrGetter
 unfold descrCheckInstance
 unfold descrNameAndClass
 unfold isInstance
 simp only [PySem.W.KF.owner_class]
 repeat lk
 refine⟨Code.quiet_builtin _ (by decide +kernel),codeAny_builtin PySem.W.KF.entry_class ?_⟩
 unfold Builtin.«object.__class__»
 unfold shownTypeOf
 repeat lk
 exact h
theorem Cz {Q:Option Value→Shared→Prop} (X:K.In s.heap) (q:sG K C) (he:s.heap.get? e=some ob) (hc:ob.cls = .ref C) (h:Q (some (.ref C)) {s with toks:=s.toks+1}):wpAny (model prog w) A (getAttr? (.ref e) "__class__") Q E s:=by
 obtain⟨hh,g,d,t,os⟩:=s
 have L0:PySem.W.Looks (model prog w) hh (typeOf (.ref e)) (.ref C):=hc▸(PySem.W.Looks.ld he).andThen .now
 have L1:=PySem.W.looks_findIn (M:=model prog w) X q.ga
 have L2:=PySem.W.looks_findIn (M:=model prog w) X q.gx
 have L3:PySem.W.Looks (model prog w) hh (ObjectAttr.find (.ref e) (.ref C) "__class__") (ObjectAttr.Found.bind (.builtin "getset_descriptor.__get__") (.builtin "object.__class__")):=by
  refine (PySem.W.looks_findIn (M:=model prog w) X q.cl).andThen ?_
  refine PySem.W.Looks.andThen (a:=some (.builtin "getset_descriptor.__get__")) (PySem.W.looks_specialIn X q.sp) ?_
  have Z:=PySem.W.looks_takesIn (M:=model prog w) X q.tk
  exact(show PySem.W.Looks (model prog w) hh (ObjectAttr.dataDescriptor? (some (.builtin "object.__class__")) (some (.builtin "getset_descriptor.__get__"))) (some (.builtin "getset_descriptor.__get__",.builtin "object.__class__")) from Z.andThen .now).andThen (PySem.W.Looks.tag .now)
 unfold getAttr? getAttrBy? getAttrBy
 refine wpAny_bind (wpAny_mkText (wpAny_bind (wpAny_attempt (wpAny_holding (wpAny_bind (L0.at (wpAny_bind (L1.at ?_))))))))
 have Hq:(onTheHeap (Value.ref C)&&Value.builtin "BaseException.__getattribute__"==Value.builtin "object.__getattribute__")=false:=by
  have:(Value.builtin "BaseException.__getattribute__"==Value.builtin "object.__getattribute__")=false:=by decide +kernel
  rw [this];rfl
 simp only [Hq,Bool.false_eq_true,if_false]
 unfold getAttrByItsOwn hookBefore
 have MC:onTheHeap (Value.ref C)=true:=rfl
 simp only [MC,if_true]
 refine wpAny_bind (L2.at (wpAny_bind (wpAny_attempt (wpAny_holding ?_))))
 unfold callGetattribute
 simp only [Bool.false_and,Bool.false_eq_true,if_false]
 unfold boundAndCalled
 have f3:=PySem.F.attrBase_ValueError.ga.bind (.ref e)
 refine wpAny_bind (wpAny_of_eq f3 ?_)
 refine wpAny_call (codeAny_call_builtin PySem.F.attrBase_ValueError.ga.plain PySem.F.entry_bexc_ga (wb X q.at_ he hc ?_))
 unfold Builtin.«object.__getattribute__»
 refine wpAny_bind (wpAny_pure (wpAny_bind (wpAny_pure (wpAny_bind (L0.at (wpAny_bind (L3.at ?_)))))))
 show wpAny _ _ (holding [Value.builtin "object.__class__"] (call (.builtin "getset_descriptor.__get__") [.builtin "object.__class__",.ref e,.ref C]) >>= ret) _ _ _
 refine wpAny_bind (wpAny_holding (wpAny_call (HL X q.mr he hc ?_)))
 refine wpAny_pure ?_
 exact PySem.W.handed_on rfl (wpAny_pure h)
theorem Ed (q:sG K C):PySem.W.KitX K (.ref e) (.ref C) (fun h=>∃ob,h.get? e=some ob∧ob.cls = .ref C) where
 ty:=fun _ _ _ ⟨ob,he,hc⟩=>hc▸(PySem.W.Looks.ld he).andThen .now
 it:=fun _ _ X _=>by
  obtain⟨bm,N,nm,qn,bs,hdct,sn,sub,ab,col,dd,k0,k1,k2,k3,k5,mN,hC,_⟩:=q.at_.obj X
  intro A' Q' E' s' k z
  unfold isType
  unfold loadHead
  exact wpAny_bind (wpAny_loadPart (k _ _ hC) (wpAny_pure z))
 ne:=fun h tp dd aq n sl X htp=>by
  obtain⟨bm,N,nm,qn,bs,hdct,sn,sub,ab,col,dd,k0,k1,k2,k3,k5,mN,hC,_⟩:=q.at_.obj X
  cases z:(Value.ref C==Value.ref tp) with
  | false=>rfl
  | true=>
   have e:C=tp:=Value.ref.inj (beq_iff_eq.mp z)
   rw [e,htp] at hC
   have:=congrArg (fun o=>o.map (·.cls)) hC
   simp at this
 ca:=fun X ⟨ob,he,hc⟩ k=>Cz X q he hc k
end
section
variable {X : Cx}
noncomputable def OC:V→Option Value
 | .ref a=>some (.ref a)
 | .ty n=>some (.type n)
 | _=>none
noncomputable def CK (K:PySem.W.Frag):List V→Hp→VK→Prop:=fun xs H Q=>∃(e C:Addr) (f:V) (fv:Value) (b:Bool),xs=[.ref e,f]∧OC f=some fv∧H e=some (zx e C)∧sG K C∧PySem.W.kitOne K (.ref C) fv=some b∧Q (.bl b) H
theorem nI:ck X (.builtin "isinstance") (CK X.K):=by
 intro pins s σ H xs us Q I r h
 obtain⟨e,C,f,fv,b,rfl,rf,he,q,hk,hq⟩:=h
 obtain⟨u,c,rfl,ru,rc⟩:=vals2 r
 cases (show u=Value.ref e from ru)
 have ef:c=fv:=by
  cases f with
  | ref a=>cases rf;exact(show c=Value.ref a from rc)
  | ty n=>cases rf;exact(show c=Value.type n from rc)
  | _=>cases rf
 subst ef
 obtain⟨⟨ob,h1,h2⟩,_⟩:=(show bS X.prog X.w H s.heap e (zx e C) from I.aO e _ he)
 exact PySem.W.kia_one (Ed q) I.rq ⟨ob,h1,h2⟩ hk (fun z=>nomatch z) fun tk=>⟨.bl b,H,I.tok _,rfl,hq⟩
theorem LQ {K:PySem.W.Frag}{xs:List V}{H:Hp}{Q:VK}:CK K xs H Q=(∃(e C:Addr) (f:V) (fv:Value) (b:Bool),xs=[.ref e,f]∧OC f=some fv∧H e=some (zx e C)∧sG K C∧PySem.W.kitOne K (.ref C) fv=some b∧Q (.bl b) H):=rfl
end
end L2
namespace L2
open PySem PySem.Spec PyProof.Rows
theorem t8:bootBuiltins "ValueError"=some (.type "ValueError"):=by decide +kernel
mutual
noncomputable def D.py:D→PyData
 | .non=>.none
 | .bl b=>.bool b
 | .int i=>.int i
 | .str x=>.str x
 | .tup ds=>.tuple (D.yU ds)
 | .lst ds=>.list (D.yU ds)
noncomputable def D.yU:List D→List PyData
 | []=>[]
 | d::ds=>D.py d::D.yU ds
end
mutual
noncomputable def D.wd:D→Nat
 | .non=>4
 | .bl _=>5
 | .int _=>1921
 | .str x=>10*x.length+2
 | .tup ds=>D.G8 ds+3
 | .lst ds=>D.G8 ds+3
noncomputable def D.G8:List D→Nat
 | []=>0
 | d::ds=>D.wd d+2+D.G8 ds
end
mutual
noncomputable def D.wJ:D→Prop
 | .int i=>i.natAbs.log2<1920
 | .str x=>∀c∈x.cps.toList,c<16^8
 | .tup ds=>D.rX ds
 | .lst ds=>D.rX ds
 | _=>True
noncomputable def D.rX:List D→Prop
 | []=>True
 | d::ds=>D.wJ d∧D.rX ds
end
mutual
theorem D.yG:∀d:D,d.py.depth=d.dp
 | .non=>rfl
 | .bl _=>rfl
 | .int _=>rfl
 | .str _=>rfl
 | .tup ds=>by simp only [D.py,PyData.depth,D.dp,D.pQ ds]
 | .lst ds=>by simp only [D.py,PyData.depth,D.dp,D.pQ ds]
theorem D.pQ:∀ds:List D,PyData.depthAll (D.yU ds)=D.tK ds
 | []=>rfl
 | d::ds=>by simp only [D.yU,PyData.depthAll,D.tK,D.yG d,D.pQ ds]
end
mutual
theorem D.AV:∀d:D,d.wJ→d.py.showable=true
 | .non,_=>rfl
 | .bl _,_=>rfl
 | .int i,h=>by simp only [D.wJ] at h;simp only [D.py,PyData.showable];exact decide_eq_true h
 | .str _,_=>rfl
 | .tup ds,h=>by simp only [D.wJ] at h;simp only [D.py,PyData.showable];exact D.rK ds h
 | .lst ds,h=>by simp only [D.wJ] at h;simp only [D.py,PyData.showable];exact D.rK ds h
theorem D.rK:∀ds:List D,D.rX ds→PyData.showableAll (D.yU ds)=true
 | [],_=>rfl
 | d::ds,h=>by simp only [D.rX] at h;simp only [D.yU,PyData.showableAll,D.AV d h.1,D.rK ds h.2,Bool.and_self]
end
mutual
theorem D.AF:∀d:D,d.py.hasDict=false
 | .non=>rfl
 | .bl _=>rfl
 | .int _=>rfl
 | .str _=>rfl
 | .tup ds=>by simp only [D.py,PyData.hasDict,D.rp ds]
 | .lst ds=>by simp only [D.py,PyData.hasDict,D.rp ds]
theorem D.rp:∀ds:List D,PyData.hasDictAll (D.yU ds)=false
 | []=>rfl
 | d::ds=>by simp only [D.yU,PyData.hasDictAll,D.AF d,D.rp ds,Bool.or_self]
end
mutual
theorem D.Gm:∀d:D,d.wJ→d.py.shown.length≤d.wd
 | .non,_=>by show (Str.ofString "None").length≤4;decide +kernel
 | .bl b,_=>by cases b<;>(simp only [D.py,PyData.shown,D.wd];decide +kernel)
 | .int i,h=>by simp only [D.wJ] at h;simp only [D.py,PyData.shown,D.wd];exact int_text_len_1921 h
 | .str x,h=>by simp only [D.wJ] at h;simp only [D.py,PyData.shown,D.wd];exact StrLaws.reprText_len x h
 | .tup ds,h=>by
  simp only [D.wJ] at h
  simp only [D.py,PyData.shown,D.wd]
  have h1:=tupleText_len_le (PyData.shownAll (D.yU ds))
  have h2:=D.vF ds h
  omega
 | .lst ds,h=>by
  simp only [D.wJ] at h
  simp only [D.py,PyData.shown,D.wd]
  have h1:=listText_len_le (PyData.shownAll (D.yU ds))
  have h2:=D.vF ds h
  omega
theorem D.vF:∀ds:List D,D.rX ds→((PyData.shownAll (D.yU ds)).map (·.length)).sum+2*(PyData.shownAll (D.yU ds)).length≤D.G8 ds
 | [],_=>by simp [D.yU,PyData.shownAll,D.G8]
 | d::ds,h=>by
  simp only [D.rX] at h
  have h1:=D.Gm d h.1
  have h2:=D.vF ds h.2
  simp only [D.yU,PyData.shownAll,D.G8,List.map_cons,List.sum_cons,List.length_cons]
  omega
end
section
variable {P : Program} {w : World} {H : Hp} {h : Heap}
mutual
theorem xD (aO:fN P w H h):∀(d:D) {v:V}{u:Value},Dt H d v→RelV v u→∃as,Reads h u d.py as
 | .non,v,u,hd,r=>by simp only [Dt] at hd;subst hd;cases r;exact⟨_,.none⟩
 | .bl b,v,u,hd,r=>by simp only [Dt] at hd;subst hd;cases r;exact⟨_,.bool b⟩
 | .int i,v,u,hd,r=>by simp only [Dt] at hd;subst hd;obtain⟨t,rfl⟩:=r;exact⟨_,.int i t⟩
 | .str x,v,u,hd,r=>by simp only [Dt] at hd;subst hd;obtain⟨t,rfl⟩:=r;exact⟨_,.str x t⟩
 | .tup ds,v,u,hd,r=>by
  simp only [Dt] at hd
  obtain⟨a,vs,rfl,ea,hs⟩:=hd
  cases r
  obtain⟨_,aq,rv,o,ho,hc,n,So⟩:=aO a _ ea
  obtain⟨as,ra⟩:=pH aO ds hs rv
  exact⟨_,.tuple ho hc So (by simpa using ra)⟩
 | .lst ds,v,u,hd,r=>by
  simp only [Dt] at hd
  obtain⟨a,vs,rfl,ea,hs⟩:=hd
  cases r
  obtain⟨_,aq,n,rv,ho⟩:=aO a _ ea
  obtain⟨as,ra⟩:=pH aO ds hs rv
  exact⟨_,.list ho rfl rfl (by simpa using ra)⟩
theorem pH (aO:fN P w H h):∀(ds:List D) {vs:List V}{us:List Value},aR H ds vs→Vals vs us→∃as,ReadsAll h us (D.yU ds) as
 | [],vs,us,hd,r=>by simp only [aR] at hd;subst hd;cases r;exact⟨_,.nil⟩
 | d::ds,vs,us,hd,r=>by
  simp only [aR] at hd
  obtain⟨v,vr,rfl,h1,h2⟩:=hd
  cases r with
  | cons r rt=>
   obtain⟨as,ra⟩:=xD aO d h1 r
   obtain⟨bs,rb⟩:=pH aO ds h2 rt
   exact⟨_,.cons ra rb⟩
end
end
section
variable {X : Cx} {k : Nat}
noncomputable def J8 (te:TE):TE:=fun σ H Q=>te σ H fun v H1=>∃a d,v = .ref a∧Dt H1 d v∧d.wJ∧d.dp≤150∧d.wd≤1000000∧∀z:Str,z.length≤d.wd→Q (.str z) H1
noncomputable def JL (te:TE):TE:=fun σ H Q=>te σ H fun v H1=>∃x,v = .str x∧(∀c∈x.cps.toList,c<16^8)∧x.length≤100000∧∀z:Str,z.length≤10*x.length+2→Q (.str z) H1
theorem qR {e:Expr}{te:TE}{pos:Pos} (h:PE X e te):PE X (.FormattedValue e 114 none pos) (JL te):=by
 intro pins s σ H Q I hw
 refine wpAny_FormattedValue_repr (bD (h pins s σ H _ I hw) fun v s1 ⟨x,H1,I1,r1,q1⟩=>?_)
 obtain⟨x,rfl,hs,hx,q⟩:=q1
 obtain⟨t,rfl⟩:=r1
 have hl:=StrLaws.reprText_len x hs
 have hz:(reprText x).length≤sizeLine:=Nat.le_trans (Nat.le_trans hl (show 10*x.length+2≤1000002 by omega)) (by decide)
 refine wpAny_pyReprObj_str ?_ hz
 exact wpAny_formatField_str ⟨.str _,H1,I1.tok _,⟨_,rfl⟩,q _ hl⟩ ⟨.str _,H1,(I1.tok _).tok _,⟨_,rfl⟩,q _ hl⟩ hz
noncomputable def Fc (te:TE):TE:=J8 te
theorem DA {e:Expr}{te:TE}{pos:Pos} (hr:fo k X.A) (h:PE X e te):PE X (.FormattedValue e 114 none pos) (Fc te):=by
 intro pins s σ H Q I hw
 refine wpAny_FormattedValue_repr (bD (h pins s σ H _ I hw) fun v s1 ⟨x,H1,I1,r1,q1⟩=>?_)
 obtain⟨a,d,rfl,hd,hs,hp,hwd,q⟩:=q1
 obtain⟨as,ra⟩:=xD I1.aO d hd r1
 cases r1
 have hl:=D.Gm d hs
 have hz:d.py.shown.length≤sizeLine:=Nat.le_trans (Nat.le_trans hl hwd) (by decide)
 refine pyReprObj_of_reads ra (D.AV d hs) (fun z=>by rw [D.AF d] at z;cases z) hr.gd (by rw [D.yG];have:=hr.un;omega) (fun b o e=>e) (fun h' u tk hk=>?_) hz
 have I2:=I1.kept (t':=tk) hk
 exact wpAny_formatField_str ⟨.str _,H1,I2,⟨_,rfl⟩,q _ hl⟩ ⟨.str _,H1,I2.tok _,⟨_,rfl⟩,q _ hl⟩ hz
noncomputable def KH (te:TE):TE:=fun σ H Q=>te σ H fun v H1=>∃i,v = .int i∧i.natAbs.log2<1920∧∀z:Str,z.length≤1921→Q (.str z) H1
theorem vS {e:Expr}{te:TE}{pos:Pos} (h:PE X e te):PE X (.FormattedValue e (-1) none pos) (KH te):=by
 intro pins s σ H Q I hw
 refine wpAny_FormattedValue_plain (bD (h pins s σ H _ I hw) fun v s1 ⟨x,H1,I1,r1,q1⟩=>?_)
 obtain⟨i,rfl,hi,q⟩:=q1
 obtain⟨t,rfl⟩:=r1
 exact wpAny_formatField_int hi ⟨.str _,H1,I1.tok _,⟨_,rfl⟩,q _ (int_text_len_1921 hi)⟩
theorem Hv {te:TE}{σ:St}{H:Hp}{Q:VK}:J8 te σ H Q=(te σ H fun v H1=>∃a d,v = .ref a∧Dt H1 d v∧d.wJ∧d.dp≤150∧d.wd≤1000000∧∀z:Str,z.length≤d.wd→Q (.str z) H1):=rfl
theorem EZ {te:TE}{σ:St}{H:Hp}{Q:VK}:Fc te σ H Q=(te σ H fun v H1=>∃a d,v = .ref a∧Dt H1 d v∧d.wJ∧d.dp≤150∧d.wd≤1000000∧∀z:Str,z.length≤d.wd→Q (.str z) H1):=rfl
theorem Hi {te:TE}{σ:St}{H:Hp}{Q:VK}:JL te σ H Q=(te σ H fun v H1=>∃x,v = .str x∧(∀c∈x.cps.toList,c<16^8)∧x.length≤100000∧∀z:Str,z.length≤10*x.length+2→Q (.str z) H1):=rfl
theorem Je {te:TE}{σ:St}{H:Hp}{Q:VK}:KH te σ H Q=(te σ H fun v H1=>∃i,v = .int i∧i.natAbs.log2<1920∧∀z:Str,z.length≤1921→Q (.str z) H1):=rfl
theorem Ld {K:PySem.W.Frag}{x:V}{lo hi:Option Int}{H:Hp}{Q:VK}:O5 K x lo hi H Q=(∃a xs,x = .ref a∧jr K H a xs∧¬(HT.cM xs.length 0 lo=0∧HT.cM xs.length xs.length hi=xs.length)∧aM H (.tup (iB xs lo hi)) Q):=rfl
end
end L2
namespace L2
open PySem PySem.Spec PyProof.Rows
theorem mK:∀{is:List Int}{us:List Value},Vals (is.map V.int) us→∃xs:List (Int×Tok),us=xs.map (fun p=>Value.int p.1 p.2)∧xs.map (·.1)=is
 | [],us,r=>by cases r;exact⟨[],rfl,rfl⟩
 | i::is,us,r=>by
  cases r with
  | cons r rt=>
   obtain⟨t,rfl⟩:=r
   obtain⟨xs,rfl,e⟩:=mK rt
   exact⟨(i,t)::xs,rfl,by simp [e]⟩
theorem Mt {xs:List (Int×Tok)}{i:Nat} (h:i<xs.length):numAt xs.toArray i∈xs.map (·.1):=by
 have:numAt xs.toArray i=(xs[i]).1:=by simp [numAt,h]
 rw [this]
 exact List.mem_map.mpr ⟨xs[i],List.getElem_mem h,rfl⟩
theorem Lu {xs:List (Int×Tok)}{j:Int} (h:j∈xs.map (·.1)):∃i,i<xs.length∧numAt xs.toArray i=j:=by
 obtain⟨p,hp,rfl⟩:=List.mem_map.mp h
 obtain⟨i,hi,e⟩:=List.mem_iff_getElem.mp hp
 exact⟨i,hi,by simp [numAt,hi,e]⟩
section
variable {X : Cx}
noncomputable def Kg:List V→Hp→VK→Prop:=fun xs H Q=>∃p is,xs=[.ref p]∧itemsOf (H p)=some (is.map V.int)∧is≠[]∧∀m,m∈is→(∀j∈is,j≤m)→Q (.int m) H
theorem Ij {xs:List V}{H:Hp}{Q:VK}:Kg xs H Q=(∃p is,xs=[.ref p]∧itemsOf (H p)=some (is.map V.int)∧is≠[]∧∀m,m∈is→(∀j∈is,j≤m)→Q (.int m) H):=rfl
theorem ER {M:Program}{w:World}{A:Around}{E:Value→Shared→Prop}{s:Shared}{a:Addr}{items:Array Value}{R:Value→Shared→Prop} (hh:A.handled=none) (ht:s.heap.IsTuple a items)
 (h:∀I s2,Walks M w A I [I,a] [I] items.size (fun i v=>items[i]? = some v) (fun i h=>h.IsTupleIter I a i∧h.IsTuple a items)→(s2.heap.IsTupleIter I a 0∧s2.heap.IsTuple a items)→(∀b∈[I,a],b<s2.heap.objs.size)→
   (∀h' tk,(∀b o,b∉[I]→s2.heap.get? b=some o→h'.get? b=some o)→(∀b o,s.heap.get? b=some o→h'.get? b=some o)∧({s2 with heap:=h',toks:=tk}:Shared)={s with heap:=h',toks:=tk})→R (.ref I) s2) :
 wpAny (model M w) A (pyIter (.ref a)) R E s:=by
 have dY:a<s.heap.objs.size:=by obtain⟨_,e,_⟩:=ht;exact Heap.lt_size e
 refine wpAny_pyIter_tuple ht (h _ _ (Walks.tuple hh _ a (Nat.ne_of_lt dY) items) ⟨⟨_,Heap.get?_push_size _ rfl,rfl,rfl⟩,ht.push _⟩ (fun b hb=>?_) fun h' tk hk=>⟨fun b o e=>?_,rfl⟩)
 · show b<(s.heap.push _).objs.size
   rw [Heap.size_push]
   simp only [List.mem_cons,List.not_mem_nil,or_false] at hb
   rcases hb with rfl|rfl
   · exact Nat.lt_succ_self _
   · exact Nat.lt_succ_of_lt dY
 · refine hk b o (fun hm=>?_) (Heap.get?_push_of_some _ e)
   have:=Heap.lt_size e
   rw [List.mem_singleton.mp hm] at this
   exact Nat.lt_irrefl _ this
theorem Ce (hc:X.calm=true):ck X (.builtin "max") Kg:=by
 intro pins s σ H xs us Q I r h
 obtain⟨p,is,rfl,e,bH,q⟩:=h
 obtain⟨u,rfl,ru⟩:=vals1 r
 cases ru
 have done:∀{zs:List (Int×Tok)}{v:Value}{h':Heap}{tk:Nat},zs.map (·.1)=is→(intItems zs.toArray)[argBest (fun i j=>decide (numAt zs.toArray i > numAt zs.toArray j)) (zs.toArray.size - 1)]? = some v→(∀b o,s.heap.get? b=some o→h'.get? b=some o)→
  EP X pins σ Q v {s with heap:=h',toks:=tk}:=fun {zs v h' tk} ez hv hk=>by
  obtain⟨t,rfl⟩:=intItems_at hv
  obtain⟨h1,h2⟩:=argBest_gt (numAt zs.toArray) (zs.toArray.size - 1)
  have hz:0<zs.length:=by rw [←List.length_map (f:=(·.1)),ez];exact List.length_pos_iff.mpr bH
  simp only [List.size_toArray] at h1 h2
  refine⟨.int _,H,I.kept hk,⟨t,rfl⟩,q _ ?_ fun j hj=>?_⟩
  · rw [←ez];exact Mt (by simp only [List.size_toArray];omega)
  · rw [←ez] at hj
    obtain⟨i,hi,rfl⟩:=Lu hj
    exact h2 i (by omega)
 cases ho:H p with
 | none=>rw [ho] at e;cases e
 | some o=>
  rw [ho] at e
  cases o with
  | lst vs=>
   cases e
   obtain⟨_,aq,n,rv,hl⟩:=I.aO p _ ho
   obtain⟨zs,rfl,ez⟩:=mK rv
   refine max_intList (xs:=zs.toArray) (I.ok.hd hc) ⟨_,hl,rfl,n,by simp [intItems]⟩ ?_ fun v h' tk hv hk=>done ez hv hk
   simp only [List.size_toArray]
   rw [←List.length_map (f:=(·.1)),ez];exact List.length_pos_iff.mpr bH
  | tup vs=>
   cases e
   obtain⟨_,aq,rv,o,hl,WC,n,So⟩:=I.aO p _ ho
   obtain⟨zs,rfl,ez⟩:=mK rv
   have ht:s.heap.IsTuple p (intItems zs.toArray):=⟨o,hl,WC,n,by rw [So];simp [intItems]⟩
   refine call_max_walk (ER (I.ok.hd hc) ht fun Ia s2 W st hfp hk=>⟨Ia,_,_,_,_,_,_,rfl,W,st,hfp,?_,CmpOf.ints_gt (numAt zs.toArray) (fun _ _=>intItems_at),fun v h' tk hv hk2=>?_⟩)
   · simp only [intItems,Array.size_map,List.size_toArray]
     rw [←List.length_map (f:=(·.1)),ez];exact List.length_pos_iff.mpr bH
   · obtain⟨k1,k2⟩:=hk h' tk hk2
     rw [k2]
     exact done ez (by simpa [intItems] using hv) k1
  | _=>cases e
end
theorem QK {lo:Int}{n:Nat}{caps:List Nat}{tc:TT}{te:TE}{σ:St}{H:Hp}{Q:VK} (Pv:Nat→List V→Hp→Prop) (h0:Pv 0 [] H) (hx:n≤100000) (hy:∀i ys H',Pv i ys H'→ys.length≤i)
 (hs:∀i ys H',i<n→ay H H'→Pv i ys H'→tc (bc caps σ (some (.int (lo+i)))) H' fun b H2=>if b=true then te (bc caps σ (some (.int (lo+i)))) H2 fun y H3=>ay H H3∧Pv (i+1) (ys++[y]) H3 else ay H H2∧Pv (i+1) ys H2)
 (hd:∀p ys H1 H2,ay H H1→ay H1 H2→Pv n ys H1→H1 p=none→H2 p=some (.lst ys)→Q (.ref p) H2):jC (GZ lo n) caps tc te σ H Q:=
 zc (fun i ys H'=>ay H H'∧Pv i ys H') ⟨ay.refl H,h0⟩ (cP hx) (fun i ys H' p=>hy i ys H' p.2) (fun i ys H' hi p=>hs i ys H' hi p.1 p.2) fun ys H' p q n=>hd q ys H' _ p.1 (bP n _) p.2 n aT
theorem Fz {K:PySem.W.Frag}{a:Addr}{xs:List V}{caps:List Nat}{tc:TT}{te:TE}{σ:St}{H:Hp}{Q:VK} (Pv:Nat→List V→Hp→Prop) (h0:Pv 0 [] H) (hx:xs.length<sizeLine) (hy:∀i ys H,Pv i ys H→ys.length≤i)
 (hl:∀i ys H,i≤xs.length→Pv i ys H→jr K H a xs)
 (hs:∀i x ys H,xs[i]? = some x→Pv i ys H→tc (bc caps σ (some x)) H fun b H2=>if b=true then te (bc caps σ (some x)) H2 fun y H3=>Pv (i+1) (ys++[y]) H3 else Pv (i+1) ys H2)
 (hd:∀ys H,Pv xs.length ys H→∀p,H p=none→Q (.ref p) (upd H p (.lst ys))):jC (NQ K a) caps tc te σ H Q:=by
 refine⟨fun i m ys H=>m=xs.length - i∧i≤xs.length∧Pv i ys H,⟨xs.length,by simp,Nat.zero_le _,h0⟩,?_⟩
 rintro i m ys H ⟨rfl,hi,p⟩
 have q:=hl i ys H hi p
 by_cases dY:i<xs.length
 · refine .inr ⟨⟨xs,xs[i],q,by simp [dY]⟩,Nat.lt_of_le_of_lt (Nat.le_trans (hy i ys H p) hi) hx,Pv (i+1),fun ys' H' p'=>⟨xs.length - (i+1),by omega,rfl,dY,p'⟩,fun x H' y=>?_⟩
   obtain⟨e,y⟩:=y
   subst e
   exact hs i x ys _ (y xs q) p
 · have e:i=xs.length:=by omega
   subst e
   exact .inl ⟨⟨xs,q,Nat.le_refl _⟩,hd ys H p⟩
theorem lX.comp {K:PySem.W.Frag}{a:Addr}{xs:List V}{caps:List Nat}{tc:TT}{te:TE}{σ:St}{H:Hp}{Q:VK} (e:H a=some (.tup xs)) (Pv:Nat→List V→Hp→Prop) (h0:Pv 0 [] H) (hx:xs.length≤100000)
 (hy:∀i ys H',Pv i ys H'→ys.length≤i)
 (hs:∀i x ys H',xs[i]? = some x→ay H H'→Pv i ys H'→tc (bc caps σ (some x)) H' fun b H2=>if b=true then te (bc caps σ (some x)) H2 fun y H3=>ay H H3∧Pv (i+1) (ys++[y]) H3 else ay H H2∧Pv (i+1) ys H2)
 (hd:∀p ys H1 H2,ay H H1→ay H1 H2→Pv xs.length ys H1→H1 p=none→H2 p=some (.lst ys)→Q (.ref p) H2):lX K (.ref a) H fun J H1=>jC J caps tc te σ H1 Q:=
 ⟨a,rfl,⟨xs,e⟩,Fz (fun i ys H'=>ay H H'∧Pv i ys H') ⟨ay.refl H,h0⟩ (cP hx) (fun i ys H' p=>hy i ys H' p.2) (fun i ys H' _ p=>jr.of (p.1 _ _ e)) (fun i x ys H' ex p=>hs i x ys H' ex p.1 p.2) fun ys H' p q n=>hd q ys H' _ p.1 (bP n _) p.2 n aT⟩
end L2
namespace L2
open PySem PySem.Spec PyProof.Rows
theorem My (a b:Str):(a++b).length=a.length+b.length:=by simp only [cy,cps_append,List.length_append]
theorem wj:Str.empty.length=0:=by decide +kernel
noncomputable def NW (t:Tree):Bool:=!t.i7
noncomputable abbrev ar:=M.ar Str
noncomputable def bp:ar→List V
 | .take x i=>[.str (Str.ofString "take"),.str x,.int i]
 | .join f i j h=>[.str (Str.ofString "join"),.str f,.int i,.int j,.int h]
 | .put i s=>[.str (Str.ofString "put"),.int i,.int s]
 | .fetch s i=>[.str (Str.ofString "fetch"),.int s,.int i]
noncomputable def cD:ar→D
 | .take x i=>.tup [.str (Str.ofString "take"),.str x,.int i]
 | .join f i j h=>.tup [.str (Str.ofString "join"),.str f,.int i,.int j,.int h]
 | .put i s=>.tup [.str (Str.ofString "put"),.int i,.int s]
 | .fetch s i=>.tup [.str (Str.ofString "fetch"),.int s,.int i]
theorem fF {H:Hp}{d:ar}{v:V} (h:Dt H (cD d) v):∃a,v = .ref a∧H a=some (.tup (bp d)):=by
 cases d<;>(obtain⟨a,vs,rfl,e,h⟩:=fZ.mp h;refine⟨a,rfl,?_⟩;simp only [aY,bh,aV,fJ] at h)
 · obtain⟨_,_,rfl,rfl,_,_,rfl,rfl,_,_,rfl,rfl,rfl⟩:=h;exact e
 · obtain⟨_,_,rfl,rfl,_,_,rfl,rfl,_,_,rfl,rfl,_,_,rfl,rfl,_,_,rfl,rfl,rfl⟩:=h;exact e
 · obtain⟨_,_,rfl,rfl,_,_,rfl,rfl,_,_,rfl,rfl,rfl⟩:=h;exact e
 · obtain⟨_,_,rfl,rfl,_,_,rfl,rfl,_,_,rfl,rfl,rfl⟩:=h;exact e
theorem lu {H:Hp}{d:ar}{a:Addr} (e:H a=some (.tup (bp d))):Dt H (cD d) (.ref a):=by
 cases d
 · exact Dt.tup e (.cons (bh.mpr rfl) (.cons (bh.mpr rfl) (.cons (aV.mpr rfl) .nil)))
 · exact Dt.tup e (.cons (bh.mpr rfl) (.cons (bh.mpr rfl) (.cons (aV.mpr rfl) (.cons (aV.mpr rfl) (.cons (aV.mpr rfl) .nil)))))
 · exact Dt.tup e (.cons (bh.mpr rfl) (.cons (aV.mpr rfl) (.cons (aV.mpr rfl) .nil)))
 · exact Dt.tup e (.cons (bh.mpr rfl) (.cons (aV.mpr rfl) (.cons (aV.mpr rfl) .nil)))
theorem Ew (d:ar):(cD d).dp≤1:=by cases d<;>exact Nat.le_refl 1
theorem WI:(Str.ofString "take"==Str.ofString "join")=false:=by decide +kernel
theorem GW:(Str.ofString "take"==Str.ofString "put")=false:=by decide +kernel
theorem L9:(Str.ofString "take"==Str.ofString "fetch")=false:=by decide +kernel
theorem ZT:(Str.ofString "join"==Str.ofString "take")=false:=by decide +kernel
theorem ID:(Str.ofString "join"==Str.ofString "put")=false:=by decide +kernel
theorem LO:(Str.ofString "join"==Str.ofString "fetch")=false:=by decide +kernel
theorem Ua:(Str.ofString "put"==Str.ofString "take")=false:=by decide +kernel
theorem Qm:(Str.ofString "put"==Str.ofString "join")=false:=by decide +kernel
theorem aa0:(Str.ofString "put"==Str.ofString "fetch")=false:=by decide +kernel
theorem aaf:(Str.ofString "fetch"==Str.ofString "take")=false:=by decide +kernel
theorem OF:(Str.ofString "fetch"==Str.ofString "join")=false:=by decide +kernel
theorem C2:(Str.ofString "fetch"==Str.ofString "put")=false:=by decide +kernel
theorem abE {x y:Str} (h:(x==y)=false):decide (V.str x=V.str y)=false:=decide_eq_false fun z=>by
 have:=V.str.inj z
 rw [this] at h
 simp at h
theorem Qb {x:Str}:decide (V.str x=V.str x)=true:=decide_eq_true rfl
noncomputable def D0:List V→Hp→VK→Prop:=fun xs H Q=>∃p ys,xs=[.ref p]∧itemsOf (H p)=some ys∧aM H (.lst ys) Q
theorem sF {X:Cx}:ck X (.type "list") D0:=fun pins s σ H xs us Q I r h=>by
 obtain⟨p,ys,e,h,q⟩:=h
 exact wg pins s σ H xs us Q I r ⟨p,ys,e,mG h,q⟩
theorem FQ {xs:List V}{H:Hp}{Q:VK}:D0 xs H Q=(∃p ys,xs=[.ref p]∧itemsOf (H p)=some ys∧aM H (.lst ys) Q):=rfl
noncomputable def JT:List V→Hp→VK→Prop:=fun xs H Q=>∃p ys,xs=[.ref p]∧H p=some (.lst ys)∧aM H (.tup ys) Q
theorem um {X:Cx}:ck X (.type "tuple") JT:=fun pins s σ H xs us Q I r h=>by
 obtain⟨p,ys,e,h,q⟩:=h
 exact t6 pins s σ H xs us Q I r ⟨p,ys,e,.inl ⟨fD.of h,q⟩⟩
theorem Ig {xs:List V}{H:Hp}{Q:VK}:JT xs H Q=(∃p ys,xs=[.ref p]∧H p=some (.lst ys)∧aM H (.tup ys) Q):=rfl
noncomputable def Oq (K:PySem.W.Frag):V→Option Int→Option Int→Hp→VK→Prop:=fun x lo hi H Q=>∃a xs,x = .ref a∧H a=some (.tup xs)∧
 ((HT.cM xs.length 0 lo=0∧HT.cM xs.length xs.length hi=xs.length)→Q (.ref a) H)∧(¬(HT.cM xs.length 0 lo=0∧HT.cM xs.length xs.length hi=xs.length)→aM H (.tup (iB xs lo hi)) Q)
theorem LX {K:PySem.W.Frag}{x:V}{lo hi:Option Int}{H:Hp}{Q:VK}:Oq K x lo hi H Q=(∃a xs,x = .ref a∧H a=some (.tup xs)∧
 ((HT.cM xs.length 0 lo=0∧HT.cM xs.length xs.length hi=xs.length)→Q (.ref a) H)∧(¬(HT.cM xs.length 0 lo=0∧HT.cM xs.length xs.length hi=xs.length)→aM H (.tup (iB xs lo hi)) Q)):=rfl
open HT in
theorem Al {P:Program}{w:World}{AA:Around}{EE:Value→Shared→Prop}{s:Shared}{t sl:Addr}{aq:Array Value}{vl vu:Value}{lo hi:Option Int}{Q:Value→Shared→Prop} (ht:IsTup s.heap t aq) (hs:s.heap.IsSliceOf sl vl vu .none) (pl:IsPart vl lo) (pu:IsPart vu hi)
 (hw:cM aq.size 0 lo=0∧cM aq.size aq.size hi=aq.size) (h:Q (.ref t) s):wpAny (model P w) AA (getItem (.ref t) (.ref sl)) Q EE s:=by
 obtain⟨os,a1,a2,a3⟩:=id hs
 unfold getItem
 try with_reducible refine wpAny_holding ?_
 first|refine wpAny_bind (wpAny_pure ?_)|skip
 refine wpAny_bind (wpAny_sequenceKey ht.typeIs (by decide) ?_)
 have kind:s.TypeIs (.ref sl) "slice":=⟨os,a1,a2⟩
 refine wpAny_bind (wpAny_callSpecial?_slot (name:=Str.ofString "__getitem__") ht.typeIs PyProof.Rows.slot_tuple_getitem
  (wpAny_call_entry PyProof.Rows.slot_tuple_getitem ht.typeIs entry_tuple_getitem ?_ (args_tuple_getitem _ _)))
 show wpAny _ _ (Builtin.Tuple.tupleItemsOf (.ref t) >>= _) _ _ s
 refine wpAny_bind (tupleItemsOf_ ht ?_)
 refine wpAny_bind (wpAny_typeOf kind ?_)
 rw [if_pos (by decide)]
 refine wpAny_bind (iU hs pl pu ?_)
 have yes:(((cM aq.size 0 lo:Nat):Int)==0&&(1:Int)==1&&(cM aq.size aq.size hi - cM aq.size 0 lo)==aq.size)=true:=by
  rw [hw.1,hw.2];simp
 show wpAny _ _ (if (((cM aq.size 0 lo:Nat):Int)==0&&(1:Int)==1&&(cM aq.size aq.size hi - cM aq.size 0 lo)==aq.size)=true then _ else _) _ _ s
 rw [if_pos yes]
 refine wpAny_bind (wpAny_bind (m:=typeOf _) (wpAny_typeOf ht.typeIs (wpAny_pure ?_)))
 rw [if_pos (by decide)]
 first
  | exact wpAny_bind (wpAny_pure (wpAny_pure ⟨_,rfl,wpAny_pure h⟩))
  | exact wpAny_pure ⟨_,rfl,wpAny_pure h⟩
  | exact wpAny_bind (wpAny_rule (wpAny_pure ⟨_,rfl,wpAny_pure h⟩))
theorem vQ {X:Cx}:GC X (Oq X.K):=by
 intro pins s σ H x v vl vu lo hi sl Q I rx hs pl pu h
 obtain⟨a,xs,rfl,hx,h1,h2⟩:=h
 by_cases hw:HT.cM xs.length 0 lo=0∧HT.cM xs.length xs.length hi=xs.length
 · cases rx
   obtain⟨aq,r,ht,hz⟩:=I.tuple (jr.of (K:=X.K) hx)
   have hlen:aq.toArray.size=xs.length:=by rw [List.size_toArray];exact r.length.symm
   exact⟨"tuple",_,PyProof.Rows.slot_tuple_getitem.lookup,ht.typeIs,Al ht hs pl pu (by rw [hlen];exact hw) ⟨.ref a,_,I,rfl,h1 hw⟩⟩
 · exact Mh pins s σ H (.ref a) v vl vu lo hi sl Q I rx hs pl pu ⟨a,xs,rfl,jr.of hx,hw,h2 hw⟩
theorem xN {H:Hp}{B S:List D}{v:V} (h:Dt H (.tup [.lst B,.lst S]) v):∃p b s vs us,v = .ref p∧H p=some (.tup [.ref b,.ref s])∧H b=some (.lst vs)∧H s=some (.lst us)∧aR H B vs∧aR H S us:=by
 obtain⟨p,vs,rfl,e,g1⟩:=fZ.mp h
 obtain⟨v1,r1,e1,h1,g2⟩:=aY.mp g1
 obtain⟨v2,r2,e2,h2,g3⟩:=aY.mp g2
 obtain⟨b,us,e3,eb,db⟩:=BG.mp h1
 obtain⟨s,ws,e4,es,ds⟩:=BG.mp h2
 rw [e1,e2,fJ.mp g3,e3,e4] at e
 exact⟨p,b,s,us,ws,rfl,e,eb,es,db,ds⟩
theorem BL {H:Hp}{B S:List D}{p b s:Addr}{vs us:List V} (e:H p=some (.tup [.ref b,.ref s])) (eb:H b=some (.lst vs)) (es:H s=some (.lst us)) (db:aR H B vs) (ds:aR H S us):Dt H (.tup [.lst B,.lst S]) (.ref p):=
 Dt.tup e (.cons (Dt.lst eb db) (.cons (Dt.lst es ds) .nil))
noncomputable def FP (H:Hp) (st:List D×List D) (Q:VK):Prop:=∀p b s vs us H',ay H H'→H' p=some (.tup [.ref b,.ref s])→H b=none→H s=none→b≠s→H' b=some (.lst vs)→H' s=some (.lst us)→aR H' st.1 vs→aR H' st.2 us→Q (.ref p) H'
theorem FP.d {H:Hp}{B S:List D}{Q:VK} (h:xo H (.tup [.lst B,.lst S]) Q):FP H (B,S) Q:=fun p b s vs us H' S' e _ _ _ eb es db ds=>h _ _ S' (BL e eb es db ds)
theorem aR.len {H:Hp}{B:List D}{vs:List V} (h:aR H B vs):vs.length=B.length:=h.length
theorem getD_at {H:Hp}{B:List D}{vs:List V}{i:Int} (h:aR H B vs) (hi:M.oo B.length i):∃v,kT vs i=some v∧Dt H (B.getD i.toNat .non) v:=by
 have dY:i.toNat<B.length:=by have:=hi.1;have:=hi.2;omega
 obtain⟨v,e,d⟩:=h.get (List.getElem?_eq_getElem dY)
 refine⟨v,jo hi.1 e,?_⟩
 rw [List.getD_eq_getElem?_getD,List.getElem?_eq_getElem dY]
 exact d
end L2
namespace L2
open PySem PySem.Spec PyProof.Rows
section
variable {D : Ends} {σ : St} {H : Hp} {a b c d e f g h i j k l B : TS}
end
section
variable {D : Ends} {σ : St} {H : Hp} {a b c d e f B : TS}
theorem iI (q:∀C:St→Hp→Prop,C=B D→gX a (fun _=>C) D σ H):gX a B D σ H:=q _ rfl
theorem uE (q:∀C:St→Hp→Prop,C=B D→gX a (gX b fun _=>C) D σ H):gX a (gX b B) D σ H:=q _ rfl
theorem Bi (q:∀C:St→Hp→Prop,C=B D→gX a (gX b (gX c fun _=>C)) D σ H):gX a (gX b (gX c B)) D σ H:=q _ rfl
theorem Kr (q:∀C:St→Hp→Prop,C=B D→gX a (gX b (gX c (gX d fun _=>C))) D σ H):gX a (gX b (gX c (gX d B))) D σ H:=q _ rfl
end
theorem aav {p:List Value→Prop} (h:∀a,p [a]) (us:List Value) (hl:us.length=1):p us:=by
 obtain _|⟨a,us⟩:=us
 · cases hl
 obtain _|⟨_,_⟩:=us
 · exact h a
 · simp at hl
theorem R9 {p:List Value→Prop} (h:∀a b,p [a,b]) (us:List Value) (hl:us.length=2):p us:=by
 obtain _|⟨a,us⟩:=us
 · cases hl
 obtain _|⟨b,us⟩:=us
 · cases hl
 obtain _|⟨_,_⟩:=us
 · exact h a b
 · simp at hl
theorem Ug {p:List Value→Prop} (h:∀a b c,p [a,b,c]) (us:List Value) (hl:us.length=3):p us:=by
 obtain _|⟨a,us⟩:=us
 · cases hl
 obtain _|⟨b,us⟩:=us
 · cases hl
 obtain _|⟨c,us⟩:=us
 · cases hl
 obtain _|⟨_,_⟩:=us
 · exact h a b c
 · simp at hl
theorem aas {p:List Value→Prop} (h:∀a b c d,p [a,b,c,d]) (us:List Value) (hl:us.length=4):p us:=by
 obtain _|⟨a,us⟩:=us
 · cases hl
 obtain _|⟨b,us⟩:=us
 · cases hl
 obtain _|⟨c,us⟩:=us
 · cases hl
 obtain _|⟨d,us⟩:=us
 · cases hl
 obtain _|⟨_,_⟩:=us
 · exact h a b c d
 · simp at hl
theorem Tf {p:List Value→Prop} (h:∀a b c d e f,p [a,b,c,d,e,f]) (us:List Value) (hl:us.length=6):p us:=by
 obtain _|⟨a,us⟩:=us
 · cases hl
 obtain _|⟨b,us⟩:=us
 · cases hl
 obtain _|⟨c,us⟩:=us
 · cases hl
 obtain _|⟨d,us⟩:=us
 · cases hl
 obtain _|⟨e,us⟩:=us
 · cases hl
 obtain _|⟨f,us⟩:=us
 · cases hl
 obtain _|⟨_,_⟩:=us
 · exact h a b c d e f
 · simp at hl
theorem d8.cI {K:PySem.W.Frag}{x qual:Str}{st:Stmt}{f:Addr}{fd:FuncData}{ps:List Str} (F:d8 K x qual st f fd) (hn:ps.length=1) (h:∀(kV doc pm:Value) (an:Option Addr) (bt ct:Value) (a:Value),bindArgs (PySem.W.fnOf x qual (av st) (au st) (ah st) .none kV doc pm an bt ct) ⟨[a],[]⟩=pure (ps.zip [a])):Binds K fd ps []:=
 F.binds fun kV doc pm an bt ct us hl=>aav (p:=fun us=>bindArgs (PySem.W.fnOf x qual (av st) (au st) (ah st) .none kV doc pm an bt ct) ⟨us,[]⟩=pure (ps.zip us)) (h kV doc pm an bt ct) us (hl.trans hn)
theorem d8.fb {K:PySem.W.Frag}{x qual:Str}{st:Stmt}{f:Addr}{fd:FuncData}{ps:List Str} (F:d8 K x qual st f fd) (hn:ps.length=2) (h:∀(kV doc pm:Value) (an:Option Addr) (bt ct:Value) (a b:Value),bindArgs (PySem.W.fnOf x qual (av st) (au st) (ah st) .none kV doc pm an bt ct) ⟨[a,b],[]⟩=pure (ps.zip [a,b])):Binds K fd ps []:=
 F.binds fun kV doc pm an bt ct us hl=>R9 (p:=fun us=>bindArgs (PySem.W.fnOf x qual (av st) (au st) (ah st) .none kV doc pm an bt ct) ⟨us,[]⟩=pure (ps.zip us)) (h kV doc pm an bt ct) us (hl.trans hn)
theorem d8.jk {K:PySem.W.Frag}{x qual:Str}{st:Stmt}{f:Addr}{fd:FuncData}{ps:List Str} (F:d8 K x qual st f fd) (hn:ps.length=3) (h:∀(kV doc pm:Value) (an:Option Addr) (bt ct:Value) (a b c:Value),bindArgs (PySem.W.fnOf x qual (av st) (au st) (ah st) .none kV doc pm an bt ct) ⟨[a,b,c],[]⟩=pure (ps.zip [a,b,c])):Binds K fd ps []:=
 F.binds fun kV doc pm an bt ct us hl=>Ug (p:=fun us=>bindArgs (PySem.W.fnOf x qual (av st) (au st) (ah st) .none kV doc pm an bt ct) ⟨us,[]⟩=pure (ps.zip us)) (h kV doc pm an bt ct) us (hl.trans hn)
theorem d8.FH {K:PySem.W.Frag}{x qual:Str}{st:Stmt}{f:Addr}{fd:FuncData}{ps:List Str} (F:d8 K x qual st f fd) (hn:ps.length=4) (h:∀(kV doc pm:Value) (an:Option Addr) (bt ct:Value) (a b c d:Value),bindArgs (PySem.W.fnOf x qual (av st) (au st) (ah st) .none kV doc pm an bt ct) ⟨[a,b,c,d],[]⟩=pure (ps.zip [a,b,c,d])):Binds K fd ps []:=
 F.binds fun kV doc pm an bt ct us hl=>aas (p:=fun us=>bindArgs (PySem.W.fnOf x qual (av st) (au st) (ah st) .none kV doc pm an bt ct) ⟨us,[]⟩=pure (ps.zip us)) (h kV doc pm an bt ct) us (hl.trans hn)
theorem d8.Nj {K:PySem.W.Frag}{x qual:Str}{st:Stmt}{f:Addr}{fd:FuncData}{ps:List Str} (F:d8 K x qual st f fd) (hn:ps.length=6) (h:∀(kV doc pm:Value) (an:Option Addr) (bt ct:Value) (a b c d e f:Value),bindArgs (PySem.W.fnOf x qual (av st) (au st) (ah st) .none kV doc pm an bt ct) ⟨[a,b,c,d,e,f],[]⟩=pure (ps.zip [a,b,c,d,e,f])):Binds K fd ps []:=
 F.binds fun kV doc pm an bt ct us hl=>Tf (p:=fun us=>bindArgs (PySem.W.fnOf x qual (av st) (au st) (ah st) .none kV doc pm an bt ct) ⟨us,[]⟩=pure (ps.zip us)) (h kV doc pm an bt ct) us (hl.trans hn)
theorem aR.strs {H:Hp}{f:Nat→Str}{n:Nat}{vs:List V} (h:aR H ((List.range n).map fun k=>D.str (f k)) vs):vs=((List.range n).map f).map V.str:=by
 have:((List.range n).map fun k=>D.str (f k))=((List.range n).map f).map D.str:=by rw [List.map_map];rfl
 rw [this] at h
 exact aR.vc h
end L2
namespace L2
open PySem PySem.Spec PyProof.Rows
section
variable {X : Cx} {pins : List (Addr × Obj)} {σ : St} {H H' : Hp} {s : Shared} {h' : Heap}
theorem AN {fp:List Addr}{t':Nat} (I:Inv X pins σ H s) (k:∀b o,b∉fp→s.heap.get? b=some o→h'.get? b=some o) (hf:∀b∈fp,bR X pins H b):Inv X pins σ H {s with heap:=h',toks:=t'}:=by
 have QH:∀b u,H b=some u→b∉fp:=fun b u e z=>by
  have:=(hf b z).1
  rw [e] at this;cases this
 have MH:∀b∈fp,b≠X.env.locals:=fun b z=>(hf b z).2.1
 refine I.step (g':=s.gens) (d':=s.drawn) (ch:=fp) (fun b hb=>?_) (fun b o _ _ hc e _=>k b o hc e) (fun b o _ _ hc e _=>⟨o.slots,k b o hc e⟩) (fun _ _ _ _ n=>n) (fun b o hc e=>⟨o,k b o hc e⟩) (fun _ _ e=>e) (fun _ _ _ e=>e) (fun b ps e=>⟨#[],by rw [e];simp⟩) (fun m hm=>?_) (fun b u e=>?_) I.bare
 · obtain⟨_,f1,_,f3,f4,f5⟩:=hf b hb
   exact⟨f3,f1,f4,f5⟩
 · obtain⟨o,es,ep,ho,r⟩:=hm
   exact⟨o,es,ep,k _ o (fun z=>MH _ z rfl) ho,r⟩
 · refine (I.aO b u e).gP (fun c v hc q=>k c v ?_ q) (fun _ q=>q) fun _ _ q=>q
   rcases hc with z|z
   · rw [z];exact QH b u e
   · exact QH c _ z
theorem GA {fp:List Addr}{t':Nat}{x y:V}{u v:Value} (I:Inv X pins σ H s) (hx:RelV x u) (hy:RelV y v) (hf:∀b∈fp,bR X pins H b) (ho:∀b∈fp,∃o,s.heap.get? b=some o)
 (new:h'.get? s.heap.objs.size=some {cls:=.type "tuple",data:=.seq #[u,v]}) (k:∀b o,b∉fp→s.heap.get? b=some o→h'.get? b=some o) :
 Inv X pins σ (upd H s.heap.objs.size (.tup [x,y])) {s with heap:=h',toks:=t'}∧∀b∈fp,bR X pins (upd H s.heap.objs.size (.tup [x,y])) b:=by
 have lt:∀b∈fp,b≠s.heap.objs.size:=fun b hb=>by
  obtain⟨o,e⟩:=ho b hb
  exact Nat.ne_of_lt (Heap.lt_size e)
 have hf':∀b∈fp,bR X pins (upd H s.heap.objs.size (.tup [x,y])) b:=fun b hb=>by
  obtain⟨f0,r⟩:=hf b hb
  exact⟨by rw [aL (lt b hb)];exact f0,r⟩
 refine⟨?_,hf'⟩
 have I1:Inv X pins σ (upd H s.heap.objs.size (.tup [x,y])) {s with heap:=s.heap.push {cls:=.type "tuple",data:=.seq #[u,v]}}:=
  I.laid (t':=s.toks) (fun b o q=>Heap.get?_push_of_some _ q) (Nat.le_refl _) ⟨show 2≤sizeLine by decide,[u,v],.cons hx (.cons hy .nil),IsTup.new _ _⟩
 refine AN (s:={s with heap:=s.heap.push {cls:=.type "tuple",data:=.seq #[u,v]}}) (fp:=fp) I1 (fun b o hb e=>?_) hf'
 rcases Heap.get?_push_cases e with ⟨rfl,rfl⟩|q
 · exact new
 · exact k b o hb q
end
noncomputable def Ite (a:Addr):It:=⟨fun i H=>∃xs x,H a=some (.lst xs)∧xs[i]? = some x,
 fun i H x H'=>∃T y,x = .ref T∧H T=none∧H'=upd H T (.tup [.int (i:Int),y])∧∀ys,H a=some (.lst ys)→ys[i]? = some y,
 fun i H=>∃xs,H a=some (.lst xs)∧xs.length≤i⟩
noncomputable def KP (x:V) (H:Hp) (R:It→Hp→Prop):Prop:=∃a,x = .ref a∧(∃xs,H a=some (.lst xs))∧R (Ite a) H
theorem KP.DF {a:Addr}{xs:List V}{g:TG}{tb:TS}{D:Ends}{σ:St}{H:Hp} (e:H a=some (.lst xs)) (Pv:Nat→St→Hp→Prop) (h0:Pv 0 σ H) (hl:∀i σ H,i≤xs.length→Pv i σ H→H a=some (.lst xs))
 (hs:∀i x σ H T H',xs[i]? = some x→Pv i σ H→ay H H'→H T=none→H' T=some (.tup [.int (i:Int),x])→g (.ref T) σ H' fun σ2 H2=>tb {D with nx:=Pv (i+1),ct:=Pv (i+1),bk:=D.nx} σ2 H2) (hd:∀σ H,Pv xs.length σ H→D.nx σ H):KP (.ref a) H fun J H1=>Ad J g tb D σ H1:=by
 refine⟨a,rfl,⟨xs,e⟩,fun i m σ H=>i+m=xs.length∧Pv i σ H,⟨xs.length,by simp,h0⟩,fun i m σ H h=>?_⟩
 obtain⟨h1,h2⟩:=h
 have ea:=hl i σ H (by omega) h2
 by_cases c:m=0
 · subst c
   have:i=xs.length:=by omega
   subst this
   exact .inl ⟨⟨xs,ea,Nat.le_refl _⟩,hd σ H h2⟩
 · have hi:i<xs.length:=by omega
   refine .inr ⟨⟨xs,_,ea,List.getElem?_eq_getElem hi⟩,Pv (i+1),fun σ' H' q=>⟨m - 1,by omega,by omega,q⟩,fun x H' y=>?_⟩
   obtain⟨T,z,rfl,nT,rfl,hz⟩:=y
   exact hs i z σ H T _ (hz xs ea) h2 (bP nT _) nT aT
noncomputable def Itz (a b:Addr):It:=⟨fun i H=>∃xs ys x y,H a=some (.lst xs)∧H b=some (.lst ys)∧xs[i]? = some x∧ys[i]? = some y,
 fun i H x H'=>∃T y z,x = .ref T∧H T=none∧H'=upd H T (.tup [y,z])∧(∀ys,H a=some (.lst ys)→ys[i]? = some y)∧∀ys,H b=some (.lst ys)→ys[i]? = some z,
 fun i H=>∃xs ys,H a=some (.lst xs)∧H b=some (.lst ys)∧(xs.length≤i∨ys.length≤i)⟩
structure Ag (z TI TO i1 i2:Addr):Prop where
 a:TI≠z
 b:TO≠z
 c:i1≠z
 d:i2≠z
 e:TI≠TO
 f:TI≠i1
 g:TI≠i2
 h:TO≠i1
 i:TO≠i2
 j:i1≠i2
theorem ne5 (n:Nat):Ag (n+4) (n+2) (n+3) n (n+1):=by
 constructor<;>(intro z;have z' : @Eq Nat _ _:=z;omega)
noncomputable def JH (x y:V) (H:Hp) (R:It→Hp→Prop):Prop:=∃a b,x = .ref a∧y = .ref b∧(∃xs,H a=some (.lst xs))∧(∃xs,H b=some (.lst xs))∧R (Itz a b) H
theorem boot_zip:bootBuiltins "zip"=some (.type "zip"):=by decide +kernel
theorem JH.DF {a b:Addr}{xs ys:List V}{g:TG}{tb:TS}{D:Ends}{σ:St}{H:Hp} (e:H a=some (.lst xs)) (e2:H b=some (.lst ys)) (vI:xs.length=ys.length) (Pv:Nat→St→Hp→Prop) (h0:Pv 0 σ H) (hl:∀i σ H,i≤xs.length→Pv i σ H→H a=some (.lst xs)∧H b=some (.lst ys))
 (hs:∀i x y σ H T H',xs[i]? = some x→ys[i]? = some y→Pv i σ H→ay H H'→H T=none→H' T=some (.tup [x,y])→g (.ref T) σ H' fun σ2 H2=>tb {D with nx:=Pv (i+1),ct:=Pv (i+1),bk:=D.nx} σ2 H2) (hd:∀σ H,Pv xs.length σ H→D.nx σ H):JH (.ref a) (.ref b) H fun J H1=>Ad J g tb D σ H1:=by
 refine⟨a,b,rfl,rfl,⟨xs,e⟩,⟨ys,e2⟩,fun i m σ H=>i+m=xs.length∧Pv i σ H,⟨xs.length,by simp,h0⟩,fun i m σ H h=>?_⟩
 obtain⟨h1,h2⟩:=h
 obtain⟨ea,eb⟩:=hl i σ H (by omega) h2
 by_cases c:m=0
 · subst c
   have:i=xs.length:=by omega
   subst this
   exact .inl ⟨⟨xs,ys,ea,eb,.inl (Nat.le_refl _)⟩,hd σ H h2⟩
 · have hi:i<xs.length:=by omega
   refine .inr ⟨⟨xs,ys,_,_,ea,eb,List.getElem?_eq_getElem hi,List.getElem?_eq_getElem (by omega)⟩,Pv (i+1),fun σ' H' q=>⟨m - 1,by omega,by omega,q⟩,fun x H' y=>?_⟩
   obtain⟨T,z1,z2,rfl,nT,rfl,nW,pO⟩:=y
   exact hs i z1 z2 σ H T _ (nW xs ea) (pO ys eb) h2 (bP nT _) nT aT
end L2
namespace L2
open PySem PySem.Spec PyProof.Rows
noncomputable abbrev bits (x:Int):Nat:=Builtin.Int.intBits x
noncomputable def DB (H:Hp) (p:Addr) (LS:Str→Int) (ok:Str→Prop):Prop:=∃aK:List (Key×V),H p=some (.dK aK)∧∀x,ok x→dc aK (.inr x)=some (.int (LS x))
noncomputable abbrev HS:=Int×Int×Int×Int
noncomputable def JY (q:HS):List V:=[.int q.1,.int q.2.1,.int q.2.2.1,.int q.2.2.2]
noncomputable def xc (H:Hp) (p:Addr) (zK:Str→HS) (ok:Str→Prop):Prop:=∃aK:List (Key×V),H p=some (.dK aK)∧∀f,ok f→∃a,dc aK (.inr f)=some (.ref a)∧H a=some (.tup (JY (zK f)))
theorem DB.same {H H':Hp}{p:Addr}{LS:Str→Int}{ok:Str→Prop} (h:DB H p LS ok) (S:ay H H'):DB H' p LS ok:=by
 obtain⟨aK,e,q⟩:=h
 exact⟨aK,S _ _ e,q⟩
theorem xc.same {H H':Hp}{p:Addr}{zK:Str→HS}{ok:Str→Prop} (h:xc H p zK ok) (S:ay H H'):xc H' p zK ok:=by
 obtain⟨aK,e,q⟩:=h
 exact⟨aK,S _ _ e,fun f hf=>let ⟨a,h1,h2⟩:=q f hf;⟨a,h1,S _ _ h2⟩⟩
theorem DB.get {H:Hp}{p:Addr}{LS:Str→Int}{ok:Str→Prop}{x:Str} (h:DB H p LS ok) (hx:ok x):tN H p (.str x) (some (.int (LS x))):=by
 obtain⟨aK,e,q⟩:=h
 exact .inl ⟨aK,.inr x,Rd.of e,rfl,(q x hx).symm⟩
theorem xc.get {H:Hp}{p:Addr}{zK:Str→HS}{ok:Str→Prop}{f:Str} (h:xc H p zK ok) (hf:ok f):∃a,tN H p (.str f) (some (.ref a))∧H a=some (.tup (JY (zK f))):=by
 obtain⟨aK,e,q⟩:=h
 obtain⟨a,h1,h2⟩:=q f hf
 exact⟨a,.inl ⟨aK,.inr f,Rd.of e,rfl,h1.symm⟩,h2⟩
end L2
namespace L2
open PySem PySem.Spec PyProof.Rows
section
variable {X : Cx} {tg : Expr}
end
section
variable {X : Cx}
noncomputable def isInt (m:Int):Value→Bool | .int i _=>i==m|_=>false
end
theorem aR.snoc {H:Hp}{ds:List D}{d:D}{us:List V}{v:V} (h:aR H ds us) (g:Dt H d v):aR H (ds++[d]) (us++[v]):=h.append (.one g)
theorem Za {X:Cx}{K:PySem.W.Frag}{tg l:Expr}{tl:TE} (h:X.K=K) (hl:PE X l tl):PI X tg l (iT K tl):=h▸RF hl
section
variable {X : Cx}
end
end L2
namespace L2
open PySem PySem.Spec PyProof.Rows
section
variable {X : Cx} {tg : Expr}
end
end L2
namespace L2
open PySem PySem.Spec PyProof.Rows
end L2
namespace L2
open PySem PySem.Spec PyProof.Rows
open PySem.W (hideAll hideAll_get hideAll_none of_hideAll funFrames_hide fresh_of_stays flyingW_base)
section
variable {X : Cx} {pins pn : List (Addr × Obj)} {σ : St} {H : Hp} {s : Shared} {E : XK}
end
end L2
namespace L2
open PySem PySem.Spec PyProof.Rows
section
variable {prog : Program} {w : World} {A : Around} {E : Value→Shared→Prop} {s : Shared}
theorem zI {j l:Addr}{i:Nat}{aq}{x:Value}{Q:Value→Shared→Prop} (t1:s.heap.IsTupleIter j l i) (t2:s.heap.IsTuple l aq) (ex:aq[i]? = some x)
 (q:∀h',h'.IsTupleIter j l (i+1)→Heap.SameBut j s.heap h'→Q x {s with heap:=h'}):wpAny (model prog w) A (Builtin.SmallTypes.nextOf (.ref j)) Q E s:=by
 obtain⟨ob,g,gc,gd⟩:=id t1
 obtain⟨ol,gl,_,nl,dl⟩:=t2
 unfold Builtin.SmallTypes.nextOf
 refine wpAny_bind (wpAny_callSpecial?_slot (name:=Str.ofString "__next__") t1.typeIs F.slot_tuple_iterator_next (wpAny_call_entry F.slot_tuple_iterator_next t1.typeIs F.entry_tuple_iterator_next ?_ (F.args_tuple_iterator_next_1 _)))
 show wpAny _ _ (field (.ref j) 0 >>= _) _ _ s
 refine wpAny_bind (wpAny_field g gd (x:=.ref l) rfl ?_);rw [if_neg (show ¬((Value.ref l==Value.none)=true) from Bool.false_ne_true)]
 show wpAny _ _ (field (.ref j) 1 >>= _) _ _ s
 refine wpAny_bind (wpAny_field g gd (x:=.int i 0) rfl (show wpAny _ _ (seqItems? (.ref l) >>= _) _ _ s from wpAny_bind (wpAny_seqItems gl dl ?_)))
 simp only [ex,Int.toNat_natCast]
 refine wpAny_bind (wpAny_setField g gd (by simp) (wpAny_pure ⟨x,rfl,wpAny_pure (q _ ⟨_,Heap.get?_update_self _ g (Obj.isFreed_of_fields (Obj.data_mapFields gd _)),(Obj.cls_mapFields ..).trans gc,?_⟩ (Heap.SameBut.update ..))⟩))
 rw [Obj.data_mapFields gd];simp [rawInt]
theorem sS {j l:Addr}{i:Nat}{aq}{Q:Value→Shared→Prop} (nh:A.handled=none) (t1:s.heap.IsTupleIter j l i) (t2:s.heap.IsTuple l aq) (ex:aq[i]? = none)
 (q:∀h' e,Heap.ExtBut j s.heap h'→(∃o,h'.get? e=some o∧o.cls = .type "StopIteration")→E (.ref e) {s with heap:=h'}):wpAny (model prog w) A (Builtin.SmallTypes.nextOf (.ref j)) Q E s:=by
 obtain⟨ob,g,gc,gd⟩:=id t1
 obtain⟨ol,gl,_,nl,dl⟩:=t2
 unfold Builtin.SmallTypes.nextOf
 refine wpAny_bind (wpAny_callSpecial?_slot (name:=Str.ofString "__next__") t1.typeIs F.slot_tuple_iterator_next (wpAny_call_entry F.slot_tuple_iterator_next t1.typeIs F.entry_tuple_iterator_next ?_ (F.args_tuple_iterator_next_1 _)))
 show wpAny _ _ (field (.ref j) 0 >>= _) _ _ s
 refine wpAny_bind (wpAny_field g gd (x:=.ref l) rfl ?_);rw [if_neg (show ¬((Value.ref l==Value.none)=true) from Bool.false_ne_true)]
 show wpAny _ _ (field (.ref j) 1 >>= _) _ _ s
 refine wpAny_bind (wpAny_field g gd (x:=.int i 0) rfl (show wpAny _ _ (seqItems? (.ref l) >>= _) _ _ s from wpAny_bind (wpAny_seqItems gl dl ?_)))
 simp only [ex,Int.toNat_natCast]
 refine wpAny_bind (wpAny_rule (wpAny_bind (wpAny_setField g gd (by simp) (show wpAny _ _ (newExc (.type "StopIteration") [] >>= _) _ _ _ from wpAny_bind ?_))))
 simp only [newTuple,newExc]
 refine wpAny_bind (wpAny_newObj_type (wpAny_bind (m:=firstArgMember _ _) (wpAny_of_eq (a:=Value.none) (by first|rfl|(simp only [firstArgMember];rfl)) (wpAny_newObj_type ?_ (by size_fits)))) (by size_fits))
 unfold raiseNew
 refine wpAny_bind (wpAny_handled (by (first|rw [show A.in1.handled=none from nh]|rw [nh]);exact wpAny_bind (wpAny_pure (wpAny_throw (q _ _ (((Heap.SameBut.update ..).extBut.push _).push _) ⟨_,Heap.get?_push_size _ rfl,rfl⟩)))))
end
theorem Ly {prog:Program}{w:World}{A:Around} (nh:A.handled=none) (j l:Addr) (ne:l≠j) (aq:Array Value) :
 Draws prog w A j [j,l] aq.size (fun i v=>aq[i]? = some v) (fun i h=>h.IsTupleIter j l i∧h.IsTuple l aq) where
 live:=fun _ _ st=>let ⟨o,q,_⟩:=st.1;⟨o,q⟩
 frame:=fun _ _ _ st k=>⟨st.1.at fun o e=>k j (by simp) o e,let ⟨o,q,r⟩:=st.2;⟨o,k l (by simp) o q,r⟩⟩
 item:=fun i s Q E hi st q=>zI st.1 st.2 (x:=aq[i]) (by simp [hi]) fun h' a b=>q _ h' s.toks (by simp [hi]) ⟨a,st.2.extBut b.extBut ne⟩ b
 done:=fun s Q E st q=>sS nh st.1 st.2 (by simp) q
theorem Draws.map {prog:Program}{w:World}{A:Around}{j:Addr}{fp:List Addr}{n:Nat}{P P':Nat→Value→Prop}{St:Nat→Heap→Prop} (D:Draws prog w A j fp n P St) (h:∀i v,P i v→P' i v):Draws prog w A j fp n P' St where
 live:=D.live
 frame:=D.frame
 item:=fun i s Q E hi st q=>D.item i s Q E hi st fun x h' tk p=>q x h' tk (h _ _ p)
 done:=D.done
structure ox (z TI TO i1 i2:Addr) (f1 f2:List Addr):Prop where
 own:Ag z TI TO i1 i2
 m1:i1∈f1
 m2:i2∈f2
 z1:z∉f1
 z2:z∉f2
 t1:TO∉f1
 t2:TO∉f2
 x1:i2∉f1
 x2:i1∉f2
section
variable {prog : Program} {w : World} {A : Around} {E : Value→Shared→Prop} {s : Shared} {z TI TO i1 i2 : Addr} {f1 f2 : List Addr} {n1 n2 k : Nat} {P1 P2 : Nat→Value→Prop} {S1 S2 : Nat→Heap→Prop} {a b : Value}
theorem fr_but {h h':Heap}{c:Addr}{f:List Addr} (e:Heap.ExtBut c h h') (n:c∉f):∀b∈f,∀o,h.get? b=some o→h'.get? b=some o:=fun b hb o q=>e b o (fun y=>n (y▸hb)) q
theorem Df {Q:Value→Shared→Prop} (ap:ox z TI TO i1 i2 f1 f2) (D1:Draws prog w A i1 f1 n1 P1 S1) (D2:Draws prog w A i2 f2 n2 P2 S2) (qz:IsZip s.heap z TI TO .none) (qI:IsPair s.heap TI (.ref i1) (.ref i2)) (qO:IsPair s.heap TO a b)
 (pK:S1 k s.heap) (jI:S2 k s.heap) (l1:k<n1) (l2:k<n2)
 (q:∀h' tk x y,P1 k x→P2 k y→IsZip h' z TI TO (rawInt s.heap.objs.size)→IsPair h' TO x y→S1 (k+1) h'→S2 (k+1) h'→IsPair h' s.heap.objs.size x y→
   (∀c o,c≠z→c≠TO→c≠i1→c≠i2→s.heap.get? c=some o→h'.get? c=some o)→Q (.ref s.heap.objs.size) {s with heap:=h',toks:=tk}) :
 wpAny (model prog w) A (Builtin.«zip.__next__» ⟨[.ref z],[]⟩) (fun fin s'=>∃v,fin = .done (.ret v)∧Q v s') E s:=by
 show wpAny _ _ (field (.ref z) 2 >>= _) _ _ _
 refine wpAny_bind (wpAny_field qz rfl (x:=.bool false) rfl (show wpAny _ _ (field (.ref z) 3 >>= _) _ _ _ from wpAny_bind (wpAny_field qz rfl (x:=.ref TI) rfl (wpAny_bind (wpAny_seqItems qI rfl ?_)))))
 show wpAny _ _ (Builtin.SmallTypes.ownedTupleIsFree (.ref z) >>= _) _ _ _
 unfold Builtin.SmallTypes.ownedTupleIsFree
 refine wpAny_bind (wpAny_bind (wpAny_field qz rfl (x:=.none) rfl (wpAny_pure ?_)))
 rw [if_pos rfl]
 refine wpAny_bind (wpAny_rule (wpAny_bind (wpAny_field qz rfl (x:=.ref TO) rfl (wpAny_bind (wpAny_setField_rec qz (by simp) fun h₁ z₁ b₁=>wpAny_bind ?_)))))
 replace z₁:IsZip h₁ z TI TO .ellipsis:=z₁
 simp only [List.forIn_nil,List.forIn_cons,List.zipIdx_nil,List.zipIdx_cons]
 refine wpAny_bind (wpAny_bind (wpAny_onRaise (show wpAny _ _ (Builtin.SmallTypes.nextOf (.ref i1) >>= _) _ _ _ from wpAny_bind (D1.item k _ _ _ l1 (D1.frame _ _ _ pK (fr_but b₁.extBut ap.z1)) fun x h₂ t₂ px s1 b₂=>wpAny_pure ?_))))
 have O₂:IsPair h₂ TO a b:=b₂.extBut _ _ ap.own.h (b₁.extBut _ _ ap.own.b qO)
 refine wpAny_bind (wpAny_seqItems O₂ rfl (wpAny_bind (wpAny_updateSeq_pair O₂ fun h₃ O₃ b₃=>wpAny_bind (wpAny_letGo (wpAny_pure ?_)))))
 replace O₃:IsPair h₃ TO x b:=O₃
 have Na:S2 k h₃:=D2.frame _ _ _ (D2.frame _ _ _ (D2.frame _ _ _ jI (fr_but b₁.extBut ap.z2)) (fr_but b₂.extBut ap.x2)) (fr_but b₃.extBut ap.t2)
 refine wpAny_bind (wpAny_bind (wpAny_onRaise (show wpAny _ _ (Builtin.SmallTypes.nextOf (.ref i2) >>= _) _ _ _ from wpAny_bind (D2.item k _ _ _ l2 Na fun y h₄ t₄ py s2 b₄=>wpAny_pure ?_))))
 have O₄:IsPair h₄ TO x b:=b₄.extBut _ _ ap.own.i O₃
 refine wpAny_bind (wpAny_seqItems O₄ rfl (wpAny_bind (wpAny_updateSeq_pair O₄ fun h₅ O₅ b₅=>wpAny_bind (wpAny_letGo (wpAny_pure (wpAny_pure ?_))))))
 replace O₅:IsPair h₅ TO x y:=O₅
 refine wpAny_bind (wpAny_seqItems O₅ rfl (wpAny_bind (wpAny_newTuple ?_)))
 have sz:h₅.objs.size=s.heap.objs.size:=by rw [b₅.1,b₄.1,b₃.1,b₂.1,b₁.1]
 have z₅:IsZip h₅ z TI TO .ellipsis:=b₅.extBut _ _ ap.own.b.symm (b₄.extBut _ _ ap.own.d.symm (b₃.extBut _ _ ap.own.b.symm (b₂.extBut _ _ ap.own.c.symm z₁)))
 have k₅:∀c o,c≠z→c≠TO→c≠i1→c≠i2→s.heap.get? c=some o→h₅.get? c=some o:=fun c o c1 c2 c3 c4 e=>b₅.extBut _ _ c2 (b₄.extBut _ _ c4 (b₃.extBut _ _ c2 (b₂.extBut _ _ c3 (b₁.extBut _ _ c1 e))))
 have e1:S1 (k+1) h₅:=D1.frame _ _ _ (D1.frame _ _ _ (D1.frame _ _ _ s1 (fr_but b₃.extBut ap.t1)) (fr_but b₄.extBut ap.x1)) (fr_but b₅.extBut ap.t1)
 have e2:S2 (k+1) h₅:=D2.frame _ _ _ s2 (fr_but b₅.extBut ap.t2)
 have zl:z<h₅.objs.size:=Heap.lt_size z₅
 show wpAny _ _ (Builtin.SmallTypes.ownedTupleHandOut (.ref z) (.ref h₅.objs.size) >>= _) _ _ _
 unfold Builtin.SmallTypes.ownedTupleHandOut
 refine wpAny_bind (wpAny_bind (wpAny_setField_rec (show IsZip (h₅.push {cls:=.type "tuple",data:=.seq #[x,y]}) z TI TO .ellipsis from Heap.get?_push_of_some _ z₅) (by simp) fun h₇ z₇ b₇=>?_))
 replace z₇:IsZip h₇ z TI TO (rawInt h₅.objs.size):=z₇
 refine wpAny_setField_rec z₇ (by simp) fun h₈ z₈ b₈=>wpAny_pure ⟨_,rfl,?_⟩
 replace z₈:IsZip h₈ z TI TO (rawInt h₅.objs.size):=z₈
 have up:∀c o,c≠z→h₅.get? c=some o→h₈.get? c=some o:=fun c o c1 e=>b₈.extBut _ _ c1 (b₇.extBut _ _ c1 (Heap.get?_push_of_some _ e))
 have T₈:IsPair h₈ h₅.objs.size x y:=b₈.extBut _ _ (Nat.ne_of_gt zl) (b₇.extBut _ _ (Nat.ne_of_gt zl) (Heap.get?_push_size _ rfl))
 rw [sz] at z₈ T₈
 show Q (.ref h₅.objs.size) _
 rw [sz]
 exact q h₈ _ x y px py z₈ (up _ _ ap.own.b O₅) (D1.frame _ _ _ e1 fun c hc o e=>up c o (fun y=>ap.z1 (y▸hc)) e) (D2.frame _ _ _ e2 fun c hc o e=>up c o (fun y=>ap.z2 (y▸hc)) e) T₈ fun c o c1 c2 c3 c4 e=>up c o c1 (k₅ c o c1 c2 c3 c4 e)
theorem DU {Q:Fin→Shared→Prop} (ap:ox z TI TO i1 i2 f1 f2) (D1:Draws prog w A i1 f1 n1 P1 S1) (D2:Draws prog w A i2 f2 n2 P2 S2) (qz:IsZip s.heap z TI TO .none) (qI:IsPair s.heap TI (.ref i1) (.ref i2)) (qO:IsPair s.heap TO a b)
 (pK:S1 k s.heap) (jI:S2 k s.heap) (fin:n1=k∨k<n1∧n2=k)
 (q:∀h' tk e,(∀c o,c≠z→c≠TO→c≠i1→c≠i2→s.heap.get? c=some o→h'.get? c=some o)→(∃o,h'.get? e=some o∧o.cls = .type "StopIteration")→E (.ref e) {s with heap:=h',toks:=tk}) :
 wpAny (model prog w) A (Builtin.«zip.__next__» ⟨[.ref z],[]⟩) Q E s:=by
 show wpAny _ _ (field (.ref z) 2 >>= _) _ _ _
 refine wpAny_bind (wpAny_field qz rfl (x:=.bool false) rfl (show wpAny _ _ (field (.ref z) 3 >>= _) _ _ _ from wpAny_bind (wpAny_field qz rfl (x:=.ref TI) rfl (wpAny_bind (wpAny_seqItems qI rfl ?_)))))
 show wpAny _ _ (Builtin.SmallTypes.ownedTupleIsFree (.ref z) >>= _) _ _ _
 unfold Builtin.SmallTypes.ownedTupleIsFree
 refine wpAny_bind (wpAny_bind (wpAny_field qz rfl (x:=.none) rfl (wpAny_pure ?_)))
 rw [if_pos rfl]
 refine wpAny_bind (wpAny_rule (wpAny_bind (wpAny_field qz rfl (x:=.ref TO) rfl (wpAny_bind (wpAny_setField_rec qz (by simp) fun h₁ z₁ b₁=>wpAny_bind ?_)))))
 replace z₁:IsZip h₁ z TI TO .ellipsis:=z₁
 simp only [List.forIn_nil,List.forIn_cons,List.zipIdx_nil,List.zipIdx_cons]
 have O7:S1 k h₁:=D1.frame _ _ _ pK (fr_but b₁.extBut ap.z1)
 rcases fin with rfl|⟨l1,rfl⟩
 · refine wpAny_bind (wpAny_bind (wpAny_onRaise (show wpAny _ _ (Builtin.SmallTypes.nextOf (.ref i1) >>= _) _ _ _ from wpAny_bind (D1.done _ _ _ O7 fun h₂ e b₂ he=>?_))))
   obtain⟨oe,g1,g2⟩:=he
   have z₂:IsZip h₂ z TI TO .ellipsis:=b₂ _ _ ap.own.c.symm z₁
   have ne:e≠z:=fun y=>by rw [y,z₂] at g1;cases g1;simp at g2
   exact wpAny_setField_rec z₂ (by simp) fun h₃ _ b₃=>q h₃ s.toks e (fun c o c1 _ c3 _ y=>b₃.extBut _ _ c1 (b₂ _ _ c3 (b₁.extBut _ _ c1 y))) ⟨oe,b₃.extBut _ _ ne g1,g2⟩
 · refine wpAny_bind (wpAny_bind (wpAny_onRaise (show wpAny _ _ (Builtin.SmallTypes.nextOf (.ref i1) >>= _) _ _ _ from wpAny_bind (D1.item n2 _ _ _ l1 O7 fun x h₂ t₂ px s1 b₂=>wpAny_pure ?_))))
   have O₂:IsPair h₂ TO a b:=b₂.extBut _ _ ap.own.h (b₁.extBut _ _ ap.own.b qO)
   refine wpAny_bind (wpAny_seqItems O₂ rfl (wpAny_bind (wpAny_updateSeq_pair O₂ fun h₃ O₃ b₃=>wpAny_bind (wpAny_letGo (wpAny_pure ?_)))))
   have Na:S2 n2 h₃:=D2.frame _ _ _ (D2.frame _ _ _ (D2.frame _ _ _ jI (fr_but b₁.extBut ap.z2)) (fr_but b₂.extBut ap.x2)) (fr_but b₃.extBut ap.t2)
   refine wpAny_bind (wpAny_bind (wpAny_onRaise (show wpAny _ _ (Builtin.SmallTypes.nextOf (.ref i2) >>= _) _ _ _ from wpAny_bind (D2.done _ _ _ Na fun h₄ e b₄ he=>?_))))
   obtain⟨oe,g1,g2⟩:=he
   have z₄:IsZip h₄ z TI TO .ellipsis:=b₄ _ _ ap.own.d.symm (b₃.extBut _ _ ap.own.b.symm (b₂.extBut _ _ ap.own.c.symm z₁))
   have ne:e≠z:=fun y=>by rw [y,z₄] at g1;cases g1;simp at g2
   exact wpAny_setField_rec z₄ (by simp) fun h₅ _ b₅=>q h₅ _ e (fun c o c1 c2 c3 c4 y=>b₅.extBut _ _ c1 (b₄ _ _ c4 (b₃.extBut _ _ c2 (b₂.extBut _ _ c3 (b₁.extBut _ _ c1 y))))) ⟨oe,b₅.extBut _ _ ne g1,g2⟩
theorem yE {Q:Option Value→Shared→Prop} (ap:ox z TI TO i1 i2 f1 f2) (D1:Draws prog w A.in1 i1 f1 n1 P1 S1) (D2:Draws prog w A.in1 i2 f2 n2 P2 S2) (qz:IsZip s.heap z TI TO .none) (qI:IsPair s.heap TI (.ref i1) (.ref i2)) (qO:IsPair s.heap TO a b)
 (pK:S1 k s.heap) (jI:S2 k s.heap) (l1:k<n1) (l2:k<n2)
 (q:∀h' tk x y,P1 k x→P2 k y→IsZip h' z TI TO (rawInt s.heap.objs.size)→IsPair h' TO x y→S1 (k+1) h'→S2 (k+1) h'→IsPair h' s.heap.objs.size x y→
   (∀c o,c≠z→c≠TO→c≠i1→c≠i2→s.heap.get? c=some o→h'.get? c=some o)→Q (some (.ref s.heap.objs.size)) {s with heap:=h',toks:=tk}) :
 wpAny (model prog w) A (pyNext (.ref z)) Q E s:=by
 have ht:s.TypeIs (.ref z) "zip":=⟨_,qz,rfl⟩
 unfold pyNext
 exact wpAny_bind (wpAny_attempt (wpAny_callSpecial?_slot (name:=Str.ofString "__next__") ht F.slot_zip_next (wpAny_call_entry F.slot_zip_next ht F.entry_zip_next (Df ap D1 D2 qz qI qO pK jI l1 l2 fun h' tk x y p1 p2 a1 a2 a3 a4 a5 a6=>wpAny_pure (q h' tk x y p1 p2 a1 a2 a3 a4 a5 a6)) (F.args_zip_next_1 _))))
theorem qG {Q:Option Value→Shared→Prop} (ap:ox z TI TO i1 i2 f1 f2) (D1:Draws prog w A.in1 i1 f1 n1 P1 S1) (D2:Draws prog w A.in1 i2 f2 n2 P2 S2) (qz:IsZip s.heap z TI TO .none) (qI:IsPair s.heap TI (.ref i1) (.ref i2)) (qO:IsPair s.heap TO a b)
 (pK:S1 k s.heap) (jI:S2 k s.heap) (fin:n1=k∨k<n1∧n2=k)
 (q:∀h' tk,(∀c o,c≠z→c≠TO→c≠i1→c≠i2→s.heap.get? c=some o→h'.get? c=some o)→Q none {s with heap:=h',toks:=tk}):wpAny (model prog w) A (pyNext (.ref z)) Q E s:=by
 have ht:s.TypeIs (.ref z) "zip":=⟨_,qz,rfl⟩
 unfold pyNext
 refine wpAny_bind (wpAny_attempt (wpAny_callSpecial?_slot (name:=Str.ofString "__next__") ht F.slot_zip_next (wpAny_call_entry F.slot_zip_next ht F.entry_zip_next (DU ap D1 D2 qz qI qO pK jI fin fun h' tk e hk he=>?_) (F.args_zip_next_1 _))))
 obtain⟨o,g1,g2⟩:=he
 exact wpAny_bind (wpAny_isInstance (T:="StopIteration") (b:=true) ⟨o,g1,g2⟩ isSubtype_stop (wpAny_pure (q _ tk hk)))
end
inductive Kd where
 | l (a:Addr)
 | t (a:Addr)
 | s (x:Str)
noncomputable def Kd.v:Kd→V
 | .l a=>.ref a
 | .t a=>.ref a
 | .s x=>.str x
noncomputable def vM (x:Str):List V:=x.cps.toList.map fun c=>V.str ⟨#[c]⟩
noncomputable def Kd.has (K:PySem.W.Frag) (H:Hp):Kd→List V→Prop
 | .l a,xs=>fD K H a xs
 | .t a,xs=>jr K H a xs
 | .s x,xs=>xs=vM x
noncomputable def Kd.it (j:Addr) (i:Nat) (h:Heap):Kd→Prop
 | .l a=>h.IsListIter j a i
 | .t a=>h.IsTupleIter j a i
 | .s x=>∃t,h.IsStrIter j (strIterType x) x t i
theorem Kd.Bu {j:Addr}{i:Nat}{h h':Heap} (p:Kd) (x:p.it j i h) (e:∀o,h.get? j=some o→h'.get? j=some o):p.it j i h':=by
 cases p with
 | l a=>exact Heap.IsListIter.at x e
 | t a=>exact Heap.IsTupleIter.at x e
 | s z=>obtain⟨t,o,q,r⟩:=x;exact⟨t,o,e o q,r⟩
theorem Kd.vp {j:Addr}{i:Nat}{h:Heap} (p:Kd) (x:p.it j i h):∃o,h.get? j=some o∧∀v,o.data ≠ .cell v:=by
 cases p with
 | l a=>obtain⟨o,q,_,d⟩:=x;exact⟨o,q,fun v z=>by rw [d] at z;cases z⟩
 | t a=>obtain⟨o,q,_,d⟩:=x;exact⟨o,q,fun v z=>by rw [d] at z;cases z⟩
 | s z=>obtain⟨t,o,q,_,d⟩:=x;exact⟨o,q,fun v z=>by rw [d] at z;cases z⟩
theorem OH {X:Cx}{pins:List (Addr×Obj)}{σ:St}{H:Hp}{s:Shared}{a b:Addr}{o:Obj} (I:Inv X pins σ H s) (hk:X.K.lookup a=some o) (f:bR X pins H b):a≠b:=fun e=>by
 subst e
 have hb:=I.ok.mod.NP a o hk
 rcases f.2.2.2.1 with z|z
 · exact I.ok.sy a o hb z
 · exact absurd (Nat.lt_of_lt_of_le (Heap.lt_size hb) (Nat.le_trans I.ok.Ah z)) (Nat.lt_irrefl _)
theorem Kt {X:Cx}{pins:List (Addr×Obj)}{H:Hp}{a b:Addr}{u:HO} (r:Rd H a u) (f:bR X pins H b):a≠b:=fun e=>by
 have:=f.1
 rcases r with r|⟨o,r⟩<;>(rw [e,this] at r;cases r)
theorem Kd.draws {X:Cx}{pins:List (Addr×Obj)}{σ:St}{H:Hp}{s:Shared}{j:Addr}{xs:List V} (p:Kd) (I:Inv X pins σ H s) (hc:X.calm=true) (hp:p.has X.K H xs) (fj:bR X pins H j) {i0:Nat} (st:p.it j i0 s.heap) :
 ∃fp P S,Draws X.prog X.w X.A.in1 j fp xs.length P S∧S i0 s.heap∧(∀i h',S i h'→p.it j i h')∧(∀i v,P i v→∃x,xs[i]? = some x∧RelV x v)∧j∈fp∧∀b,bR X pins H b→b≠j→b∉fp:=by
 have nh:X.A.in1.handled=none:=I.ok.hd hc
 cases p with
 | l a=>
  obtain⟨aq,rv,pl,hz⟩:=I.list hp
  have MH:∀b,bR X pins H b→a≠b:=fun b f=>by
   rcases hp with r|⟨o,_,_,hk,_⟩
   · exact Kt r f
   · exact OH I hk f
  have e:aq.toArray.size=xs.length:=by rw [List.size_toArray];exact rv.length.symm
  refine⟨[j,a],_,_,e▸Draws.list nh j a (MH j fj) aq.toArray,⟨st,pl.isList⟩,fun i h' h=>h.1,fun i v h=>?_,by simp,fun b f nb hb=>?_⟩
  · have h:aq[i]? = some v:=by simpa using h
    have hi:i<xs.length:=by have:=(List.getElem?_eq_some_iff.mp h).1;rw [rv.length];exact this
    obtain⟨u,hu,ru⟩:=rv.get (List.getElem?_eq_getElem hi)
    rw [h] at hu;cases hu
    exact⟨_,List.getElem?_eq_getElem hi,ru⟩
  · simp only [List.mem_cons,List.not_mem_nil,or_false] at hb
    rcases hb with hb|hb
    · exact nb hb
    · exact MH b f hb.symm
 | t a=>
  obtain⟨aq,rv,pl,hz⟩:=I.tuple hp
  have MH:∀b,bR X pins H b→a≠b:=fun b f=>by
   rcases hp with r|⟨o,_,_,hk,_⟩
   · exact Kt r f
   · exact OH I hk f
  have e:aq.toArray.size=xs.length:=by rw [List.size_toArray];exact rv.length.symm
  refine⟨[j,a],_,_,e▸Ly nh j a (MH j fj) aq.toArray,⟨st,pl⟩,fun i h' h=>h.1,fun i v h=>?_,by simp,fun b f nb hb=>?_⟩
  · have h:aq[i]? = some v:=by simpa using h
    have hi:i<xs.length:=by have:=(List.getElem?_eq_some_iff.mp h).1;rw [rv.length];exact this
    obtain⟨u,hu,ru⟩:=rv.get (List.getElem?_eq_getElem hi)
    rw [h] at hu;cases hu
    exact⟨_,List.getElem?_eq_getElem hi,ru⟩
  · simp only [List.mem_cons,List.not_mem_nil,or_false] at hb
    rcases hb with hb|hb
    · exact nb hb
    · exact MH b f hb.symm
 | s z=>
  have hp:xs=vM z:=hp
  have e:z.cps.size=xs.length:=by rw [hp];simp [vM]
  have pt:∀(i:Nat) (v:Value),(∃(c:Nat) (u:Tok),z.cps[i]? = some c∧v=Value.str ⟨#[c]⟩ u)→∃x,xs[i]? = some x∧RelV x v:=fun i v h=>by
   obtain⟨c,u,h1,h2⟩:=h
   refine⟨.str ⟨#[c]⟩,?_,⟨u,h2⟩⟩
   rw [hp]
   simp only [vM,List.getElem?_map,Array.getElem?_toList,h1,Option.map_some]
  obtain⟨t,st⟩:=st
  cases ha:z.cps.all (· < 128) with
  | true=>
   have et:strIterType z="str_ascii_iterator":=by simp [strIterType,ha]
   rw [et] at st
   refine⟨[j],_,_,e▸Draws.strAscii nh j z t,st,fun i h' h=>⟨t,by rw [et];exact h⟩,pt,by simp,fun b f nb hb=>nb (by simpa using hb)⟩
  | false=>
   have et:strIterType z="str_iterator":=by simp [strIterType,ha]
   rw [et] at st
   refine⟨[j],_,_,e▸Draws.strWide nh j z t,st,fun i h' h=>⟨t,by rw [et];exact h⟩,pt,by simp,fun b f nb hb=>nb (by simpa using hb)⟩
theorem Kd.BR {X:Cx}{pins:List (Addr×Obj)}{σ:St}{H:Hp}{s:Shared}{xs ys:List V} (p:Kd) (I:Inv X pins σ H s) (h1:p.has X.K H xs) (h2:p.has X.K H ys):xs=ys:=by
 cases p with
 | l a=>exact I.xf h1 h2
 | t a=>exact I.uo h1 h2
 | s z=>exact Eq.trans h1 (Eq.symm h2)
noncomputable def Itk (K:PySem.W.Frag) (p q:Kd):It:=⟨fun i H=>∃xs ys,p.has K H xs∧q.has K H ys∧i<xs.length∧i<ys.length,
 fun i H x H'=>∃T y z,x = .ref T∧H T=none∧H'=upd H T (.tup [y,z])∧(∀ys,p.has K H ys→ys[i]? = some y)∧∀ys,q.has K H ys→ys[i]? = some z,
 fun i H=>∃xs ys,p.has K H xs∧q.has K H ys∧(xs.length=i∨i<xs.length∧ys.length=i)⟩
theorem Dg {P:Program}{w:World}{K:PySem.W.Frag}{elts:List Expr}{n:Nat}{ps:Pos} (p q:Kd) (z TI TO i1 i2:Addr) (ap:Ag z TI TO i1 i2):Turn P w K (.Tuple elts n ps) (Itk K p q) [z,TI,TO,i1,i2] z
 (fun i h=>IsZip h z TI TO .none∧IsPair h TI (.ref i1) (.ref i2)∧(∃u v,IsPair h TO u v)∧p.it i1 i h∧q.it i2 i h) where
 mem:=by simp
 obj:=fun i h st c hc=>by
  obtain⟨s1,s2,⟨u,v,s3⟩,s4,s5⟩:=st
  simp only [List.mem_cons,List.not_mem_nil,or_false] at hc
  rcases hc with rfl|rfl|rfl|rfl|rfl
  · exact⟨_,s1,fun v z=>by
     have z':Data.fields _=Data.cell v:=z
     cases z'⟩
  · exact⟨_,s2,fun v z=>by
     have z':Data.seq _=Data.cell v:=z
     cases z'⟩
  · exact⟨_,s3,fun v z=>by
     have z':Data.seq _=Data.cell v:=z
     cases z'⟩
  · exact p.vp s4
  · exact q.vp s5
 keep:=fun i h h' st k=>by
  obtain⟨s1,s2,⟨u,v,s3⟩,s4,s5⟩:=st
  exact⟨k _ (by simp) _ s1,k _ (by simp) _ s2,⟨u,v,k _ (by simp) _ s3⟩,p.Bu s4 fun o e=>k _ (by simp) o e,q.Bu s5 fun o e=>k _ (by simp) o e⟩
 item:=by
  intro X hP hw hK hc i pins s σ H E I hf st hg
  subst hP hw hK
  obtain⟨s1,s2,⟨u0,v0,s3⟩,s4,s5⟩:=st
  obtain⟨xs,ys,hx,hy,lx,ly⟩:=hg
  obtain⟨f1,P1,S1,D1,d1,b1,v1,m1,n1⟩:=p.draws I hc hx (hf i1 (by simp)) s4
  obtain⟨f2,P2,S2,D2,d2,b2,v2,m2,n2⟩:=q.draws I hc hy (hf i2 (by simp)) s5
  have za:ox z TI TO i1 i2 f1 f2:=⟨ap,m1,m2,n1 z (hf z (by simp)) ap.c.symm,n2 z (hf z (by simp)) ap.d.symm,n1 TO (hf TO (by simp)) ap.h,n2 TO (hf TO (by simp)) ap.i,n1 i2 (hf i2 (by simp)) ap.j.symm,n2 i1 (hf i1 (by simp)) ap.j⟩
  have G1:∀c∈[z,TI,TO,i1,i2],∃o,s.heap.get? c=some o:=fun c hc=>by
   simp only [List.mem_cons,List.not_mem_nil,or_false] at hc
   rcases hc with rfl|rfl|rfl|rfl|rfl
   · exact⟨_,s1⟩
   · exact⟨_,s2⟩
   · exact⟨_,s3⟩
   · obtain⟨o,e,_⟩:=p.vp s4;exact⟨o,e⟩
   · obtain⟨o,e,_⟩:=q.vp s5;exact⟨o,e⟩
  refine yE za D1 D2 s1 s2 s3 d1 d2 lx ly fun h1 tk u v p1 p2 g1 g2 g3 g4 g5 g7=>?_
  obtain⟨x,ex,ru⟩:=v1 i u p1
  obtain⟨y,ey,rv⟩:=v2 i v p2
  refine⟨_,rfl,wpAny_letOwnedTupleGo_zip (s:={s with heap:=h1,toks:=tk}) g1 fun h2 t1 t2=>?_⟩
  have hT:s.heap.objs.size≠z:=Nat.ne_of_gt (Heap.lt_size s1)
  obtain⟨I2,f2⟩:=GA (t':=tk) (h':=h2) (x:=x) (y:=y) (u:=u) (v:=v) I ru rv hf G1 (by rw [t2.2 _ hT];exact g5) (fun c o hb e=>by
   simp only [List.mem_cons,List.not_mem_nil,or_false,not_or] at hb
   rw [t2.2 _ hb.1];exact g7 c o hb.1 hb.2.2.1 hb.2.2.2.1 hb.2.2.2.2 e)
  refine⟨.ref s.heap.objs.size,_,I2,rfl,⟨_,x,y,rfl,I.aO.fresh (Nat.le_refl _),rfl,fun ys' h'=>by rw [p.BR I h' hx];exact ex,fun ys' h'=>by rw [q.BR I h' hy];exact ey⟩,⟨t1,?_,⟨u,v,?_⟩,?_,?_⟩,fun b hb=>(f2 b hb).1⟩
  · show h2.get? TI=_
    rw [t2.2 _ ap.a];exact g7 TI _ ap.a ap.e ap.f ap.g s2
  · show h2.get? TO=_
    rw [t2.2 _ ap.b];exact g2
  · exact p.Bu (b1 _ _ g3) fun o e=>by rw [t2.2 _ ap.c];exact e
  · exact q.Bu (b2 _ _ g4) fun o e=>by rw [t2.2 _ ap.d];exact e
 done:=by
  intro X hP hw hK hc i pins s σ H E I hf st hg
  subst hP hw hK
  obtain⟨s1,s2,⟨u0,v0,s3⟩,s4,s5⟩:=st
  obtain⟨xs,ys,hx,hy,fin⟩:=hg
  obtain⟨f1,P1,S1,D1,d1,b1,v1,m1,n1⟩:=p.draws I hc hx (hf i1 (by simp)) s4
  obtain⟨f2,P2,S2,D2,d2,b2,v2,m2,n2⟩:=q.draws I hc hy (hf i2 (by simp)) s5
  have za:ox z TI TO i1 i2 f1 f2:=⟨ap,m1,m2,n1 z (hf z (by simp)) ap.c.symm,n2 z (hf z (by simp)) ap.d.symm,n1 TO (hf TO (by simp)) ap.h,n2 TO (hf TO (by simp)) ap.i,n1 i2 (hf i2 (by simp)) ap.j.symm,n2 i1 (hf i1 (by simp)) ap.j⟩
  refine qG za D1 D2 s1 s2 s3 d1 d2 fin fun h' tk eb=>⟨rfl,AN (fp:=[z,TI,TO,i1,i2]) (t':=tk) I (fun c o hb e=>?_) hf⟩
  simp only [List.mem_cons,List.not_mem_nil,or_false,not_or] at hb
  exact eb c o hb.1 hb.2.2.1 hb.2.2.2.1 hb.2.2.2.2 e
 self:=fun _ _ _ _ _ st h=>wpAny_pyIter_zip st.1 h
noncomputable def Kd.val (t:Tok):Kd→Value
 | .l a=>.ref a
 | .t a=>.ref a
 | .s x=>.str x t
noncomputable def Kd.obj (t:Tok):Kd→Obj
 | .l a=>{cls:=.type "list_iterator",data:=.fields #[.ref a,.int 0 0]}
 | .t a=>{cls:=.type "tuple_iterator",data:=.fields #[.ref a,.int 0 0]}
 | .s x=>{cls:=.type (strIterType x),data:=.fields #[.str x t,.int 0 0]}
noncomputable def Kd.KJ (h:Heap):Kd→Prop
 | .l a=>∃aq,h.IsList a aq
 | .t a=>∃aq,h.IsTuple a aq
 | .s _=>True
theorem Kd.Gi {h:Heap} (p:Kd) (o:Obj) (e:p.KJ h):p.KJ (h.push o):=by
 cases p with
 | l a=>obtain⟨i,e⟩:=e;exact⟨i,e.push o⟩
 | t a=>obtain⟨i,e⟩:=e;exact⟨i,e.push o⟩
 | s x=>trivial
theorem Kd.iter {prog:Program}{w:World}{A:Around}{E:Value→Shared→Prop}{s:Shared}{Q:Value→Shared→Prop}{t:Tok} (p:Kd) (e:p.KJ s.heap)
 (q:Q (.ref s.heap.objs.size) {s with heap:=s.heap.push (p.obj t)}):wpAny (model prog w) A (pyIter (p.val t)) Q E s:=by
 cases p with
 | l a=>obtain⟨i,e⟩:=e;exact wpAny_pyIter_list e q
 | t a=>obtain⟨i,e⟩:=e;exact wpAny_pyIter_tuple e q
 | s x=>exact wpAny_pyIter_strU q
theorem Fi (p1 p2:Kd) (t1 t2:Tok):Meets (Builtin.«zip.__new__» ⟨[.type "zip",p1.val t1,p2.val t2],[]⟩) (fun _ R s=>p1.KJ s.heap∧p2.KJ s.heap∧
 ∀g1 g2 g3 g4 g5:Heap,g1=s.heap.push (p1.obj t1)→g2=g1.push (p2.obj t2)→g3=g2.push {cls:=.type "tuple",data:=.seq #[.ref s.heap.objs.size,.ref g1.objs.size]}→g4=g3.push {cls:=.type "tuple",data:=.seq #[.none,.none]}→
  g5=g4.push {cls:=.type "zip",data:=.fields #[.none,.bool false,.bool false,.ref g2.objs.size,.ref g3.objs.size]}→R (.ok (.ret (.ref g4.objs.size))) {s with heap:=g5}):=
 .of_wp fun prog w A R s h=>by
  obtain⟨hp,g,d,tk,os⟩:=s;obtain⟨l1,l2,h⟩:=h
  have sb:=sub_zip
  have h:=h _ _ _ _ _ rfl rfl rfl rfl rfl
  wp_walk using (Kd.iter p1 (t:=t1) (s:=⟨hp,g,d,tk,os⟩) l1),(Kd.iter p2 (t:=t2) (s:=⟨hp.push (p1.obj t1),g,d,tk,os⟩) (p2.Gi _ l2))
  exact⟨_,rfl,h⟩
theorem Cs {prog:Program}{w:World}{A:Around}{E:Value→Shared→Prop}{s:Shared}{Q:Value→Shared→Prop}{t1 t2:Tok} (p1 p2:Kd) (l1:p1.KJ s.heap) (l2:p2.KJ s.heap)
 (h:∀h',IsZip h' (s.heap.objs.size+4) (s.heap.objs.size+2) (s.heap.objs.size+3) .none→IsPair h' (s.heap.objs.size+2) (.ref s.heap.objs.size) (.ref (s.heap.objs.size+1))→IsPair h' (s.heap.objs.size+3) .none .none→
   h'.get? s.heap.objs.size=some (p1.obj t1)→h'.get? (s.heap.objs.size+1)=some (p2.obj t2)→(∀c o,s.heap.get? c=some o→h'.get? c=some o)→Q (.ref (s.heap.objs.size+4)) {s with heap:=h'}) :
 wpAny (model prog w) A (call (.type "zip") [p1.val t1,p2.val t2]) Q E s:=by
 refine callType_new F.called_zip (by decide) (F.typeCall_zip_2 _ _) (F.newCall_zip_2 _ _) (fun obj=>F.args_object_init_3 obj _ _) F.entry_zip_new (Fi p1 p2 t1 t2) ⟨l1,l2,?_⟩
 intro g1 g2 g3 g4 g5 e1 e2 e3 e4 e5
 have z1:g1.objs.size=s.heap.objs.size+1:=by rw [e1];exact Heap.size_push ..
 have z2:g2.objs.size=s.heap.objs.size+2:=by rw [e2,Heap.size_push,z1]
 have z3:g3.objs.size=s.heap.objs.size+3:=by rw [e3,Heap.size_push,z2]
 have z4:g4.objs.size=s.heap.objs.size+4:=by rw [e4,Heap.size_push,z3]
 have u5:∀{c o},g4.get? c=some o→g5.get? c=some o:=fun q=>by rw [e5];exact Heap.get?_push_of_some _ q
 have u4:∀{c o},g3.get? c=some o→g4.get? c=some o:=fun q=>by rw [e4];exact Heap.get?_push_of_some _ q
 have u3:∀{c o},g2.get? c=some o→g3.get? c=some o:=fun q=>by rw [e3];exact Heap.get?_push_of_some _ q
 have u2:∀{c o},g1.get? c=some o→g2.get? c=some o:=fun q=>by rw [e2];exact Heap.get?_push_of_some _ q
 have w5:g5.get? (s.heap.objs.size+4)=some {cls:=.type "zip",data:=.fields #[.none,.bool false,.bool false,.ref (s.heap.objs.size+2),.ref (s.heap.objs.size+3)]}:=by
  rw [←z4,←z3,←z2,e5];exact Heap.get?_push_size _ rfl
 have w4:g4.get? (s.heap.objs.size+3)=some {cls:=.type "tuple",data:=.seq #[.none,.none]}:=by rw [←z3,e4];exact Heap.get?_push_size _ rfl
 have w3:g3.get? (s.heap.objs.size+2)=some {cls:=.type "tuple",data:=.seq #[.ref s.heap.objs.size,.ref (s.heap.objs.size+1)]}:=by rw [←z2,←z1,e3];exact Heap.get?_push_size _ rfl
 have w2:g2.get? (s.heap.objs.size+1)=some (p2.obj t2):=by rw [←z1,e2];exact Heap.get?_push_size _ (by cases p2<;>rfl)
 have w1:g1.get? s.heap.objs.size=some (p1.obj t1):=by rw [e1];exact Heap.get?_push_size _ (by cases p1<;>rfl)
 show _∧_
 rw [z4]
 exact⟨⟨_,w5,rfl⟩,h g5 w5 (u5 (u4 w3)) (u5 w4) (u5 (u4 (u3 (u2 w1)))) (u5 (u4 (u3 w2))) fun c o q=>u5 (u4 (u3 (u2 (by rw [e1];exact Heap.get?_push_of_some _ q))))⟩
theorem Kd.it0 {j:Addr}{h:Heap}{t:Tok} (p:Kd) (e:h.get? j=some (p.obj t)):p.it j 0 h:=by
 cases p with
 | l a=>exact⟨_,e,rfl,rfl⟩
 | t a=>exact⟨_,e,rfl,rfl⟩
 | s x=>exact⟨t,_,e,rfl,rfl⟩
theorem Kd.FW {X:Cx}{pins:List (Addr×Obj)}{σ:St}{H:Hp}{s:Shared}{xs:List V} (p:Kd) (I:Inv X pins σ H s) (h:p.has X.K H xs):p.KJ s.heap:=by
 cases p with
 | l a=>obtain⟨aq,_,pl,_⟩:=I.list h;exact⟨_,pl.isList⟩
 | t a=>obtain⟨aq,_,pl,_⟩:=I.tuple h;exact⟨_,pl⟩
 | s x=>trivial
theorem Kd.Fp {u:Value} (p:Kd) (r:RelV p.v u):∃t,u=p.val t:=by
 cases p with
 | l a=>cases r;exact⟨0,rfl⟩
 | t a=>cases r;exact⟨0,rfl⟩
 | s x=>obtain⟨t,r⟩:=r;exact⟨t,r⟩
noncomputable def qf (K:PySem.W.Frag) (x y:V) (H:Hp) (R:It→Hp→Prop):Prop:=∃p q:Kd,x=p.v∧y=q.v∧(∃xs,p.has K H xs)∧(∃xs,q.has K H xs)∧R (Itk K p q) H
noncomputable def KC (K:PySem.W.Frag) (ta:TA):TI:=fun σ H R=>ta σ H fun vs H1=>∃x y,vs=[x,y]∧qf K x y H1 R
theorem HX {K:PySem.W.Frag}{ta:TA}{σ:St}{H:Hp}{R:It→Hp→Prop}:KC K ta σ H R=(ta σ H fun vs H1=>∃x y,vs=[x,y]∧qf K x y H1 R):=(rfl)
theorem Ay {X:Cx}{K:PySem.W.Frag}{elts:List Expr}{n:Nat}{ps:Pos}{a b:Expr}{ta:TA}{p pos:Pos} (hK:X.K=K) (hg:Gl X "zip") (hm:X.mg "zip"=none) (ha:PA X [a,b] ta) (hs:starEach [a,b] X.env=[(false,eval a X.env),(false,eval b X.env)]:=by rfl) (Ot:starEach [b] X.env=[(false,eval b X.env)]:=by rfl):PI X (.Tuple elts n ps) (.Call (.Name "zip" p) [a,b] [] pos) (KC K ta):=by
 intro pins s σ H R I h
 subst hK
 refine Call_ (rS I hg hm boot_zip (PyProof.Rows.callWith_type1 (bD (ha pos pins s σ H _ I h) fun us s1 ⟨vs,H1,I1,r1,q1⟩=>?_) (by rw [hs,Ot]) (by rw [Ot];rfl)))
 obtain⟨x,y,rfl,p,q,rfl,rfl,⟨xs,hx⟩,⟨ys,hy⟩,qq⟩:=q1
 cases r1 with
 | cons r rr=>
 cases rr with
 | cons r' rr=>
 cases rr
 obtain⟨t1,rfl⟩:=p.Fp r
 obtain⟨t2,rfl⟩:=q.Fp r'
 refine Cs p q (p.FW I1 hx) (q.FW I1 hy) fun h' g1 g2 g3 g4 g5 g7=>wpAny_pyIter_zip g1 ?_
 have I2:Inv X pins σ H1 {s1 with heap:=h'}:=I1.kept (t':=s1.toks) g7
 refine⟨_,[s1.heap.objs.size+4,s1.heap.objs.size+2,s1.heap.objs.size+3,s1.heap.objs.size,s1.heap.objs.size+1],_,Itk X.K p q,H1,rfl,I2,Dg p q (s1.heap.objs.size+4) (s1.heap.objs.size+2) (s1.heap.objs.size+3) s1.heap.objs.size (s1.heap.objs.size+1) (ne5 _),⟨g1,g2,⟨_,_,g3⟩,p.it0 g4,q.it0 g5⟩,fun e he=>?_,qq⟩
 have he:s1.heap.objs.size≤e:=by
  simp only [List.mem_cons,List.not_mem_nil,or_false] at he
  rcases he with rfl|rfl|rfl|rfl|rfl<;>omega
 exact I1.lG he (I1.aO.fresh he)
theorem qf.DF {K:PySem.W.Frag}{p q:Kd}{xs ys:List V}{g:TG}{tb:TS}{D:Ends}{σ:St}{H:Hp} (e:p.has K H xs) (e2:q.has K H ys) (vI:xs.length=ys.length) (Pv:Nat→St→Hp→Prop) (h0:Pv 0 σ H) (hl:∀i σ H,i≤xs.length→Pv i σ H→p.has K H xs∧q.has K H ys)
 (hs:∀i x y σ H T H',xs[i]? = some x→ys[i]? = some y→Pv i σ H→ay H H'→H T=none→H' T=some (.tup [x,y])→g (.ref T) σ H' fun σ2 H2=>tb {D with nx:=Pv (i+1),ct:=Pv (i+1),bk:=D.nx} σ2 H2) (hd:∀σ H,Pv xs.length σ H→D.nx σ H):qf K p.v q.v H fun J H1=>Ad J g tb D σ H1:=by
 refine⟨p,q,rfl,rfl,⟨xs,e⟩,⟨ys,e2⟩,fun i m σ H=>i+m=xs.length∧Pv i σ H,⟨xs.length,by simp,h0⟩,fun i m σ H h=>?_⟩
 obtain⟨h1,h2⟩:=h
 obtain⟨ea,eb⟩:=hl i σ H (by omega) h2
 by_cases c:m=0
 · subst c
   have:i=xs.length:=by omega
   subst this
   exact .inl ⟨⟨xs,ys,ea,eb,.inl rfl⟩,hd σ H h2⟩
 · have hi:i<xs.length:=by omega
   refine .inr ⟨⟨xs,ys,ea,eb,hi,by omega⟩,Pv (i+1),fun σ' H' q=>⟨m - 1,by omega,by omega,q⟩,fun x H' y=>?_⟩
   obtain⟨T,z1,z2,rfl,nT,rfl,nW,pO⟩:=y
   exact hs i z1 z2 σ H T _ (nW xs ea) (pO ys eb) h2 (bP nT _) nT aT
end L2
namespace L2
open PySem PySem.Spec PyProof.Rows
section
variable {prog : Program} {w : World} {A : Around} {s : Shared} {env : Env} {R : Result→Shared→Prop}
noncomputable abbrev NE (prog:Program) (w:World) (A:Around) (env:Env) (R:Result→Shared→Prop):Value→Shared→Prop:=notedBy (model prog w) A env fun e s'=>R (.error e) s'
theorem ug {elt iter:Expr}{ts ifs:List Expr}{kt:Nat}{tp pos:Pos}{scope:Scope}{it acc:Value} (J:Nat→Shared→Prop)
 (step:∀n s,J n s→wpAny (model prog w) A (pyNext it) (fun r a=>match r with
   | none=>R (.ok .next) a
   | some v=>wpAny (model prog w) A (letOwnedTupleGo (.Tuple ts kt tp) it v) (fun _ a1=>wpAny (model prog w) A (assign (.Tuple ts kt tp) env v) (fun _ b=>
    wpAny (model prog w) A (forIn ifs true fun c r=>if r=true then do let ok ←isTrue c env (eval c env);pure (ForInStep.yield ok) else pure (ForInStep.yield r)) (fun ok c=>
     if ok=true then wpAny (model prog w) A (eval elt env) (fun x d=>wpAny (model prog w) A (call (.builtin "list.append") [acc,x]) (fun _ e=>∃m,m<n∧J m e) (NE prog w A env R) d) (NE prog w A env R) c
     else ∃m,m<n∧J m c) (NE prog w A env R) b) (NE prog w A env R) a1) (NE prog w A env R) a) (NE prog w A env R) s)
 (n:Nat) (h:J n s):codeAny (model prog w) A (.compLoop (.ListComp elt [⟨.Tuple ts kt tp,iter,ifs,0⟩] scope pos) 0 it acc env) R s:=by
 refine codeAny_loop rfl J (fun n s hJ=>(show wpAny _ A ((compTurn (.ListComp elt [⟨.Tuple ts kt tp,iter,ifs,0⟩] scope pos) 0 it acc env).onRaise (fun x=>do noteFrame x env;theTreesLotGoes x)) _ _ s from wpAny_noted ?_)) n h
 rw [compTurn_list]
 have Dw:∀{Y:Value→Shared→Prop} (x:Value) (a:Shared),Y x a→Y x a:=fun _ _ z=>z
 refine wpAny_bind (wpAny_standAt (wpAny_bind (wpAny_mono (step n s hJ) (fun r a p=>?_) Dw)))
 cases r with
 | none=>exact wpAny_pure p
 | some v=>
  refine wpAny_bind (wpAny_mono p (fun _ a1 p1=>wpAny_bind (wpAny_mono p1 (fun _ b p2=>wpAny_bind (wpAny_mono p2 (fun ok c p3=>?_) Dw)) Dw)) Dw)
  cases ok with
  | false=>exact wpAny_pure ⟨rfl,p3⟩
  | true=>exact wpAny_bind (wpAny_bind (wpAny_mono p3 (fun x d p4=>wpAny_bind (wpAny_mono p4 (fun _ e p5=>wpAny_pure (wpAny_pure ⟨rfl,p5⟩)) Dw)) Dw))
end
structure CS2 (X:Cx) (scope:Scope) (x y:Str) (N:List Str) (caps:List Nat):Prop where
 kind:scope.kind = .function
 vD:(scope.names.all fun y=>y.2 != NameKind.cell)=true
 zB:(scope.names.all fun y=>y.2 != NameKind.local || scope.names.lookup y.1==some NameKind.local)=true
 lx:scope.names.lookup x=some .local
 ly:scope.names.lookup y=some .local
 nd:N.Nodup
 n0:N[0]? = some x
 n1:N[1]? = some y
 JE:caps.map (fun j=>X.N[j]?)=(N.drop 2).map some
 Fh:((N.drop 2).all fun y=>scope.names.lookup y==some NameKind.free)=true
 zo:(scope.names.all fun y=>y.2 != NameKind.free||X.env.scope.names.lookup y.1==some NameKind.cell||X.env.scope.names.lookup y.1==some NameKind.free)=true
theorem CS2.shape {X:Cx}{scope:Scope}{x y:Str}{N:List Str}{caps:List Nat} (S:CS2 X scope x y N caps):∃r,N=x::y::r:=by
 have h0:=S.n0
 have h1:=S.n1
 cases N with
 | nil=>cases h0
 | cons a r=>
  cases r with
  | nil=>cases h1
  | cons b r=>cases h0;cases h1;exact⟨r,rfl⟩
theorem CS2.c {X:Cx}{scope:Scope}{x y:Str}{N:List Str}{caps:List Nat} (S:CS2 X scope x y N caps):si X scope x (x::N.drop 2) caps:=by
 obtain⟨r,e⟩:=S.shape
 refine⟨S.kind,S.vD,S.zB,S.lx,?_,rfl,S.JE,S.Fh,S.zo⟩
 have h:=S.nd
 rw [e] at h ⊢
 simp only [List.nodup_cons,List.mem_cons,not_or] at h
 exact List.nodup_cons.mpr ⟨h.1.2,h.2.2⟩
noncomputable def bK (caps:List Nat) (σ:St) (o p:Option V):St:=o::p::caps.map fun j=>(σ[j]?).join
section
variable {X : Cx} {pins : List (Addr × Obj)} {σ : St} {H : Hp} {s : Shared} {scope : Scope} {x y : Str} {N : List Str} {caps : List Nat} {fp : List Addr}
theorem CS2.len (S:CS2 X scope x y N caps):N.length=caps.length+2:=by
 obtain⟨r,e⟩:=S.shape
 have h:=S.c.len
 rw [e] at h ⊢
 simpa using h
theorem CS2.at (S:CS2 X scope x y N caps) {i:Nat}{z:Str} (h:N[i+2]? = some z):∃j,caps[i]? = some j∧X.N[j]? = some z∧scope.names.lookup z=some .free:=by
 obtain⟨r,e⟩:=S.shape
 refine S.c.at (i:=i) ?_
 rw [e] at h ⊢
 simpa using h
theorem Ic (S:CS2 X scope x y N caps) (I:Inv X pins σ H s) (hf:∀b∈fp,bR X pins H b) (dY:∀b∈fp,b<s.heap.objs.size) :
 (lD X N scope (s.heap.objs.size+1) s H (s.heap.objs.size::fp)).Ok:=by
 have o:=Fo S.c I hf dY
 exact⟨o.mod,o.kind,o.glob,o.blt,o.above,o.inj,o.has,o.G4,o.hd,o.frames,o.qT,o.oA,o.bs,o.Ah,o.sy,o.km,o.jN,o.Dz⟩
theorem xW (S:CS2 X scope x y N caps) (I:Inv X pins σ H s) (hf:∀b∈fp,bR X pins H b) (dY:∀b∈fp,b<s.heap.objs.size) {h₁:Heap}{m:Str→Option Value}{tk:Nat}
 (NS:h₁.Ns (s.heap.objs.size+1) m) (old:∀b o,s.heap.get? b=some o→h₁.get? b=some o) :
 Inv (lD X N scope (s.heap.objs.size+1) s H (s.heap.objs.size::fp)) [] (bK caps σ none none) H {s with heap:=h₁,toks:=tk} where
 ok:=Ic S I hf dY
 os:=rfl
 bare:=I.bare
 base:=Un.kept old
 loc:=⟨m,NS,fun i y v e1 e2 _=>by
  cases i with
  | zero=>simp [bK] at e2
  | succ i=>
  cases i with
  | zero=>simp [bK] at e2
  | succ i=>
   obtain⟨j,hj,hX,iW⟩:=S.at e1
   have Am:(σ[j]?).join=some v:=by
    simp only [bK,List.getElem?_cons_succ,List.getElem?_map,hj,Option.map_some] at e2
    exact Option.some.inj e2
   have e3:σ[j]? = some (some v):=by
    cases hh:σ[j]? with
    | none=>rw [hh] at Am;simp at Am
    | some o=>rw [hh] at Am;simp at Am;rw [Am]
   obtain⟨m₂,_,hl⟩:=I.loc
   have hk:=S.c.frees _ (lookup_mem iW) rfl
   obtain⟨u,r,l⟩:=hl j y v hX e3 (by
    rcases hk with k|k
    · exact .inr (.inl k)
    · exact .inr (.inr k))
   refine⟨u,r,.inr ?_⟩
   rcases l with ⟨k,_⟩|⟨_,c,hc,hcell⟩
   · rcases hk with k'|k'<;>(rw [k] at k';cases k')
   · obtain⟨o,ho,hd⟩:=hcell
     exact⟨i8 iW,c,mM (lookup_mem iW) hc,o,old _ _ ho,hd⟩⟩
 cell:=fun y c e=>by
  obtain⟨v,o,ho,hd⟩:=I.cell y c (bJ e)
  exact⟨v,o,old _ _ ho,hd⟩
 free:=I.aO.fresh (Nat.le_succ _)
 eV:=fun y c e=>I.eV y c (bJ e)
 pin:=fun p hp=>by
  have:p∈([]:List (Addr×Obj)):=hp
  simp at this
 aO:=I.aO.kept old
 len:=by
  show (bK caps σ none none).length=N.length
  rw [S.len];simp [bK]
noncomputable def tF (K:PySem.W.Frag) (J:It) (caps:List Nat) (tc:TT) (te:TE) (σ:St) (H1:Hp) (Q:VK):Prop:=
 ∃W:Nat→Nat→List V→Hp→Prop,(∃m,W 0 m [] H1)∧∀i m ys H,W i m ys H→
  (J.stop i H∧∀p,H p=none→Q (.ref p) (upd H p (.lst ys))) ∨
  (J.go i H∧ys.length<sizeLine∧∃N:List V→Hp→Prop,(∀ys' H',N ys' H'→∃m',m'<m∧W (i+1) m' ys' H')∧∀v H',J.yT i H v H'→
    ∃T a b,v = .ref T∧jr K H' T [a,b]∧tc (bK caps σ (some a) (some b)) H' fun c H2=>if c=true then te (bK caps σ (some a) (some b)) H2 fun y H3=>N (ys++[y]) H3 else N ys H2)
noncomputable def sC (K:PySem.W.Frag) (wi:TI) (caps:List Nat) (tc:TT) (te:TE):TE:=fun σ H Q=>wi σ H fun J H1=>tF K J caps tc te σ H1 Q
theorem x6 {elt iter:Expr}{px py pt pos:Pos}{kx:Nat}{ifs:List Expr}{tc:TT}{te:TE}{J:It}{it:Addr}{tn:Nat→Heap→Prop}{Q:VK}{RR:Value→Addr→Result→Shared→Prop}{E:Value→Shared→Prop}
 (cH:X.calm=true) (S:CS2 X scope x y N caps) (hc:∀C s H ex,fe (lD X N scope C s H ex) ifs tc) (he:∀C s H ex,PE (lD X N scope C s H ex) elt te)
 (I:Inv X pins σ H s) (T:Turn X.prog X.w X.K (.Tuple [.Name x px,.Name y py] kx pt) J fp it tn) (t0:tn 0 s.heap) (hf:∀b∈fp,bR X pins H b) (wc:tF X.K J caps tc te σ H Q)
 (fin:∀D C s' m' H' ys,Inv X pins σ (upd H' D (.lst ys)) s'→Q (.ref D) (upd H' D (.lst ys))→s'.heap.Ns C m'→bR X pins (upd H' D (.lst ys)) C→C≠X.env.locals→RR (.ref D) C (.ok .next) s') :
 wpAny (model X.prog X.w) X.A (newList []) (fun acc s₃=>wpAny (model X.prog X.w) X.A (newFunctionEnv scope X.env.globals (fS X.env.cells scope.names) [] X.env.qual none .none (some X.env)) (fun cenv s₄=>
  codeAny (model X.prog X.w) X.A (.compStart (.ListComp elt [⟨.Tuple [.Name x px,.Name y py] kx pt,iter,ifs,0⟩] scope pos) 0 (.ref it) acc {cenv with scope:=relabel scope X.env}) (RR acc cenv.locals) s₄) E s₃) E s:=by
 refine wpAny_newObj_type (wpAny_newFunctionEnv S.c.sh (by intro y hy;simp at hy) (fun h₁ gL iZ=>?_) S.kind)
 dsimp only at gL iZ ⊢
 generalize Ao:s.heap.push {cls:=.type "list",dict:=none,data:=.seq ([]:List Value).toArray}=H2 at gL iZ ⊢
 have hC:H2.objs.size=s.heap.objs.size+1:=by rw [←Ao,Heap.size_push]
 have vZ:s.heap.objs.size≠H2.objs.size:=by rw [hC];exact Nat.ne_of_lt (Nat.lt_succ_self _)
 have below:∀b,b<s.heap.objs.size→b≠H2.objs.size:=fun b hb=>by rw [hC];exact Nat.ne_of_lt (Nat.lt_succ_of_lt hb)
 have old:∀b o,s.heap.get? b=some o→h₁.get? b=some o:=fun b o e=>iZ.extBut b o (below b (Heap.lt_size e)) (Heap.get?_push_of_some _ (Ao▸Heap.get?_push_of_some _ e))
 have rR:h₁.get? s.heap.objs.size=some (lobj [] 0):=iZ.extBut _ _ vZ (Heap.get?_push_of_some _ (Ao▸Heap.get?_push_size _ rfl))
 have dY:∀b∈fp,b<s.heap.objs.size:=fun b hb=>by
  obtain⟨o,e,_⟩:=T.obj 0 _ t0 b hb
  exact Heap.lt_size e
 have mz:s.heap.objs.size∉fp:=fun z=>Nat.lt_irrefl _ (dY _ z)
 have dG:bR X pins H s.heap.objs.size:=I.lG (Nat.le_refl _) (I.aO.fresh (Nat.le_refl _))
 have ip:bR X pins H H2.objs.size:=I.lG (by rw [hC];exact Nat.le_succ _) (I.aO.fresh (by rw [hC];exact Nat.le_succ _))
 rw [hC] at gL vZ ip ⊢
 clear hC
 generalize hD:s.heap.objs.size=D at rR mz dG vZ
 have IY:=xW S I hf dY (h₁:=h₁) (tk:=s.toks+([]:List (Str×Value)).length) gL old
 rw [hD] at IY gL ip
 generalize hY:lD X N scope (D+1) s H (D::fp)=Y at IY
 have jb:Y.env=compEnvC scope (fS X.env.cells scope.names) (D+1) X.env:=by rw [←hY];rfl
 have nj:Y.ex=D::fp:=by rw [←hY];rfl
 have Jm:Y.fs=cR X.stack:=by rw [←hY];rfl
 have Gw:Y.pn=[]:=by rw [←hY];rfl
 have mm:Y.env.locals=D+1:=by rw [jb];rfl
 have Ml:fe Y ifs tc:=by rw [←hY];exact hc _ _ _ _
 have NA:PE Y elt te:=by rw [←hY];exact he _ _ _ _
 have NG:Y.prog=X.prog∧Y.w=X.w∧Y.K=X.K∧Y.calm=X.calm∧Y.A=X.A∧Y.N=N∧Y.xe=fun _ _=>False:=by rw [←hY];exact⟨rfl,rfl,rfl,rfl,rfl,rfl,rfl⟩
 obtain⟨mO,mD,y3,zQ,qJ,yN,Aq⟩:=NG
 have Ar:∀{H':Hp}{pl:List (Addr×Obj)},(∀b∈fp,H' b=none)→(∀p∈pl,p.1=D)→∀b∈fp,bR Y pl H' b:=fun {H' pl} hn hp b hb=>by
  refine⟨hn b hb,?_,?_,.inl (by rw [nj];exact List.mem_cons_of_mem _ hb),fun y c e=>(IY.ok.oA b (by rw [nj];exact List.mem_cons_of_mem _ hb)).2 y c e,fun p DN z=>?_⟩
  · exact(IY.ok.oA b (by rw [nj];exact List.mem_cons_of_mem _ hb)).1
  · exact IY.ok.km b (by rw [nj];exact List.mem_cons_of_mem _ hb)
  · rw [Gw,List.nil_append] at DN
    exact mz (by rw [←hp p DN,z];exact hb)
 have rJ:D∈Y.ex:=by rw [nj];exact List.mem_cons_self
 have rY:∀{H':Hp}{s':Shared}{σ':St}{aq:List Value}{k:Nat},Inv Y [] σ' H' s'→H' D=none→s'.heap.get? D=some (lobj aq k)→Inv Y [(D,lobj aq k)] σ' H' s':=fun {H' s' σ' aq k} I' hn e=>
  I'.dw fun p hp=>by
   have y7:p=(D,lobj aq k):=by simpa using hp
   subst y7
   refine⟨e,hn,(IY.ok.oA D rJ).1,IY.ok.km D rJ,fun v z=>?_⟩
   have z':Data.seq aq.toArray k=Data.cell v:=z
   cases z'
 obtain⟨W,⟨m0,w0⟩,turn⟩:=wc
 have loop:∀s₃:Shared,s₃={s with heap:=h₁,toks:=s.toks+([]:List (Str×Value)).length}→
  codeAny (model X.prog X.w) X.A (.compLoop (.ListComp elt [⟨.Tuple [.Name x px,.Name y py] kx pt,iter,ifs,0⟩] scope pos) 0 (.ref it) (.ref D) Y.env) (RR (.ref D) (D+1)) s₃:=by
  rintro s₃ rfl
  refine ug
   (fun n s'=>∃i ys aq k H',Inv Y [(D,lobj aq k)] (bK caps σ none none) H' s'∧Vals ys aq∧ys.length≤sizeLine∧tn i s'.heap∧(∀b∈fp,H' b=none)∧W i n ys H') ?_ m0
   ⟨0,[],[],0,H,rY IY dG.1 rR,.nil,Nat.zero_le _,T.keep _ _ _ t0 fun b _ o e=>old b o e,fun b hb=>(hf b hb).1,w0⟩
  rintro n s1 ⟨i,ys,aq,k,H1,I1,rv,hl,pK,fr1,w1⟩
  have mv:∀p∈[(D,lobj aq k)],p.1=D:=fun p hp=>by
   have y7:p=(D,lobj aq k):=by simpa using hp
   rw [y7]
  rcases turn i n ys H1 w1 with ⟨stop,qn⟩|⟨go,hsz,Nx,hNx,step⟩
  · have z:=T.done Y mO mD y3 (zQ.trans cH) i [(D,lobj aq k)] s1 (bK caps σ none none) H1 (notedBy (model X.prog X.w) X.A Y.env fun e s'=>RR (.ref D) (D+1) (.error e) s') I1 (Ar fr1 mv) pK stop
    rw [qJ] at z
    refine bD z fun r s2 ⟨hr,I2⟩=>?_
    subst hr
    obtain⟨eD,nD,_,_,_⟩:=I2.pin (D,lobj aq k) (List.mem_append_right _ List.mem_cons_self)
    have hU:Un (cR X.stack) (D::fp) H (upd H1 D (.lst ys)) s.heap s2.heap:=by
     have b:=I2.base
     rw [Jm,nj] at b
     have b':Un (cR X.stack) (D::fp) H H1 s.heap s2.heap:=by
      have e1:Y.H₀=H:=by rw [←hY];rfl
      have e2:Y.s₀=s:=by rw [←hY];rfl
      rw [e1,e2] at b;exact b
     have ne:∀a u,H1 a=some u→a≠D:=fun a u e=>aF e nD
     exact⟨b'.keep,b'.slot,fun a o e n hx=>by rw [aL (fun z=>hx (by rw [z];exact List.mem_cons_self))];exact b'.free a o e n hx,b'.there,
      fun a xs e=>by rw [aL (ne _ _ (b'.bU a xs e))];exact b'.bU a xs e,fun a o u e=>by rw [aL (ne _ _ (b'.fk a o u e))];exact b'.fk a o u e,
      fun a ps e=>by obtain⟨mo,q⟩:=b'.gH a ps e;exact⟨mo,by rw [aL (ne _ _ q)];exact q⟩⟩
    have zL:fN X.prog X.w (upd H1 D (.lst ys)) s2.heap:=by
     have q:=I2.aO
     rw [mO,mD] at q
     exact q.adopt nD ⟨hl,aq,k,rv,eD⟩
    have IX:Inv X pins σ (upd H1 D (.lst ys)) s2:=I.qw (by have:=I2.os;rw [show Y.s₀=s by rw [←hY];rfl] at this;exact this) hU zL I2.bare (fun b hb=>by
     rcases List.mem_cons.mp hb with rfl|hb
     · exact⟨dG.2.2.2.1,dG.2.1,dG.2.2.2.2.1,dG.2.2.2.2.2⟩
     · have q:=hf b hb
       exact⟨q.2.2.2.1,q.2.1,q.2.2.2.2.1,q.2.2.2.2.2⟩)
    obtain⟨mC,xU,_⟩:=I2.loc
    rw [mm] at xU
    have fC:=I2.free
    rw [mm] at fC
    exact fin D (D+1) s2 mC H1 ys IX (qn D nD) xU ⟨by rw [aL (fun z=>vZ z.symm)];exact fC,ip.2⟩ ip.2.1
  · have z:=T.item Y mO mD y3 (zQ.trans cH) i [(D,lobj aq k)] s1 (bK caps σ none none) H1 (NE X.prog X.w X.A Y.env (RR (.ref D) (D+1))) I1 (Ar fr1 mv) pK go
    rw [qJ] at z
    refine bD z fun r s2' z2=>?_
    obtain⟨u,hr,z2⟩:=z2
    subst hr
    refine bD z2 fun _ s2 ⟨v,H2,I2,ru,yT,jI,fr2⟩=>?_
    have I2':=I2.pinned (Ar fr2 mv) (T.obj _ _ jI)
    have Gh:Y.env.scope.names.lookup x=some .local:=by rw [jb];exact lookup_relabel_local S.lx
    have Pq:Y.env.scope.names.lookup y=some .local:=by rw [jb];exact lookup_relabel_local S.ly
    have g1:=dA (X:=Y) (i:=0) (x:=x) (pos:=px) (by rw [yN];exact S.nd) (by rw [yN];exact S.n0) (.inl Gh) (.inr Gh)
    have g2:=dA (X:=Y) (i:=1) (x:=y) (pos:=py) (by rw [yN];exact S.nd) (by rw [yN];exact S.n1) (.inl Pq) (.inr Pq)
    have g:=Fw (X:=Y) (pos:=pt) (k:=kx) (n:=2) (zQ.trans cH) (nV g1 (nV g2 Be))
    obtain⟨T1,a1,b1,ev,QU,VR⟩:=step v H2 yT
    have a:=g _ s2 _ H2 v u (fun σ' H'=>σ'=bK caps σ (some a1) (some b1)∧H'=H2) I2' ru ⟨T1,[a1,b1],ev,by rw [y3];exact QU,rfl,a1,[b1],rfl,b1,[],rfl,rfl,rfl,rfl⟩
    rw [mO,mD,qJ,Aq] at a
    refine wpAny_mono a (fun _ s3 ⟨σ3,H3,I3,e1,e2⟩=>?_) fun _ _ f=>f.elim
    subst e1 e2
    have c:=Ml _ s3 _ _ _ I3 VR
    rw [mO,mD,qJ,Aq] at c
    refine wpAny_mono c (fun b s4 ⟨H4,I4,q4⟩=>?_) fun _ _ f=>f.elim
    have again:∀{s5:Shared}{H5:Hp}{ys':List V}{its':List Value}{k' m':Nat},Inv Y (cF fp s2.heap) (bK caps σ (some a1) (some b1)) H5 s5→H5 D=none→s5.heap.get? D=some (lobj its' k')→Vals ys' its'→ys'.length≤sizeLine→m'<n→W (i+1) m' ys' H5→
     ∃m,m<n∧∃i ys aq k H',Inv Y [(D,lobj aq k)] (bK caps σ none none) H' s5∧Vals ys aq∧ys.length≤sizeLine∧tn i s5.heap∧(∀b∈fp,H' b=none)∧W i m ys H':=fun {s5 H5 ys' its' k' m'} I5 nD eD fu wq hm w'=>by
     refine⟨m',hm,i+1,ys',its',k',H5,rY ((I5.dw fun p hp=>by simp at hp).weak (by simp [bK]) fun j w hj=>?_) nD eD,fu,wq,T.keep _ _ _ jI fun b hb o e=>(I5.pin (b,o) (List.mem_append_right _ (cm hb e))).1,fun b hb=>?_,w'⟩
     · cases j with
       | zero=>simp [bK] at hj
       | succ j=>
       cases j with
       | zero=>simp [bK] at hj
       | succ j=>simpa [bK] using hj
     · obtain⟨o,e,d⟩:=T.obj _ _ jI b hb
       exact(I5.pin (b,o) (List.mem_append_right _ (cm hb e))).2.1
    have kz:∀{s5:Shared}{H5:Hp}{σ5:St},Inv Y ([(D,lobj aq k)]++cF fp s2.heap) σ5 H5 s5→Inv Y (cF fp s2.heap) σ5 H5 s5:=fun I5=>I5.dw fun p hp=>I5.pin p (List.mem_append_right _ (List.mem_append_right _ hp))
    cases b with
    | false=>
     obtain⟨m',hm,w'⟩:=hNx _ _ q4
     obtain⟨eD,nD,_⟩:=I4.pin (D,lobj aq k) (List.mem_append_right _ (List.mem_append_left _ List.mem_cons_self))
     exact again (kz I4) nD eD rv hl hm w'
    | true=>
     rw [if_pos rfl]
     rw [if_pos rfl] at q4
     have d:=NA _ s4 _ H4 _ I4 q4
     rw [mO,mD,qJ,Aq] at d
     refine wpAny_mono d (fun w s5 ⟨y,H5,I5,ry,q5⟩=>?_) fun _ _ f=>f.elim
     obtain⟨m',hm,w'⟩:=hNx _ _ q5
     obtain⟨eD,nD,_⟩:=I5.pin (D,lobj aq k) (List.mem_append_right _ (List.mem_append_left _ List.mem_cons_self))
     refine append_at (hsz:=by rw [List.size_toArray,←rv.length];exact hl) eD fun h6 Nw Mm=>?_
     have I6:Inv Y (cF fp s2.heap) (bK caps σ (some a1) (some b1)) H5 {s5 with heap:=h6,toks:=s5.toks}:=(kz I5).turned (fun b o hb e=>(Nw.2 b hb).trans e) nD (IY.ok.oA D rJ).1 (.inl rJ) (fun y c e=>(IY.ok.oA D rJ).2 y c e) (fun p hp=>by
      rw [Gw,List.nil_append] at hp
      intro z
      exact mz (by rw [←z];exact(iF hp).1))
     refine again (ys':=ys++[y]) (its':=aq++[w]) (k':=k+1) I6 nD ?_ (rv.append (.cons ry .nil)) (by rw [List.length_append,List.length_singleton];exact hsz) hm w'
     rw [Mm]
     show some ({cls:=.type "list",data:=.seq (aq.toArray.push w) (k+1)}:Obj)=some {cls:=.type "list",data:=.seq (aq++[w]).toArray (k+1)}
     rw [List.push_toArray]
 rw [jb] at loop
 have pK:tn 0 h₁:=T.keep _ _ _ t0 fun b _ o e=>old b o e
 exact codeAny_compStart_list (loop _ rfl) (T.self _ 0 _ _ _ pK (loop _ rfl))
end
theorem GU {K:PySem.W.Frag}{wi:TI}{caps:List Nat}{tc:TT}{te:TE}{σ:St}{H:Hp}{Q:VK}:sC K wi caps tc te σ H Q=(wi σ H fun J H1=>tF K J caps tc te σ H1 Q):=(rfl)
theorem Rd.same {H H':Hp}{a:Addr}{u:HO} (S:ay H H') (r:Rd H a u):Rd H' a u:=by
 rcases r with r|⟨o,r⟩
 · exact .inl (S _ _ r)
 · exact .inr ⟨o,S _ _ r⟩
theorem Kd.same {K:PySem.W.Frag}{H H':Hp}{xs:List V} (p:Kd) (S:ay H H') (h:p.has K H xs):p.has K H' xs:=by
 cases p with
 | l a=>
  rcases h with h|h
  · exact .inl (h.same S)
  · exact .inr h
 | t a=>
  rcases h with h|h
  · exact .inl (h.same S)
  · exact .inr h
 | s x=>exact h
theorem qf.comp {K:PySem.W.Frag}{p q:Kd}{xs zs:List V}{caps:List Nat}{tc:TT}{te:TE}{σ:St}{H:Hp}{Q:VK} (e:p.has K H xs) (e2:q.has K H zs) (vI:xs.length=zs.length) (Pv:Nat→List V→Hp→Prop) (h0:Pv 0 [] H) (hx:xs.length≤100000)
 (hy:∀i ys H',Pv i ys H'→ys.length≤i)
 (hs:∀i x z ys H',xs[i]? = some x→zs[i]? = some z→ay H H'→(∃H1,ay H H1∧ay H1 H'∧Pv i ys H1)→tc (bK caps σ (some x) (some z)) H' fun b H2=>if b=true then te (bK caps σ (some x) (some z)) H2 fun y H3=>ay H H3∧Pv (i+1) (ys++[y]) H3 else ay H H2∧Pv (i+1) ys H2)
 (hd:∀p ys H1 H2,ay H H1→ay H1 H2→Pv xs.length ys H1→H1 p=none→H2 p=some (.lst ys)→Q (.ref p) H2):qf K p.v q.v H fun J H1=>tF K J caps tc te σ H1 Q:=by
 refine⟨p,q,rfl,rfl,⟨xs,e⟩,⟨zs,e2⟩,fun i m ys H'=>i+m=xs.length∧ay H H'∧Pv i ys H',⟨xs.length,by simp,ay.refl _,h0⟩,fun i m ys H' h=>?_⟩
 obtain⟨h1,S,h2⟩:=h
 by_cases c:m=0
 · subst c
   have:i=xs.length:=by omega
   subst this
   exact .inl ⟨⟨xs,zs,p.same S e,q.same S e2,.inl rfl⟩,fun r n=>hd r ys H' _ S (bP n _) h2 n aT⟩
 · have hi:i<xs.length:=by omega
   refine .inr ⟨⟨xs,zs,p.same S e,q.same S e2,hi,by omega⟩,Nat.lt_of_le_of_lt (hy _ _ _ h2) (Nat.lt_of_lt_of_le hi (Nat.le_of_lt (cP hx))),fun ys' H'=>ay H H'∧Pv (i+1) ys' H',fun ys' H' z=>⟨m - 1,by omega,by omega,z⟩,fun v H2 y=>?_⟩
   obtain⟨T,z1,z2,rfl,nT,rfl,nW,pO⟩:=y
   refine⟨T,z1,z2,rfl,jr.of aT,?_⟩
   exact hs i z1 z2 ys _ (nW xs (p.same S e)) (pO zs (q.same S e2)) (S.trans (bP nT _)) ⟨H',S,bP nT _,h2⟩
end L2
namespace L2
open PySem PySem.Spec PyProof.Rows
noncomputable def gY (n:Nat):List Nat:=(Nat.toDigits 10 n).map Char.toNat
noncomputable def fU (n:Nat):Str:=⟨(gY n).toArray⟩
theorem Dk:∀a:Fin 10,(Nat.digitChar a.val).toNat=48+a.val:=by decide
theorem sJ {d:Nat} (h:d<10):(Nat.digitChar d).toNat=48+d:=Dk ⟨d,h⟩
theorem dU {n:Nat} (h:n<10):gY n=[48+n]:=by unfold gY;rw [Nat.toDigits_of_lt_base h];simp [sJ h]
theorem bZ {n:Nat} (h:10≤n):gY n=gY (n / 10)++[48+n % 10]:=by unfold gY;rw [Nat.toDigits_of_base_le (by decide) h];simp [sJ (Nat.mod_lt n (by decide))]
theorem kZ {n:Nat} (h:n<10000):1≤(gY n).length∧(gY n).length≤4∧(∀c∈gY n,48≤c∧c≤57)∧(gY n=[48]∨(gY n).head? ≠ some 48)∧True:=by
 by_cases c1:n<10
 · rw [dU c1]
   refine⟨by simp,by simp,fun c hc=>by simp at hc;omega,?_,trivial⟩
   by_cases z:n=0
   · left;rw [z]
   · right;simp;omega
 by_cases c2:n<100
 · rw [bZ (by omega),dU (show n / 10<10 by omega)]
   exact⟨by simp,by simp,fun c hc=>by simp at hc;omega,.inr (by simp;omega),trivial⟩
 by_cases c3:n<1000
 · rw [bZ (by omega),bZ (show 10≤n / 10 by omega),dU (show n / 10 / 10<10 by omega)]
   exact⟨by simp,by simp,fun c hc=>by simp at hc;omega,.inr (by simp;omega),trivial⟩
 rw [bZ (by omega),bZ (show 10≤n / 10 by omega),bZ (show 10≤n / 10 / 10 by omega),dU (show n / 10 / 10 / 10<10 by omega)]
 exact⟨by simp,by simp,fun c hc=>by simp at hc;omega,.inr (by simp;omega),trivial⟩
noncomputable def df (i:Int):Str:=Str.ofString (toString i)
theorem rW (n:Nat):df n=fU n:=by
 unfold df fU gY
 show Str.ofString (Nat.repr n)=_
 unfold Nat.repr
 exact PySem.W.Fast.ofString_ofList _
noncomputable def KS:List V→Hp→VK→Prop:=fun xs H Q=>∃n:Nat,xs=[.str (fU n)]∧n<10000∧Q (.int n) H
theorem CN {X:Cx}:ck X (.type "int") KS:=by
 intro pins s σ H xs us Q I r h
 obtain⟨n,rfl,hn,q⟩:=h
 obtain⟨u,rfl,t,rfl⟩:=vals1 r
 rw [←rW]
 exact PySem.W.KIN.call_num (n:=(n:Int)) (by omega) (by omega) ⟨.int n,H,I.tok _,⟨_,rfl⟩,q⟩
theorem Jw {xs:List V}{H:Hp}{Q:VK}:KS xs H Q=(∃n:Nat,xs=[.str (fU n)]∧n<10000∧Q (.int n) H):=(rfl)
noncomputable def Pr:List V→Hp→VK→Prop:=fun xs H Q=>(∃z,xs=[.str z]∧Q (.str z) H)∨∃i:Int,xs=[.int i]∧i.natAbs.log2<1900∧Q (.str (df i)) H
theorem u6 {X:Cx}:ck X (.type "str") Pr:=by
 intro pins s σ H xs us Q I r h
 rcases h with ⟨z,rfl,q⟩|⟨i,rfl,hi,q⟩
 · obtain⟨u,rfl,t,rfl⟩:=vals1 r
   exact P.str_of_str ⟨.str z,H,I,⟨_,rfl⟩,q⟩
 · obtain⟨u,rfl,t,rfl⟩:=vals1 r
   exact P.str_of_int (by omega) ⟨.str _,H,I.tok _,⟨_,rfl⟩,q⟩
theorem M3 {xs:List V}{H:Hp}{Q:VK}:Pr xs H Q=((∃z,xs=[.str z]∧Q (.str z) H)∨∃i:Int,xs=[.int i]∧i.natAbs.log2<1900∧Q (.str (df i)) H):=(rfl)
end L2
namespace L2
open PySem PySem.Spec PyProof.Rows
open PySem.Builtin.Str PySem.StrLaws
theorem C9 {prog:Program}{w:World}{A:Around}{E:Value→Shared→Prop}{s:Shared}{x y:Str}{t u:Tok}{Q:Value→Shared→Prop} (hy:(y.length==0)=false) (hx:x.length+2≤sizeLine)
 (q:∀(l:List (Str×Tok)) (k:Nat),l.map (·.1)=Txt.split x y→Q (.ref s.heap.objs.size) {s with toks:=k,heap:=s.heap.push {cls:=.type "list",data:=.seq (strValues l).toArray}}) :
 wpAny (model prog w) A (call (.builtin "str.split") [.str x t,.str y u]) Q E s:=by
 have ln:=split_le x y
 have one:Txt.split x y=[x]→Q (.ref s.heap.objs.size) {s with toks:=s.toks,heap:=s.heap.push {cls:=.type "list",data:=.seq (strValues [(x,t)]).toArray}}:=fun e=>q [(x,t)] s.toks e.symm
 unfold Txt.split at ln one q
 cases c1:(decide (x.length<y.length)||decide (strKind x<strKind y)) with
 | true=>
  rw [c1,if_pos rfl] at one
  exact call_meets F.slot_str_split (typeIs_str _ _ _) F.entry_str_split (F.args_str_split_2 _ _) (meets_str_split_cannot_occur x y t u c1) (one rfl)
 | false=>
  simp only [c1,Bool.false_eq_true,if_false] at ln one q
  cases c2:(occurrences x y 0 x.length (x.length+1)).isEmpty with
  | true=>
   rw [c2,if_pos rfl] at one
   exact call_meets F.slot_str_split (typeIs_str _ _ _) F.entry_str_split (F.args_str_split_2 _ _) (meets_str_split_not_found x y t u c1 hy c2) (one rfl)
  | false=>
   simp only [c2,Bool.false_eq_true,if_false] at ln q
   refine call_meets F.slot_str_split (typeIs_str _ _ _) F.entry_str_split (F.args_str_split_2 _ _) (meets_str_split_sep x y t u c1 hy c2 (by omega) (by omega)) ?_
   have:=q (numbered s.toks (partsBetween x (occurrences x y 0 x.length (x.length+1)) y.length)) (s.toks+(partsBetween x (occurrences x y 0 x.length (x.length+1)) y.length).length) (numbered_texts _ _)
   rw [←strsFrom_eq] at this
   exact this
theorem Ng (l:List (Str×Tok)):Vals ((l.map (·.1)).map V.str) (strValues l):=by
 induction l with
 | nil=>exact .nil
 | cons a l ih=>exact .cons ⟨a.2,rfl⟩ ih
noncomputable def GR:V→List V→Hp→VK→Prop:=fun x xs H Q=>∃z y,x = .str z∧xs=[.str y]∧y.length≠0∧z.length≤100000∧aM H (.lst ((Txt.split z y).map V.str)) Q
theorem wU {X:Cx}:G0 X "str.split" GR:=by
 intro pins s σ H x xs v us Q I rx rs h
 obtain⟨z,y,rfl,rfl,hy,hz,q⟩:=h
 obtain⟨t,rfl⟩:=rx
 obtain⟨u,rfl,t2,rfl⟩:=vals1 rs
 have hb:(100002:Nat)≤sizeLine:=by decide
 refine C9 (beq_eq_false_iff_ne.mpr hy) (by omega) fun l k e=>?_
 have hl:((Txt.split z y).map V.str).length≤sizeLine:=by rw [List.length_map];have:=split_le z y;omega
 refine⟨.ref s.heap.objs.size,upd H s.heap.objs.size (.lst ((Txt.split z y).map V.str)),?_,rfl,q _ (I.aO.fresh (Nat.le_refl _))⟩
 refine I.laid (t':=k) (fun b o g=>Heap.get?_push_of_some _ g) (Nat.le_refl _) ⟨hl,strValues l,0,by rw [←e];exact Ng l,Heap.get?_push_size _ rfl⟩
theorem ET {x:V}{xs:List V}{H:Hp}{Q:VK}:GR x xs H Q=(∃z y,x = .str z∧xs=[.str y]∧y.length≠0∧z.length≤100000∧aM H (.lst ((Txt.split z y).map V.str)) Q):=(rfl)
noncomputable def jn (m:List Nat):List (List Nat)→List Nat
 | []=>[]
 | [d]=>d
 | d::e::r=>d++m++jn m (e::r)
theorem gR (sep:Str):∀ds:List Str,(Str.join sep ds).cps.toList=jn sep.cps.toList (ds.map fun d=>d.cps.toList)
 | []=>rfl
 | [d]=>rfl
 | d::e::r=>by
  show (d++sep++Str.join sep (e::r)).cps.toList=_
  simp only [Str.cps_append,Array.toList_append,gR sep (e::r),List.map_cons,jn]
theorem xa {c:Nat}:∀{a b X Y:List Nat},c∉a→c∉b→a++c::X=b++c::Y→a=b∧X=Y
 | [],[],X,Y,_,_,h=>by simpa using h
 | [],d::b,X,Y,_,hb,h=>by simp at h;simp at hb;exact absurd h.1 hb.1
 | d::a,[],X,Y,ha,_,h=>by simp at h;simp at ha;exact absurd h.1.symm ha.1
 | d::a,e::b,X,Y,ha,hb,h=>by
  simp only [List.cons_append,List.cons.injEq] at h
  simp only [List.mem_cons,not_or] at ha hb
  obtain⟨h1,h2⟩:=xa ha.2 hb.2 h.2
  exact⟨by rw [h.1,h1],h2⟩
theorem DE {c:Nat}{r:List Nat}:∀{ds es:List (List Nat)},ds≠[]→es≠[]→(∀d∈ds,c∉d)→(∀d∈es,c∉d)→jn (c::r) ds=jn (c::r) es→ds=es
 | [],_,h,_,_,_,_=>absurd rfl h
 | _,[],_,h,_,_,_=>absurd rfl h
 | [d],[e],_,_,_,_,h=>by rw [show d=e from h]
 | [d],e::f::q,_,_,hd,_,h=>by
  have h:d=e++(c::r)++jn (c::r) (f::q):=h
  exact absurd (by rw [h];simp) (hd d (by simp))
 | d::f::q,[e],_,_,_,he,h=>by
  have h:d++(c::r)++jn (c::r) (f::q)=e:=h
  exact absurd (by rw [←h];simp) (he e (by simp))
 | d::f::q,e::g::p,_,_,hd,he,h=>by
  have h:d++(c::r)++jn (c::r) (f::q)=e++(c::r)++jn (c::r) (g::p):=h
  simp only [List.append_assoc,List.cons_append] at h
  obtain⟨h1,h2⟩:=xa (hd d (by simp)) (he e (by simp)) h
  have h2:=List.append_cancel_left h2
  rw [h1,DE (by simp) (by simp) (fun x hx=>hd x (by simp [List.mem_cons.mp hx])) (fun x hx=>he x (by simp [List.mem_cons.mp hx])) h2]
noncomputable def marks (c:Nat) (r L:List Nat):Prop:=∀k,L[k]? = some c→(L.drop k).take (r.length+1)=c::r
theorem xA {c:Nat}{r:List Nat} (hr:c∉r):∀{ds:List (List Nat)},(∀d∈ds,c∉d)→marks c r (jn (c::r) ds)
 | [],_,k,h=>by simp [jn] at h
 | [d],hd,k,h=>absurd (List.mem_of_getElem? h) (hd d (by simp))
 | d::e::q,hd,k,h=>by
  have ih:=xA hr (ds:=e::q) fun x hx=>hd x (by simp [List.mem_cons.mp hx])
  have eq:jn (c::r) (d::e::q)=d++((c::r)++jn (c::r) (e::q)):=by simp [jn]
  rw [eq] at h ⊢
  by_cases c1:k<d.length
  · rw [List.getElem?_append_left c1] at h
    exact absurd (List.mem_of_getElem? h) (hd d (by simp))
  · rw [List.getElem?_append_right (by omega)] at h
    rw [List.drop_append,List.drop_eq_nil_of_le (by omega),List.nil_append]
    generalize k - d.length=j at h
    by_cases c2:j<(c::r).length
    · rw [List.getElem?_append_left c2] at h
      cases j with
      | zero=>
       rw [List.drop_zero]
       exact List.take_left' (by simp)
      | succ j=>
       rw [List.getElem?_cons_succ] at h
       exact absurd (List.mem_of_getElem? h) hr
    · rw [List.getElem?_append_right (by omega)] at h
      rw [List.drop_append,List.drop_eq_nil_of_le (by omega),List.nil_append]
      exact ih _ h
theorem Bh {x y:Str}{c a b:Nat} (hp:∀k,x.cps.toList[k]? = some c→At x y x.length k) (hn:∀k,a≤k→k<b→¬At x y x.length k):c∉(strSub x a b).cps.toList:=fun hm=>by
 rw [strSub_toList] at hm
 obtain⟨j,hj⟩:=List.getElem?_of_mem hm
 have dY:j<b - a:=by
  have h1:=(List.getElem?_eq_some_iff.mp hj).1
  simp at h1;omega
 rw [List.getElem?_take_of_lt dY,List.getElem?_drop] at hj
 exact hn (a+j) (by omega) (by omega) (hp _ hj)
theorem xS {x y:Str}{c:Nat} (hp:∀k,x.cps.toList[k]? = some c→At x y x.length k):∀(Hs:List Nat) (a f:Nat),ChainG x y x.length a Hs f→(∀k,f≤k→¬At x y x.length k)→∀p∈partsFrom x y.length a Hs,c∉p.cps.toList
 | [],a,f,h,hn,p,hm=>by
  have h:f=a:=h
  subst h
  rw [List.mem_singleton.mp hm]
  exact Bh hp fun k h1 _=>hn k h1
 | d::r,a,f,h,hn,p,hm=>by
  rcases List.mem_cons.mp hm with rfl|hm
  · exact Bh hp h.2.2.1
  · exact xS hp r _ f h.2.2.2 hn p hm
theorem Ej {x y:Str}{c:Nat} (hy:1≤y.length) (hk:PySem.Builtin.Str.strKind y=1) (hp:∀k,x.cps.toList[k]? = some c→At x y x.length k):∀p∈Txt.split x y,c∉p.cps.toList:=by
 obtain⟨f,hG,hn⟩:=occ_tight x y hy
 have none:(∀k,¬At x y x.length k)→c∉x.cps.toList:=fun h hm=>by
  obtain⟨j,hj⟩:=List.getElem?_of_mem hm
  exact h j (hp j hj)
 have kx:1≤PySem.Builtin.Str.strKind x:=by unfold PySem.Builtin.Str.strKind;split;omega;split<;>omega
 unfold Txt.split
 split
 · rename_i h
   intro p hm
   rw [List.mem_singleton.mp hm]
   refine none fun k hA=>?_
   have:=hA.1
   simp only [Bool.or_eq_true,decide_eq_true_eq] at h
   omega
 · split
   · rename_i h
     intro p hm
     rw [List.mem_singleton.mp hm]
     rw [List.isEmpty_iff.mp h] at hG
     have:f=0:=hG
     exact none fun k hA=>hn k (by omega) hA
   · rw [partsBetween_eq]
     exact xS hp _ 0 f hG hn
theorem rz (x y:Str):Txt.split x y≠[]:=fun e=>by
 have:=split_pos x y
 rw [e] at this
 simp at this
theorem rL {c:Nat}{r:List Nat} (ds:List Str) (hr:c∉r) (hk:PySem.Builtin.Str.strKind (⟨(c::r).toArray⟩:Str)=1) (h0:ds≠[]) (hd:∀d∈ds,c∉d.cps.toList):Txt.split (Txt.join ⟨(c::r).toArray⟩ ds) ⟨(c::r).toArray⟩=ds:=by
 have ej:Txt.join (⟨(c::r).toArray⟩:Str) ds=Str.join ⟨(c::r).toArray⟩ ds:=glued_eq_join _ _
 rw [ej]
 generalize hx:Str.join (⟨(c::r).toArray⟩:Str) ds=x
 have ex:x.cps.toList=jn (c::r) (ds.map fun d=>d.cps.toList):=by rw [←hx,gR]
 have LM:∀d∈ds.map (fun d:Str=>d.cps.toList),c∉d:=fun d h=>by
  obtain⟨e,he,rfl⟩:=List.mem_map.mp h
  exact hd e he
 have mk:=xA hr LM
 rw [←ex] at mk
 have lx:x.cps.toList.length=x.length:=by simp [Str.length]
 have ly:(⟨(c::r).toArray⟩:Str).length=r.length+1:=by simp [Str.length]
 have hp:∀k,x.cps.toList[k]? = some c→At x ⟨(c::r).toArray⟩ x.length k:=fun k h=>by
  have e:=mk k h
  refine⟨?_,?_⟩
  · have:=congrArg List.length e
    simp at this
    rw [ly,←lx]
    simp only [Array.length_toList] at this ⊢
    omega
  · rw [subAt_eq,ly,e];simp
 have no:=Ej (x:=x) (y:=⟨(c::r).toArray⟩) (by rw [ly];omega) hk hp
 have js:=join_split x ⟨(c::r).toArray⟩
 have ne:=rz x ⟨(c::r).toArray⟩
 generalize Txt.split x ⟨(c::r).toArray⟩=ps at no js ne
 have e2:jn (c::r) (ps.map fun d=>d.cps.toList)=jn (c::r) (ds.map fun d=>d.cps.toList):=by rw [←ex,←js,gR]
 have e3:=DE (by simpa using ne) (by simpa using h0) (fun d h=>by
  obtain⟨e,he,rfl⟩:=List.mem_map.mp h
  exact no e he) LM e2
 exact List.map_inj_right (fun a b h=>Str.ext' (Array.toList_inj.mp h)) |>.mp e3
theorem vf (m:List Nat):∀ds:List (List Nat),(jn m ds).length≤(ds.map List.length).sum+ds.length*m.length
 | []=>by simp [jn]
 | [d]=>by simp [jn]
 | d::e::r=>by
  have:=vf m (e::r)
  simp only [jn,List.length_append,List.map_cons,List.sum_cons,List.length_cons,Nat.add_mul] at this ⊢
  omega
end L2
namespace L2
open PySem PySem.Spec PyProof.Rows
noncomputable def KD (P:Program) (w:World) (K:PySem.W.Frag) (a:Addr) (aK:List (Key×V)):Prop:=
 (a==sysModules)=false∧∃o es ep vs,K.lookup a=some o∧o.ExactDict∧o.data = .dict es ep∧KeysOf (bY P w) es∧Pairs (bY P w) es.toList vs∧(vs.map (·.1)).Nodup∧KV aK vs
noncomputable def vv (K:PySem.W.Frag) (a:Addr) (xs:List V):Prop:=∃(o:Obj) (aq:Array Value) (n:Nat),K.lookup a=some o∧o.cls = .type "tuple"∧o.data = .seq aq n∧aq.size≤sizeLine∧Vals xs aq.toList
theorem vv.sq {K:PySem.W.Frag}{a:Addr}{xs:List V} (h:vv K a xs) (H:Hp):jr K H a xs:=.inr h
theorem KD.at {P:Program}{w:World}{K:PySem.W.Frag}{a:Addr}{aK:List (Key×V)}{h:Heap} (d:KD P w K a aK) (k:K.In h):∃vs,KV aK vs∧h.DictOf (bY P w) a vs:=by
 obtain⟨_,o,es,ep,vs,l,h1,h2,h3,h4,h5,h6⟩:=d
 exact⟨vs,h6,o,es,ep,k _ _ l,h1,h2,h3,h4,h5⟩
noncomputable def Kx (aK:List (Key×V)) (ty:TE):TE:=fun σ H Q=>ty σ H fun y H1=>∃k v,y=kV k∧dc aK k=some v∧Q v H1
noncomputable def A4 (aK:List (Key×V)) (ty:TE):TE:=fun σ H Q=>ty σ H fun y H1=>∃k,y=kV k∧Q (.bl (!(dc aK k).isSome)) H1
theorem JC {aK:List (Key×V)}{ty:TE}{σ:St}{H:Hp}{Q:VK}:Kx aK ty σ H Q=(ty σ H fun y H1=>∃k v,y=kV k∧dc aK k=some v∧Q v H1):=(rfl)
theorem Cn {aK:List (Key×V)}{ty:TE}{σ:St}{H:Hp}{Q:VK}:A4 aK ty σ H Q=(ty σ H fun y H1=>∃k,y=kV k∧Q (.bl (!(dc aK k).isSome)) H1):=(rfl)
section
variable {X : Cx} {i : Expr} {n : Str} {p pos : Pos} {ty : TE} {a : Addr} {aK : List (Key × V)}
theorem Hz (d:KD X.prog X.w X.K a aK) (hg:Gl X n) (hm:X.mg n=some (.ref a)) (hi:PE X i ty) (hs:PR i) (hd:(n==("__debug__":Str))=false:=by decide):PE X (.Subscript (.Name n p) i pos) (Kx aK ty):=by
 intro pins s σ H Q I h
 refine Ib PySem.F.slot_dict_getitem.lookup hs (je I hg hm (bD (hi pins s σ H _ I h) fun iv s2 ⟨y,H2,I2,ry,k,v,ey,l,q2⟩=>?_) hd)
 subst ey
 obtain⟨vs,rel,dd⟩:=d.at I2.rq
 obtain⟨w',hw,OA⟩:=qD.some_of (v:=v) (o:=valueAt vs k) (by rw [←l];exact rel.val k)
 exact⟨dd.typeIs,wpAny_getItem_of (x5 ry) dd.mapOf hw ⟨v,H2,I2.tok _,OA,q2⟩⟩
theorem Cm (d:KD X.prog X.w X.K a aK) (hg:Gl X n) (hm:X.mg n=some (.ref a)) (hi:PE X i ty) (hd:(n==("__debug__":Str))=false:=by decide):PC X .NotIn i (.Name n p) (A4 aK ty):=by
 intro pins s σ H Q I h
 refine bD (hi pins s σ H _ I h) fun iv s2 ⟨y,H2,I2,ry,k,ey,q2⟩=>je I2 hg hm ?_ hd
 subst ey
 obtain⟨vs,rel,dd⟩:=d.at I2.rq
 refine wpAny_notIn_of (x5 ry) d.1 dd.mapOf ?_
 rw [←(rel.val k).kU]
 exact⟨.bl _,H2,I2.tok _,rfl,q2⟩
end
theorem kd4 {P:Program}{w:World}{K:PySem.W.Frag}{a:Addr}{x1 x2 x3 x4:Str}{t1 t2 t3 t4:Addr}{h1 h2 h3 h4:Int}{k1 k2 k3 k4:Tok}{ep:Nat} (ns:(a==sysModules)=false)
 (l:K.lookup a=some {cls:=.type "dict",dict:=none,data:=.dict #[⟨h1,.str x1 k1,.ref t1⟩,⟨h2,.str x2 k2,.ref t2⟩,⟨h3,.str x3 k3,.ref t3⟩,⟨h4,.str x4 k4,.ref t4⟩] ep,slots:=#[]})
 (e1:h1=hashStr w x1) (e2:h2=hashStr w x2) (e3:h3=hashStr w x3) (e4:h4=hashStr w x4) (nd:[x1,x2,x3,x4].Nodup) :
 KD P w K a [(.inr x1,.ref t1),(.inr x2,.ref t2),(.inr x3,.ref t3),(.inr x4,.ref t4)]:=by
 have is:∀(x:Str) (k:Tok),(bY P w).is (.inr x) (.str x k)=true:=fun x k=>by
  show Value.isStrOf x (.str x k)=true
  simp [Value.isStrOf]
 refine⟨ns,_,_,ep,[(.inr x1,.ref t1),(.inr x2,.ref t2),(.inr x3,.ref t3),(.inr x4,.ref t4)],l,⟨rfl,rfl,rfl⟩,rfl,fun e he=>?_,?_,?_,?_⟩
 · simp only [List.mem_toArray,List.mem_cons,List.not_mem_nil,or_false] at he
   rcases he with rfl|rfl|rfl|rfl
   · exact⟨.inr x1,is _ _,e1⟩
   · exact⟨.inr x2,is _ _,e2⟩
   · exact⟨.inr x3,is _ _,e3⟩
   · exact⟨.inr x4,is _ _,e4⟩
 · exact .cons (is _ _) rfl (.cons (is _ _) rfl (.cons (is _ _) rfl (.cons (is _ _) rfl .nil)))
 · have:[Sum.inr x1,Sum.inr x2,Sum.inr x3,Sum.inr x4]=([x1,x2,x3,x4].map Sum.inr:List Key):=rfl
   show [Sum.inr x1,Sum.inr x2,Sum.inr x3,(Sum.inr x4:Key)].Nodup
   rw [this]
   exact List.Pairwise.map _ (fun a b h=>by simpa using h) nd
 · exact .cons ⟨rfl,rfl⟩ (.cons ⟨rfl,rfl⟩ (.cons ⟨rfl,rfl⟩ (.cons ⟨rfl,rfl⟩ .nil)))
theorem Xx {K:PySem.W.Frag}{a:Addr}{x1 x2:Str}{k1 k2:Tok}{n:Nat}{od:Option Addr}{sl:Array (Option Value)} (l:K.lookup a=some ⟨.type "tuple",od,.seq #[.str x1 k1,.str x2 k2] n,sl⟩):vv K a [.str x1,.str x2]:=
 ⟨_,_,n,l,rfl,rfl,(show 2≤sizeLine by decide),.cons ⟨_,rfl⟩ (.cons ⟨_,rfl⟩ .nil)⟩
theorem kt4 {K:PySem.W.Frag}{a:Addr}{x1 x2 x3 x4:Str}{k1 k2 k3 k4:Tok}{n:Nat}{od:Option Addr}{sl:Array (Option Value)} (l:K.lookup a=some ⟨.type "tuple",od,.seq #[.str x1 k1,.str x2 k2,.str x3 k3,.str x4 k4] n,sl⟩):vv K a [.str x1,.str x2,.str x3,.str x4]:=
 ⟨_,_,n,l,rfl,rfl,(show 4≤sizeLine by decide),.cons ⟨_,rfl⟩ (.cons ⟨_,rfl⟩ (.cons ⟨_,rfl⟩ (.cons ⟨_,rfl⟩ .nil)))⟩
end L2
namespace L2
open PySem PySem.Spec PyProof.Rows
section
variable {X : Cx}
noncomputable def BN (x:Str):Value→Bool | .str y _=>y==x|_=>false
theorem u7:∀{ys:List Str}{aq:List Value},Vals (ys.map V.str) aq→aq.countP (BN z)=ys.countP fun y=>decide (y=z)
 | [],_,.nil=>rfl
 | y::ys,_,.cons r rr=>by
  obtain⟨t,rfl⟩:=r
  rw [List.countP_cons,List.countP_cons,u7 rr]
  have:BN z (.str y t)=decide (y=z):=by
   show (y==z)=_
   rw [Bool.eq_iff_iff];simp
  rw [this]
theorem uB:∀{ys:List Str}{aq:List Value},Vals (ys.map V.str) aq→∀v∈aq,∃y t,v = .str y t
 | [],_,.nil,v,h=>by simp at h
 | y::ys,_,.cons r rr,v,h=>by
  obtain⟨t,rfl⟩:=r
  rcases List.mem_cons.mp h with rfl|h
  · exact⟨y,t,rfl⟩
  · exact uB rr v h
noncomputable def BD:V→List V→Hp→VK→Prop:=fun x vs H Q=>∃(l:Addr) (ys:List Str) (z:Str),x = .ref l∧vs=[.str z]∧H l=some (.lst (ys.map V.str))∧Q (.int (ys.countP fun y=>decide (y=z):Nat)) H
theorem C8:G0 X "list.count" BD:=by
 intro pins s σ H x vs v us Q I rx rv h
 obtain⟨l,ys,z,rfl,rfl,hH,q⟩:=h
 cases rx
 obtain⟨u,rfl,ru⟩:=rv.one
 obtain⟨t,rfl⟩:=ru
 obtain⟨_,aq,n,r,hl,e⟩:=I.zZ hH
 refine call_meets F.slot_list_count ⟨_,e,rfl⟩ F.entry_list_count (F.args_list_count_2 _ _) (PySem.SeqAt.list_countAt l aq.toArray n _ _ (.str z t) (BN z)) ⟨e,fun y hy=>?_,?_⟩
 · obtain⟨a,t',rfl⟩:=uB r y (by simpa using hy)
   exact PySem.SeqAt.EqAt.str_str a t' z t
 · have:=u7 (z:=z) r
   refine⟨.int (ys.countP fun y=>decide (y=z):Nat),H,I.kept (t':=s.toks+1) fun b o e=>e,⟨s.toks,?_⟩,q⟩
   show Value.int (aq.countP (BN z):Nat) s.toks = .int (ys.countP fun y=>decide (y=z):Nat) s.toks
   rw [this]
theorem Dr {x:V}{vs:List V}{H:Hp}{Q:VK}:BD x vs H Q=(∃(l:Addr) (ys:List Str) (z:Str),x = .ref l∧vs=[.str z]∧H l=some (.lst (ys.map V.str))∧Q (.int (ys.countP fun y=>decide (y=z):Nat)) H):=(rfl)
theorem vV {P:Program}{w:World}{A:Around}{is:List Int}{aq:List Value} (r:Vals (is.map V.int) aq):TruthOf P w A (fun i v=>aq.toArray[i]? = some v) (fun i=>(is.map fun j=>j != 0).getD i false):=fun i v s Q E hv hq=>by
 have tL:aq[i]? = some v:=by simpa using hv
 have hi:i<aq.length:=(List.getElem?_eq_some_iff.mp tL).1
 have hb:i<is.length:=by have:=r.length;simp at this;omega
 obtain⟨u,hu,t,ru⟩:=r.get (i:=i) (x:=.int is[i]) (by simp [hb])
 rw [tL] at hu;cases hu
 subst ru
 have e:(is.map fun j=>j != 0).getD i false=(is[i] != 0):=by simp [List.getD,hb]
 have OT:Q ((is.map fun j=>j != 0).getD i false) s:=hq
 rw [e] at OT
 exact PySem.P.truthy_int OT
theorem Cp (hc:X.calm=true):ck X (.builtin "any") (fun xs H Q=>∃(a:Addr) (is:List Int),xs=[.ref a]∧fD X.K H a (is.map V.int)∧Q (.bl (is.any fun j=>j != 0)) H):=by
 intro pins s σ H xs us Q I r h
 obtain⟨a,is,rfl,hq,q⟩:=h
 obtain⟨u,rfl,ru⟩:=vals1 r
 cases ru
 obtain⟨aq,rv,p,hz⟩:=I.list hq
 have I1:Inv X pins σ H {s with heap:=s.heap.push {cls:=.type "list_iterator",data:=.fields #[.ref a,.int 0 0]}}:=I.kept (t':=s.toks) fun b o e=>Heap.get?_push_of_some _ e
 have fp:=I.lG (b:=s.heap.objs.size) (Nat.le_refl _) (I.aO.fresh (Nat.le_refl _))
 have hl:=rv.length
 have dY:a<s.heap.objs.size:=by obtain⟨o,ho,_⟩:=p.isList;exact Heap.lt_size ho
 refine call_any_walk (wpAny_pyIter_list p.isList ⟨s.heap.objs.size,[s.heap.objs.size,a],[s.heap.objs.size],aq.toArray.size,_,_,fun i=>(is.map fun j=>j != 0).getD i false,rfl,
  Walks.list (A:=X.A.in1) (show X.A.in1.handled=none from I.ok.hd hc) _ _ (Nat.ne_of_lt dY) aq.toArray,⟨⟨_,Heap.get?_push_size _ rfl,rfl,rfl⟩,p.isList.push _⟩,vV rv,fun h' tk kk=>?_⟩)
 refine⟨.bl (is.any fun j=>j != 0),H,I1.turned (fun b o hb e=>kk b o (by simpa using hb) e) fp.1 fp.2.1 fp.2.2.2.1 fp.2.2.2.2.1 fp.2.2.2.2.2,?_,q⟩
 have e:aq.toArray.size=(is.map fun j=>j != 0).length:=by simp at hl ⊢;exact hl.symm
 rw [e,any_range,List.any_map]
 rfl
end
section
variable {X : Cx} {pins : List (Addr × Obj)} {σ : St} {H : Hp} {s : Shared} {scope : Scope} {x y : Str} {N : List Str} {caps : List Nat} {fp : List Addr}
theorem Ex {elt iter:Expr}{px pz pt py pos tJ:Pos}{kx:Nat}{K:PySem.W.Frag}{ifs:List Expr}{wi:TI}{tc:TT}{te:TE}{z:Str}{i:Nat} (cH:X.calm=true) (hK:X.K=K) (S:CS2 X scope x y N caps) (hi:PI X (.Tuple [.Name x px,.Name y pz] kx pt) iter wi)
 (hc:∀C s H ex,fe (lD X N scope C s H ex) ifs tc) (he:∀C s H ex,PE (lD X N scope C s H ex) elt te) (hN:X.N.Nodup) (hy:X.N[i]? = some z) (hx:X.env.scope.names.lookup z=some .local)
 (MK:swapsWith (.ListComp elt [⟨.Tuple [.Name x px,.Name y pz] kx pt,iter,ifs,0⟩] scope pos) (some (.Name z py)) tJ.line X.env=pure true) (hs:∀x,foldedSetIterable iter X.env x=pure x:=by intro _;rfl) :
 PS X (.Assign [.Name z py] (.ListComp elt [⟨.Tuple [.Name x px,.Name y pz] kx pt,iter,ifs,0⟩] scope pos) tJ) (fun D σ H=>sC K wi caps tc te σ H fun v H1=>D.nx (σ.set i (some v)) H1):=by
 intro pins s σ H D I h
 subst hK
 rw [exec_Assign_Name_used _ _ _ _ MK]
 refine wpAny_bind (wpAny_standAt (wpAny_bind ?_))
 show wpAny _ X.A (do let _ ←comprehension (.ListComp elt [⟨.Tuple [.Name x px,.Name y pz] kx pt,iter,ifs,0⟩] scope pos) scope X.env _ (newList []) false (eval iter X.env) (some (assign (.Name z py) X.env))) _ _ s
 refine wpAny_bind (wpAny_mono (wpAny_comprehension_free (use:=some (assign (.Name z py) X.env)) (Q:=fun _ s'=>SP X pins D .next s') rfl hs (dZ (S.c.cells I.ok)) S.kind S.c.names
  (bD (hi pins s σ H _ I h) fun xv s1 h1=>bD h1 fun MV s2 h2=>?_)) (fun _ s' hq=>wpAny_pure (wpAny_pure hq)) fun _ _ e=>e)
 obtain⟨it,fp,tn,J,H2,e,I2,T,jI,f2,wc⟩:=h2
 subst e
 refine x6 (RR:=fun acc C=>compPost (model X.prog X.w) X.A X.xe (some (assign (.Name z py) X.env)) (fun _ s'=>SP X pins D .next s') acc C) cH S hc he I2 T jI f2 wc fun d C s' m' H' ys I' q hn fC SY=>?_
 show wpAny _ X.A (assign (.Name z py) X.env (.ref d)) _ _ _
 refine wpAny_assign_Name (oj I' hN hy (.inl hx) (v:=.ref d) rfl (fun xk I'' ⟨a,hs,ha⟩=>?_) (.inr hx))
 have bH:C≠a:=by
  rcases ha with rfl|ha
  · exact SY
  · exact fun z=>fC.2.2.2.2.1 _ _ ha z.symm
 refine⟨m',hn.sameBut hs bH,fun h' dJ=>⟨_,_,I''.turned (t':=xk.toks) (fun b o hb e=>(dJ.2 b hb).trans e) fC.1 fC.2.1 fC.2.2.2.1 fC.2.2.2.2.1 fC.2.2.2.2.2,q⟩⟩
noncomputable def EB (K:PySem.W.Frag) (i:Nat) (wi:TI) (caps:List Nat) (tc:TT) (te:TE):TS:=fun D σ H=>sC K wi caps tc te σ H fun v H1=>D.nx (σ.set i (some v)) H1
theorem FO {elt iter:Expr}{px pz pt py pos tJ:Pos}{kx:Nat}{K:PySem.W.Frag}{ifs:List Expr}{wi:TI}{tc:TT}{te:TE}{z:Str}{i:Nat} (cH:X.calm=true) (hK:X.K=K) (S:CS2 X scope x y N caps) (hi:PI X (.Tuple [.Name x px,.Name y pz] kx pt) iter wi)
 (hc:∀C s H ex,fe (lD X N scope C s H ex) ifs tc) (he:∀C s H ex,PE (lD X N scope C s H ex) elt te) (hN:X.N.Nodup) (hy:X.N[i]? = some z) (hx:X.env.scope.names.lookup z=some .local)
 (MK:swapsWith (.ListComp elt [⟨.Tuple [.Name x px,.Name y pz] kx pt,iter,ifs,0⟩] scope pos) (some (.Name z py)) tJ.line X.env=pure true) (hs:∀x,foldedSetIterable iter X.env x=pure x:=by intro _;rfl) :
 PS X (.Assign [.Name z py] (.ListComp elt [⟨.Tuple [.Name x px,.Name y pz] kx pt,iter,ifs,0⟩] scope pos) tJ) (EB K i wi caps tc te):=Ex cH hK S hi hc he hN hy hx MK hs
theorem GN {K:PySem.W.Frag}{i:Nat}{wi:TI}{caps:List Nat}{tc:TT}{te:TE}{D:Ends}{σ:St}{H:Hp}:EB K i wi caps tc te D σ H=(sC K wi caps tc te σ H fun v H1=>D.nx (σ.set i (some v)) H1):=(rfl)
end
theorem FK {X:Cx}{K:PySem.W.Frag}{o e:Expr}{es:List Expr}{to:TE}{t:TA}{name:Str}{apos eY:Pos}{T id:String}{r:V→List V→Hp→VK→Prop} (hK:X.K=K) (pa:PlainAttrs T) (slot:Slot T name id) (GY:typeOf (.builtin id)=pure (.type "method_descriptor")) (hm:G0 X id r) (ho:PE X o to) (ha:PA X (e::es) t)
 (h1:attributeBase o name X.env (eval o X.env)=eval o X.env:=by rfl)
 (h2:((backTo eY (starEach (e::es) X.env)).all (fun x=>!x.1)&&(backToKw eY (keywordEach [] X.env)).all (fun x=>x.1.isSome)&&decide ((e::es).length+([]:List Keyword).length+(if ([]:List Keyword).isEmpty then 0 else 1)<30))=true:=by rfl)
 (h3:(apos.endLine==eY.line)=true:=by rfl) (h4:starEach (e::es) X.env=(false,eval e X.env)::starEach es X.env:=by rfl) (h5:(backTo eY (starEach es X.env)).any (·.1)=false:=by rfl) :
 PE X (.Call (.Attribute o name apos) (e::es) [] eY) (tBM K T r to t):=hK▸lV pa slot GY hm ho ha h1 h2 h3 h4 h5
end L2
namespace L2
open PySem PySem.Spec PyProof.Rows
open PySem.W (hideAll hideAll_get hideAll_none of_hideAll funFrames_hide fresh_of_stays flyingW_base)
section
variable {M : Model} {A : Around} {E : Value→Shared→Prop} {s : Shared}
theorem CH {B:Heap}{l:List Env}{e L:Addr}{cls a0:Value}{Q:Unit→Shared→Prop} (R:Heap.HeldW B l e cls a0 L s.heap)
 (h:∀h',Heap.HeldW B l e cls a0 L h'→(∀b o,s.heap.get? b=some o→(∀vs,o.data ≠ .fields vs)→h'.get? b=some o)→Q () {s with heap:=h'}):wpAny M A (setFlight (.ref e) (some L)) Q E s:=by
 obtain⟨k1,k2,k3,oe,vs,T,oT,ts,g1,g2,g3,g4,g5,g6,g7,g8,g9⟩:=R
 have hs:3<ts.size:=(Array.getElem?_eq_some_iff.mp g9).1
 have RV:∀b,b≠T→(s.heap.update T (Obj.mapFields (·.setIfInBounds 3 ((some L).elim Value.none fun f=>rawInt f)))).get? b=s.heap.get? b:=fun b hb=>Heap.get?_update_other _ _ (Ne.symm hb)
 have nr:∀b o,s.heap.get? b=some o→(∀vs,o.data ≠ .fields vs)→b≠T:=fun b o hb hn q=>by
  rw [q,g7] at hb;cases hb;exact hn ts g8
 unfold setFlight
 refine wpAny_bind (wpAny_field g1 g3 g4 ?_)
 rw [if_pos (by simp)]
 refine wpAny_setField g7 g8 hs (h _ ⟨fun b o Tz=>(RV b fun q=>by rw [q,g5] at Tz;cases Tz).trans (k1 b o Tz),k2,k3.of_keeps fun b o hb hn=>⟨o,(RV b (nr b o hb hn)).trans hb,rfl⟩,?_⟩ fun b o hb hn=>(RV b (nr b o hb hn)).trans hb)
 exact⟨oe,vs,T,_,_,(RV e (Ne.symm g6)).trans g1,g2,g3,g4,g5,g6,Heap.get?_update_self _ g7 (Obj.isFreed_of_fields (Obj.data_mapFields g8 _)),Obj.data_mapFields g8 _,by simp [hs]⟩
theorem rh {B B' h h':Heap}{C:Addr} (sb:Heap.SameBut C h h') (st:B'.StaysIn B):∀{l:List Env},C∉cR l→h.FunFrames B l→h'.FunFrames B' l
 | [],_,_=>trivial
 | env::l,hC,⟨k,⟨L,o,e1,e2,e3,e4⟩,r⟩=>by
  have hL:cR (env::l)=L::cR l:=by show List.filterMap _ _=_;rw [List.filterMap_cons_some e1];rfl
  rw [hL] at hC
  have hC:¬(C=L∨C∈cR l):=fun z=>hC (List.mem_cons.mpr z)
  refine⟨k,⟨L,o,e1,?_,(sb.2 L fun z=>hC (.inl z.symm)).trans e3,e4⟩,rh sb st (fun z=>hC (.inr z)) r⟩
  cases hh:B'.get? L with
  | none=>rfl
  | some o'=>have:=st L o' hh;rw [e2] at this;cases this
theorem FE {B B' h h':Heap}{l:List Env}{e C L:Addr}{cls a0:Value}{oC:Obj} (R:Heap.HeldW B l e cls a0 L h) (sb:Heap.SameBut C h h') (hf:C∉cR l) (he:e≠C) (hB:B.get? C=some oC) (st:B'.StaysIn B) (hB':B'.get? C=none):Heap.HeldW B' l e cls a0 L h':=by
 obtain⟨k1,k2,k3,oe,vs,T,oT,ts,g1,g2,g3,g4,g5,g6,g7,g8,g9⟩:=R
 have no:∀b,B.get? b=none→B'.get? b=none:=fun b hb=>by
  cases hh:B'.get? b with
  | none=>rfl
  | some o=>have:=st b o hh;rw [hb] at this;cases this
 have hT:T≠C:=fun z=>by rw [z,hB] at g5;cases g5
 exact⟨fun b o q=>(sb.2 b fun z=>by rw [z,hB'] at q;cases q).trans (k1 b o (st b o q)),no e k2,rh sb st hf k3,oe,vs,T,oT,ts,(sb.2 e he).trans g1,g2,g3,g4,no T g5,g6,(sb.2 T hT).trans g7,g8,g9⟩
end
section
variable {X : Cx} {pins : List (Addr × Obj)} {σ : St} {H : Hp} {s : Shared} {E : XK}
theorem EN (L:Lv X E) {H':Hp}{h1 h':Heap}{s1:Shared}{e C T0 Cb:Addr}{a0:Value}{oC:Obj} (I:Inv X pins σ H s) (un:Un (cR X.stack) [] H H' s.heap h1) (aO:fN X.prog X.w H' h1)
 (ne:H' e=none) (nT:H' T0=none) (fC:bR X pins H Cb) (gC:s.heap.get? Cb=some oC) (ge:s.heap.get? e=none) (gT:s.heap.get? T0=none)
 (fl:Heap.FlyingW (hideAll h1 (e::T0::Cb::cR X.stack)) X.outer e (.ref C) a0 h')
 (sm:∀b o,b≠Cb→h1.get? b=some o→(∀vs,o.data ≠ .fields vs)→∃sl,h'.get? b=some {o with slots:=sl}) (os:s1.os=s.os) (bare:AllBare s1.gens) (q:E (.ref C) none H') :
 CXE X.prog X.w X.outer X.H₀ X.s₀ E (.ref e) {s1 with heap:=h'}:=by
 have ex:=L.ex
 have xM:=L.qT
 have fs:cR X.stack=X.env.locals::X.fs:=by rw [xM];show List.filterMap _ _=_;rw [List.filterMap_cons_some L.fr];rfl
 have nCb:H' Cb=none:=un.free Cb oC gC fC.1 (by simp)
 have Qx:∀b o,X.s₀.heap.get? b=some o→b≠Cb:=fun b o q z=>by
  have h1:=Heap.lt_size q
  rcases fC.2.2.2.1 with h2|h2
  · rw [ex] at h2;simp at h2
  · exact absurd (Nat.lt_of_lt_of_le h1 h2) (by rw [z];exact Nat.lt_irrefl _)
 have PX:Cb∉cR X.stack:=by rw [fs];simp only [List.mem_cons,not_or];exact⟨fC.2.1,fC.2.2.1⟩
 have gP:∀b o,h1.get? b=some o→b≠e→b≠T0→b≠Cb→b∉cR X.stack→h'.get? b=some o:=fun b o q n1 n2 n4 n3=>fl.1 b o (hideAll_get _ q (by simp [n1,n2,n3,n4]))
 have G3:∀b∈cR X.stack,∃o,h1.get? b=some o∧∀vs,o.data ≠ .fields vs:=fun b hb=>by
  obtain⟨o,ho,hn⟩:=I.iQ hb
  obtain⟨sl,e1⟩:=un.any ho (I.ia b hb) (by simp)
  exact⟨_,e1,hn⟩
 have Qu:∀b∈cR X.stack,H' b=none:=fun b hb=>by
  obtain⟨o,ho,hn⟩:=I.iQ hb
  exact un.free b o ho (I.ia b hb) (by simp)
 have frC:∀b∈cR X.stack,b≠Cb:=fun b hb z=>PX (z▸hb)
 obtain⟨T,hB,F,oT,ts,hT,dT⟩:=xX.mk fl
 have old:∀b o,X.s₀.heap.get? b=some o→∃o',s.heap.get? b=some o':=fun b o q=>I.base.there b o q (by rw [ex];simp)
 have yu:∀o,h1.get? T=some o→T=e∨T=T0∨T=Cb∨T∈cR X.stack:=fun o ho=>by
  by_cases Qn:T=e
  · exact .inl Qn
  by_cases Pd:T=T0
  · exact .inr (.inl Pd)
  by_cases h4e:T=Cb
  · exact .inr (.inr (.inl h4e))
  by_cases PN:T∈cR X.stack
  · exact .inr (.inr (.inr PN))
  · rw [hideAll_get _ ho (by simp [Qn,Pd,PN,h4e])] at hB;cases hB
 have D9:¬T∈cR X.stack:=fun hb=>by
  obtain⟨o,ho,hn⟩:=G3 T hb
  obtain⟨sl,e1⟩:=sm T o (frC T hb) ho hn
  rw [hT] at e1
  cases e1
  exact hn _ dT
 refine⟨e,C,T,H',rfl,F,⟨ne,?_,?_,?_⟩,?_,bare,?_,?_,q⟩
 · cases hh:H' T with
   | none=>rfl
   | some o=>
    obtain⟨ob,G1⟩:=pE (aO T o hh)
    rcases yu ob G1 with z|z|z|z
    · rw [z,ne] at hh;cases hh
    · rw [z,nT] at hh;cases hh
    · rw [z,nCb] at hh;cases hh
    · exact absurd z D9
 · cases hh:X.s₀.heap.get? e with
   | none=>rfl
   | some o=>obtain⟨o',h2⟩:=old e o hh;rw [ge] at h2;cases h2
 · cases hh:X.s₀.heap.get? T with
   | none=>rfl
   | some o=>
    obtain⟨o',h2⟩:=old T o hh
    obtain⟨o2,h3⟩:=un.there T o' h2 (by simp)
    rcases yu o2 h3 with z|z|z|z
    · rw [z,ge] at h2;cases h2
    · rw [z,gT] at h2;cases h2
    · exact absurd z (Qx T o hh)
    · exact absurd z D9
 · exact os.trans I.os
 · have nl:∀b o,X.s₀.heap.get? b=some o→b≠X.env.locals:=fun b o q z=>by
    have h1:=Heap.lt_size q
    have h2:=I.ok.above
    exact absurd (Nat.lt_of_lt_of_le h1 h2) (by rw [z];exact Nat.lt_irrefl _)
   refine⟨fun b o q n hb _=>?_,fun b o q n hb _=>?_,fun b o q n _=>?_,fun b o q _=>?_,fun b xs q=>un.bU b xs (I.base.bU b xs q),fun b o u q=>un.fk b o u (I.base.fk b o u q),fun b ps q=>?_⟩
   · have k1:=I.base.keep b o q n hb (by rw [ex];simp)
     have n1:=I.base.free b o q n (by rw [ex];simp)
     have qX:b∉cR X.stack:=by rw [fs];simp [nl b o q];exact hb
     have k2:=un.keep b o k1 n1 qX (by simp)
     exact gP b o k2 (fun z=>by rw [z,ge] at k1;cases k1) (fun z=>by rw [z,gT] at k1;cases k1) (Qx b o q) qX
   · obtain⟨sl,k1⟩:=I.base.slot b o q n hb (by rw [ex];simp)
     have n1:=I.base.free b o q n (by rw [ex];simp)
     have qX:b∈cR X.stack:=by rw [fs];exact List.mem_cons_of_mem _ hb
     obtain⟨JK,k2⟩:=un.slot b _ k1 n1 qX (by simp)
     obtain⟨o',uZ,DH⟩:=G3 b qX
     rw [k2] at uZ
     cases uZ
     obtain⟨Mo,k3⟩:=sm b _ (Qx b o q) k2 DH
     exact⟨Mo,k3⟩
   · obtain⟨o',h2⟩:=old b o q
     exact un.free b o' h2 (I.base.free b o q n (by rw [ex];simp)) (by simp)
   · obtain⟨o',h2⟩:=old b o q
     obtain⟨o2,h3⟩:=un.there b o' h2 (by simp)
     by_cases hb:b∈cR X.stack
     · obtain⟨o3,Pm,O1⟩:=G3 b hb
       obtain⟨sl,k⟩:=sm b o3 (Qx b o q) Pm O1
       exact⟨_,k⟩
     · exact⟨o2,gP b o2 h3 (fun z=>by rw [z,ge] at h2;cases h2) (fun z=>by rw [z,gT] at h2;cases h2) (Qx b o q) hb⟩
   · obtain⟨m1,e1⟩:=I.base.gH b ps q
     obtain⟨m2,e2⟩:=un.gH b _ e1
     exact⟨m1++m2,by rw [e2,Array.append_assoc]⟩
 · intro a o ho
   refine (aO a o ho).gP (fun b u hb q=>?_) (fun _ z=>z) fun _ _ z=>z
   have qX:H' b≠none:=by
    rcases hb with z|z
    · rw [z,ho];simp
    · rw [z];simp
   exact gP b u q (fun z=>qX (by rw [z];exact ne)) (fun z=>qX (by rw [z];exact nT)) (fun z=>qX (by rw [z];exact nCb)) fun z=>qX (Qu b z)
noncomputable def A0 (X:Cx) (C:Addr) (cenv:Env) (x:Value) (xk:Shared):Prop:=
 ∃m,xk.heap.Ns C m∧∀h',Heap.SameBut C xk.heap h'→wpAny (model X.prog X.w) X.A (PySem.passOn "comprehension.variables-let-go" x cenv:Sem Value) (fun _ _=>False) X.xe {xk with heap:=h'}
theorem PK (L:Lv X E) {C:Addr}{m:Str→Option Value}{x:Value}{s':Shared}{cenv KZ:Env} (I:Inv X pins σ H s) (fC:bR X pins H C) (hC:s.heap.Ns C m) (hx:CXE X.prog X.w X.stack H s E x s') (f1:cenv.frame=X.env.frame) (f2:KZ.frame=X.env.frame) :
 notedBy (model X.prog X.w) X.A cenv (A0 X C KZ) x s':=by
 obtain⟨e,Cc,T,H',rfl,⟨a0,fl⟩,⟨n1,n2,g1,g2⟩,os,bare,un,aO,q⟩:=hx
 have JJ:=fl
 rw [L.qT] at JJ
 obtain⟨oC,es,ep,Ri,hdC,rC⟩:=id hC
 have fs:cR X.stack=X.env.locals::X.fs:=by rw [L.qT];show List.filterMap _ _=_;rw [List.filterMap_cons_some L.fr];rfl
 have PX:C∉cR X.stack:=by rw [fs];simp only [List.mem_cons,not_or];exact⟨fC.2.1,fC.2.2.1⟩
 have hC1:=un.keep C oC Ri fC.1 PX (by simp)
 have eC:e≠C:=fun z=>by rw [z,Ri] at g1;cases g1
 have TC:T≠C:=fun z=>by rw [z,Ri] at g2;cases g2
 show wpAny _ X.A (noteFrame (.ref e) cenv) _ _ _
 have en:noteFrame (.ref e) cenv=noteFrame (.ref e) X.env:=by
  unfold noteFrame PySem.frameOf
  rw [f1]
 rw [en]
 refine wpAny_looks_onW (by rw [I.ok.frames,L.qT]) L.fr JJ fun h4 held sm=>?_
 refine⟨m,sm.ns ⟨oC,es,ep,hC1,hdC,rC⟩,fun h5 sb=>?_⟩
 dsimp only at sb ⊢
 have hB:(hideAll s'.heap (e::T::cR (X.env::X.outer))).get? C=some oC:=hideAll_get _ hC1 (by
  rw [←L.qT]
  simp only [List.mem_cons,not_or]
  exact⟨fun z=>eC z.symm,fun z=>TC z.symm,PX⟩)
 have Zf:(hideAll s'.heap (e::T::C::cR X.stack)).StaysIn (hideAll s'.heap (e::T::cR (X.env::X.outer))):=by
  rw [←L.qT]
  exact uq fun a ha=>by
   simp only [List.mem_cons] at ha ⊢
   rcases ha with z|z|z
   · exact .inl z
   · exact .inr (.inl z)
   · exact .inr (.inr (.inr z))
 have Ky:=FE (B':=hideAll s'.heap (e::T::C::cR X.stack)) held sb (by rw [←L.qT];exact PX) eC hB Zf (hideAll_none _ (by simp))
 obtain⟨k1,k2,k3,oe,vs,Tb,oT,ts,j1,j2,j3,j4,j5,j6,j7,j8,j9⟩:=id Ky
 unfold PySem.passOn
 refine wpAny_bind (wpAny_field j1 j3 j4 ?_)
 rw [if_neg (by simp)]
 rw [f2,L.fr]
 refine wpAny_bind (CH Ky fun h6 JV TR=>?_)
 refine wpAny_throw ?_
 refine L.xe _ _ ?_
 unfold leaving
 refine wpAny_bind (wpAny_noteFrame_againW L.fr JV.2.2.2 (wpAny_landsW JV fun h7 fl7 sm7=>?_))
 obtain⟨i1,i2,⟨_,_,i3⟩,i4⟩:=fl7
 refine EN (s1:=s') L I un aO n1 n2 fC Ri g1 g2 ⟨i1,i2,i3,i4⟩ (fun b o hb ho hn=>?_) os bare q
 obtain⟨sl,e4⟩:=sm b o ho hn
 have e5:=(sb.2 b hb).trans e4
 have e6:=TR b _ e5 hn
 obtain⟨sl7,e7⟩:=sm7 b {o with slots:=sl} e6 hn
 exact⟨sl7,e7⟩
end
noncomputable def DG (X:Cx) (E:XK) (N:List Str) (scope:Scope) (C:Addr) (s:Shared) (H:Hp) (ex:List Addr):Cx:=
 (lD X N scope C s H ex).g0 fun x s'=>∃pins σ H1 s1,Inv (lD X N scope C s H ex) pins σ H1 s1∧CXE X.prog X.w X.stack H1 s1 E x s'
theorem JS {X:Cx}{E:XK}{N:List Str}{scope:Scope}{C:Addr}{s:Shared}{H:Hp}{ex:List Addr}:Passes (CXE X.prog X.w) (DG X E N scope C s H ex) E:=fun pins σ H1 s1 x s' I h=>⟨pins,σ,H1,s1,I.cO,h⟩
noncomputable def oz (X:Cx) (Q:Value→Shared→Prop) (acc:Value) (C:Addr) (r:Result) (s':Shared):Prop:=
 match r with
 | .ok _=>∃m,s'.heap.Ns C m∧∀h',Heap.SameBut C s'.heap h'→Q acc {s' with heap:=h'}
 | .error x=>A0 X C X.env x s'
theorem tm {X:Cx}{s:Shared}{e:Expr}{scope:Scope}{pos:Pos}{GI first:Sem Value}{g:Comprehension}{gs:List Comprehension}{cl:List (Str×Addr)}{Q:Value→Shared→Prop}
 (WC:clausesOf e=g::gs) (hs:∀x,foldedSetIterable g.iter X.env x=pure x) (Oy:closureFor scope X.env=pure cl) (BO:scope.kind = .function) (MX:∀x∈scope.names,x.2 = .local→scope.names.lookup x.1=some .local)
 (h:wpAny (model X.prog X.w) X.A first (fun x s₁=>wpAny (model X.prog X.w) X.A (pyIter x) (fun it s₂=>wpAny (model X.prog X.w) X.A GI (fun acc s₃=>wpAny (model X.prog X.w) X.A (newFunctionEnv scope X.env.globals cl [] X.env.qual none .none (some X.env)) (fun cenv s₄=>
   cenv.frame=X.env.frame∧codeAny (model X.prog X.w) X.A (.compStart e 0 it acc {cenv with scope:=relabel scope X.env}) (oz X Q acc cenv.locals) s₄) X.xe s₃) X.xe s₂) X.xe s₁) X.xe s) :
 wpAny (model X.prog X.w) X.A (comprehension e scope X.env pos GI false first none) Q X.xe s:=by
 unfold comprehension
 rw [Oy,WC]
 have Dw:∀{Y:Value→Shared→Prop} (x:Value) (a:Shared),Y x a→Y x a:=fun _ _ z=>z
 refine wpAny_bind (wpAny_mono h (fun x s₁ h₁=>wpAny_bind (wpAny_standAt (wpAny_bind (wpAny_of_eq (hs x) (wpAny_bind (wpAny_holding (wpAny_mono h₁ (fun it s₂ h₂=>wpAny_standIf (wpAny_bind (wpAny_mono h₂ (fun acc s₃ h₃=>wpAny_bind (wpAny_pure (wpAny_bind (wpAny_mono h₃ (fun cenv s₄ h₄=>?_) Dw)))) Dw))) Dw))))))) Dw)
 dsimp only
 obtain⟨W7,h₄⟩:=h₄
 generalize LD:(scope.names.filter fun x=>(x.2 == .local || x.2 == .cell)&&x.1 != (".0":Str)).reverse=vs
 have hv:∀x∈vs,x.2 = .local→Env.kindOf {cenv with scope:=relabel scope X.env} x.1=some .local:=fun x hx hl=>by
  rw [←LD] at hx
  exact lookup_relabel_local (MX x (List.mem_filter.mp (List.mem_reverse.mp hx)).1 hl)
 refine wpAny_holding (wpAny_bind (wpAny_attempt (wpAny_holding (wpAny_run (codeAny_mono h₄ fun r s' hr=>?_)))))
 cases r with
 | ok f=>
  obtain⟨m,hn,hr⟩:=hr
  exact wpAny_bind (wpAny_holding (wpAny_comp_letGo (cenv:={cenv with scope:=relabel scope X.env}) BO _ s' m hv hn fun h' m' _ dJ=>wpAny_pure (hr h' dJ)))
 | error x=>
  obtain⟨m,hn,hr⟩:=hr
  refine wpAny_bind (wpAny_holding (wpAny_comp_letGo (cenv:={cenv with scope:=relabel scope X.env}) BO _ s' m hv hn fun h' m' _ dJ=>?_))
  have z:=hr h' dJ
  have ep:(PySem.passOn "comprehension.variables-let-go" x X.env:Sem Value)=PySem.passOn "comprehension.variables-let-go" x {cenv with scope:=relabel scope X.env}:=by
   unfold PySem.passOn
   dsimp only
   rw [W7]
  rw [ep] at z
  exact wpAny_mono z (fun _ _ f=>f.elim) Dw
section
variable {X : Cx} {pins : List (Addr × Obj)} {σ : St} {H : Hp} {s : Shared} {scope : Scope} {x : Str} {N : List Str} {caps : List Nat} {fp : List Addr}
theorem xF {elt iter:Expr}{px pos:Pos}{ifs:List Expr}{tc:TT}{te:TE}{J:It}{it:Addr}{tn:Nat→Heap→Prop}{Q:VK}{RR:Value→Addr→Result→Shared→Prop}{E:Value→Shared→Prop}{E0:XK}
 (cH:X.calm=true) (S:si X scope x N caps) (hc:∀C s H ex,fe (lD X N scope C s H ex) ifs tc) (he:∀C s H ex,PE (DG X E0 N scope C s H ex) elt te)
 (I:Inv X pins σ H s) (T:Turn X.prog X.w X.K (.Name x px) J fp it tn) (t0:tn 0 s.heap) (hf:∀b∈fp,bR X pins H b) (wc:jC J caps tc te σ H Q)
 (fin:∀D C s' m' H' ys,Inv X pins σ (upd H' D (.lst ys)) s'→Q (.ref D) (upd H' D (.lst ys))→s'.heap.Ns C m'→bR X pins (upd H' D (.lst ys)) C→C≠X.env.locals→RR (.ref D) C (.ok .next) s')
 (err:∀D C s1 m1 H1 x s',Inv X pins σ H1 s1→bR X pins H1 C→s1.heap.Ns C m1→CXE X.prog X.w X.stack H1 s1 E0 x s'→∀cenv:Env,cenv.frame=X.env.frame→notedBy (model X.prog X.w) X.A cenv (fun e xk=>RR (.ref D) C (.error e) xk) x s') :
 wpAny (model X.prog X.w) X.A (newList []) (fun acc s₃=>wpAny (model X.prog X.w) X.A (newFunctionEnv scope X.env.globals (fS X.env.cells scope.names) [] X.env.qual none .none (some X.env)) (fun cenv s₄=>cenv.frame=X.env.frame∧
  codeAny (model X.prog X.w) X.A (.compStart (.ListComp elt [⟨.Name x px,iter,ifs,0⟩] scope pos) 0 (.ref it) acc {cenv with scope:=relabel scope X.env}) (RR acc cenv.locals) s₄) E s₃) E s:=by
 refine wpAny_newObj_type (wpAny_newFunctionEnv S.sh (by intro y hy;simp at hy) (fun h₁ gL iZ=>?_) S.kind)
 dsimp only at gL iZ ⊢
 refine⟨rfl,?_⟩
 generalize Ao:s.heap.push {cls:=.type "list",dict:=none,data:=.seq ([]:List Value).toArray}=H2 at gL iZ ⊢
 have hC:H2.objs.size=s.heap.objs.size+1:=by rw [←Ao,Heap.size_push]
 have vZ:s.heap.objs.size≠H2.objs.size:=by rw [hC];exact Nat.ne_of_lt (Nat.lt_succ_self _)
 have below:∀b,b<s.heap.objs.size→b≠H2.objs.size:=fun b hb=>by rw [hC];exact Nat.ne_of_lt (Nat.lt_succ_of_lt hb)
 have old:∀b o,s.heap.get? b=some o→h₁.get? b=some o:=fun b o e=>iZ.extBut b o (below b (Heap.lt_size e)) (Heap.get?_push_of_some _ (Ao▸Heap.get?_push_of_some _ e))
 have rR:h₁.get? s.heap.objs.size=some (lobj [] 0):=iZ.extBut _ _ vZ (Heap.get?_push_of_some _ (Ao▸Heap.get?_push_size _ rfl))
 have dY:∀b∈fp,b<s.heap.objs.size:=fun b hb=>by
  obtain⟨o,e,_⟩:=T.obj 0 _ t0 b hb
  exact Heap.lt_size e
 have mz:s.heap.objs.size∉fp:=fun z=>Nat.lt_irrefl _ (dY _ z)
 have dG:bR X pins H s.heap.objs.size:=I.lG (Nat.le_refl _) (I.aO.fresh (Nat.le_refl _))
 have ip:bR X pins H H2.objs.size:=I.lG (by rw [hC];exact Nat.le_succ _) (I.aO.fresh (by rw [hC];exact Nat.le_succ _))
 rw [hC] at gL vZ ip ⊢
 clear hC
 generalize hD:s.heap.objs.size=D at rR mz dG vZ
 have IY:=Bx S I hf dY (h₁:=h₁) (tk:=s.toks+([]:List (Str×Value)).length) gL old
 rw [hD] at IY gL ip
 generalize hY:lD X N scope (D+1) s H (D::fp)=Y at IY
 have jb:Y.env=compEnvC scope (fS X.env.cells scope.names) (D+1) X.env:=by rw [←hY];rfl
 have nj:Y.ex=D::fp:=by rw [←hY];rfl
 have Jm:Y.fs=cR X.stack:=by rw [←hY];rfl
 have Gw:Y.pn=[]:=by rw [←hY];rfl
 have mm:Y.env.locals=D+1:=by rw [jb];rfl
 have Ml:fe Y ifs tc:=by rw [←hY];exact hc _ _ _ _
 obtain⟨Ei,Gs⟩:∃Ei:Value→Shared→Prop,Ei=fun x s'=>∃pins σ H1 s1,Inv Y pins σ H1 s1∧CXE X.prog X.w X.stack H1 s1 E0 x s':=⟨_,rfl⟩
 have NA:PE (Y.g0 Ei) elt te:=by rw [Gs,←hY];exact he _ _ _ _
 have NG:Y.prog=X.prog∧Y.w=X.w∧Y.K=X.K∧Y.calm=X.calm∧Y.A=X.A∧Y.N=N∧Y.xe=fun _ _=>False:=by rw [←hY];exact⟨rfl,rfl,rfl,rfl,rfl,rfl,rfl⟩
 obtain⟨mO,mD,y3,zQ,qJ,yN,Aq⟩:=NG
 have Ar:∀{H':Hp}{pl:List (Addr×Obj)},(∀b∈fp,H' b=none)→(∀p∈pl,p.1=D)→∀b∈fp,bR Y pl H' b:=fun {H' pl} hn hp b hb=>by
  refine⟨hn b hb,?_,?_,.inl (by rw [nj];exact List.mem_cons_of_mem _ hb),fun y c e=>(IY.ok.oA b (by rw [nj];exact List.mem_cons_of_mem _ hb)).2 y c e,fun p DN z=>?_⟩
  · exact(IY.ok.oA b (by rw [nj];exact List.mem_cons_of_mem _ hb)).1
  · exact IY.ok.km b (by rw [nj];exact List.mem_cons_of_mem _ hb)
  · rw [Gw,List.nil_append] at DN
    exact mz (by rw [←hp p DN,z];exact hb)
 have rJ:D∈Y.ex:=by rw [nj];exact List.mem_cons_self
 have rY:∀{H':Hp}{s':Shared}{σ':St}{aq:List Value}{k:Nat},Inv Y [] σ' H' s'→H' D=none→s'.heap.get? D=some (lobj aq k)→Inv Y [(D,lobj aq k)] σ' H' s':=fun {H' s' σ' aq k} I' hn e=>
  I'.dw fun p hp=>by
   have y7:p=(D,lobj aq k):=by simpa using hp
   subst y7
   refine⟨e,hn,(IY.ok.oA D rJ).1,IY.ok.km D rJ,fun v z=>?_⟩
   have z':Data.seq aq.toArray k=Data.cell v:=z
   cases z'
 obtain⟨W,⟨m0,w0⟩,turn⟩:=wc
 have loop:∀s₃:Shared,s₃={s with heap:=h₁,toks:=s.toks+([]:List (Str×Value)).length}→
  codeAny (model X.prog X.w) X.A (.compLoop (.ListComp elt [⟨.Name x px,iter,ifs,0⟩] scope pos) 0 (.ref it) (.ref D) Y.env) (RR (.ref D) (D+1)) s₃:=by
  rintro s₃ rfl
  refine codeAny_compLoop_tests
   (fun n s'=>∃i ys aq k H',Inv Y [(D,lobj aq k)] (bc caps σ none) H' s'∧Vals ys aq∧ys.length≤sizeLine∧tn i s'.heap∧(∀b∈fp,H' b=none)∧W i n ys H') ?_ m0
   ⟨0,[],[],0,H,rY IY dG.1 rR,.nil,Nat.zero_le _,T.keep _ _ _ t0 fun b _ o e=>old b o e,fun b hb=>(hf b hb).1,w0⟩
  rintro n s1 ⟨i,ys,aq,k,H1,I1,rv,hl,pK,fr1,w1⟩
  have mv:∀p∈[(D,lobj aq k)],p.1=D:=fun p hp=>by
   have y7:p=(D,lobj aq k):=by simpa using hp
   rw [y7]
  rcases turn i n ys H1 w1 with ⟨stop,qn⟩|⟨go,hsz,Nx,hNx,step⟩
  · have z:=T.done Y mO mD y3 (zQ.trans cH) i [(D,lobj aq k)] s1 (bc caps σ none) H1 (notedBy (model X.prog X.w) X.A Y.env fun e s'=>RR (.ref D) (D+1) (.error e) s') I1 (Ar fr1 mv) pK stop
    rw [qJ] at z
    refine bD z fun r s2 ⟨hr,I2⟩=>?_
    subst hr
    obtain⟨eD,nD,_,_,_⟩:=I2.pin (D,lobj aq k) (List.mem_append_right _ List.mem_cons_self)
    have hU:Un (cR X.stack) (D::fp) H (upd H1 D (.lst ys)) s.heap s2.heap:=by
     have b:=I2.base
     rw [Jm,nj] at b
     have b':Un (cR X.stack) (D::fp) H H1 s.heap s2.heap:=by
      have e1:Y.H₀=H:=by rw [←hY];rfl
      have e2:Y.s₀=s:=by rw [←hY];rfl
      rw [e1,e2] at b;exact b
     have ne:∀a u,H1 a=some u→a≠D:=fun a u e=>aF e nD
     exact⟨b'.keep,b'.slot,fun a o e n hx=>by rw [aL (fun z=>hx (by rw [z];exact List.mem_cons_self))];exact b'.free a o e n hx,b'.there,
      fun a xs e=>by rw [aL (ne _ _ (b'.bU a xs e))];exact b'.bU a xs e,fun a o u e=>by rw [aL (ne _ _ (b'.fk a o u e))];exact b'.fk a o u e,
      fun a ps e=>by obtain⟨mo,q⟩:=b'.gH a ps e;exact⟨mo,by rw [aL (ne _ _ q)];exact q⟩⟩
    have zL:fN X.prog X.w (upd H1 D (.lst ys)) s2.heap:=by
     have q:=I2.aO
     rw [mO,mD] at q
     exact q.adopt nD ⟨hl,aq,k,rv,eD⟩
    have IX:Inv X pins σ (upd H1 D (.lst ys)) s2:=I.qw (by have:=I2.os;rw [show Y.s₀=s by rw [←hY];rfl] at this;exact this) hU zL I2.bare (fun b hb=>by
     rcases List.mem_cons.mp hb with rfl|hb
     · exact⟨dG.2.2.2.1,dG.2.1,dG.2.2.2.2.1,dG.2.2.2.2.2⟩
     · have q:=hf b hb
       exact⟨q.2.2.2.1,q.2.1,q.2.2.2.2.1,q.2.2.2.2.2⟩)
    obtain⟨mC,xU,_⟩:=I2.loc
    rw [mm] at xU
    have fC:=I2.free
    rw [mm] at fC
    exact fin D (D+1) s2 mC H1 ys IX (qn D nD) xU ⟨by rw [aL (fun z=>vZ z.symm)];exact fC,ip.2⟩ ip.2.1
  · have z:=AJ (T.item Y mO mD y3 (zQ.trans cH) i [(D,lobj aq k)] s1 (bc caps σ none) H1 (notedBy (model X.prog X.w) X.A Y.env fun e s'=>RR (.ref D) (D+1) (.error e) s') I1 (Ar fr1 mv) pK go)
    rw [qJ] at z
    refine bD z fun r s2 ⟨u,hr,v,H2,I2,ru,yT,jI,fr2⟩=>?_
    subst hr
    have I2':=I2.pinned (Ar fr2 mv) (T.obj _ _ jI)
    have Gh:Y.env.scope.names.lookup x=some .local:=by rw [jb];exact lookup_relabel_local S.lx
    have g:=dA (X:=Y) (i:=0) (x:=x) (pos:=px) (by rw [yN];exact S.nd) (by rw [yN];exact S.n0) (.inl Gh) (.inr Gh)
    have a:=g _ s2 _ H2 v u (fun σ' H'=>σ'=bc caps σ (some v)∧H'=H2) I2' ru ⟨rfl,rfl⟩
    rw [mO,mD,qJ,Aq] at a
    refine wpAny_mono a (fun _ s3 ⟨σ3,H3,I3,e1,e2⟩=>?_) fun _ _ f=>f.elim
    subst e1 e2
    have c:=Ml _ s3 _ H3 _ I3 (step v H3 yT)
    rw [mO,mD,qJ,Aq] at c
    refine wpAny_mono c (fun b s4 ⟨H4,I4,q4⟩=>?_) fun _ _ f=>f.elim
    have again:∀{s5:Shared}{H5:Hp}{ys':List V}{its':List Value}{k' m':Nat},Inv Y (cF fp s2.heap) (bc caps σ (some v)) H5 s5→H5 D=none→s5.heap.get? D=some (lobj its' k')→Vals ys' its'→ys'.length≤sizeLine→m'<n→W (i+1) m' ys' H5→
     ∃m,m<n∧∃i ys aq k H',Inv Y [(D,lobj aq k)] (bc caps σ none) H' s5∧Vals ys aq∧ys.length≤sizeLine∧tn i s5.heap∧(∀b∈fp,H' b=none)∧W i m ys H':=fun {s5 H5 ys' its' k' m'} I5 nD eD fu wq hm w'=>by
     refine⟨m',hm,i+1,ys',its',k',H5,rY ((I5.dw fun p hp=>by simp at hp).weak (by simp [bc]) fun j w hj=>?_) nD eD,fu,wq,T.keep _ _ _ jI fun b hb o e=>(I5.pin (b,o) (List.mem_append_right _ (cm hb e))).1,fun b hb=>?_,w'⟩
     · cases j with
       | zero=>simp [bc] at hj
       | succ j=>simpa [bc] using hj
     · obtain⟨o,e,d⟩:=T.obj _ _ jI b hb
       exact(I5.pin (b,o) (List.mem_append_right _ (cm hb e))).2.1
    have kz:∀{s5:Shared}{H5:Hp}{σ5:St},Inv Y ([(D,lobj aq k)]++cF fp s2.heap) σ5 H5 s5→Inv Y (cF fp s2.heap) σ5 H5 s5:=fun I5=>I5.dw fun p hp=>I5.pin p (List.mem_append_right _ (List.mem_append_right _ hp))
    cases b with
    | false=>
     obtain⟨m',hm,w'⟩:=hNx _ _ q4
     obtain⟨eD,nD,_⟩:=I4.pin (D,lobj aq k) (List.mem_append_right _ (List.mem_append_left _ List.mem_cons_self))
     exact again (kz I4) nD eD rv hl hm w'
    | true=>
     rw [if_pos rfl]
     rw [if_pos rfl] at q4
     have d:=NA _ s4 _ H4 _ (I4.g0 _) q4
     have d:wpAny (model Y.prog Y.w) Y.A (eval elt Y.env) (EP (Y.g0 Ei) _ _ _) Ei s4:=d
     rw [mO,mD,qJ] at d
     refine wpAny_mono d (fun w s5 ⟨y,H5,I5,ry,q5⟩=>?_) fun x9 s9 xQ=>?_
     rotate_left
     · rw [Gs] at xQ
       obtain⟨Pn,σ9,H9,s8,I9,Yc⟩:=xQ
       have b9:=I9.base
       rw [Jm,nj,show Y.H₀=H by rw [←hY];rfl,show Y.s₀=s by rw [←hY];rfl] at b9
       have o9:=I9.os
       rw [show Y.s₀=s by rw [←hY];rfl] at o9
       have k9:=I9.aO
       rw [mO,mD] at k9
       have IX:Inv X pins σ H9 s8:=I.qw o9 b9 k9 I9.bare (fun b hb=>by
        rcases List.mem_cons.mp hb with rfl|hb
        · exact⟨dG.2.2.2.1,dG.2.1,dG.2.2.2.2.1,dG.2.2.2.2.2⟩
        · have q:=hf b hb
          exact⟨q.2.2.2.1,q.2.1,q.2.2.2.2.1,q.2.2.2.2.2⟩)
       obtain⟨mC,xU,_⟩:=I9.loc
       rw [mm] at xU
       have fC:=I9.free
       rw [mm] at fC
       exact err D (D+1) s8 mC H9 x9 s9 IX ⟨fC,ip.2⟩ xU Yc Y.env (by rw [jb];rfl)
     have I5:=I5.cO
     obtain⟨m',hm,w'⟩:=hNx _ _ q5
     obtain⟨eD,nD,_⟩:=I5.pin (D,lobj aq k) (List.mem_append_right _ (List.mem_append_left _ List.mem_cons_self))
     refine append_at (hsz:=by rw [List.size_toArray,←rv.length];exact hl) eD fun h6 Nw Mm=>?_
     have I6:Inv Y (cF fp s2.heap) (bc caps σ (some v)) H5 {s5 with heap:=h6,toks:=s5.toks}:=(kz I5).turned (fun b o hb e=>(Nw.2 b hb).trans e) nD (IY.ok.oA D rJ).1 (.inl rJ) (fun y c e=>(IY.ok.oA D rJ).2 y c e) (fun p hp=>by
      rw [Gw,List.nil_append] at hp
      intro z
      exact mz (by rw [←z];exact(iF hp).1))
     refine again (ys':=ys++[y]) (its':=aq++[w]) (k':=k+1) I6 nD ?_ (rv.append (.cons ry .nil)) (by rw [List.length_append,List.length_singleton];exact hsz) hm w'
     rw [Mm]
     show some ({cls:=.type "list",data:=.seq (aq.toArray.push w) (k+1)}:Obj)=some {cls:=.type "list",data:=.seq (aq++[w]).toArray (k+1)}
     rw [List.push_toArray]
 rw [jb] at loop
 have pK:tn 0 h₁:=T.keep _ _ _ t0 fun b _ o e=>old b o e
 exact codeAny_compStart_list (loop _ rfl) (T.self _ 0 _ _ _ pK (loop _ rfl))
theorem Fe {E0:XK}{elt iter:Expr}{px pos:Pos}{ifs:List Expr}{wi:TI}{tc:TT}{te:TE} (L:Lv X E0) (cH:X.calm=true) (S:si X scope x N caps) (hi:PI X (.Name x px) iter wi)
 (hc:∀C s H ex,fe (lD X N scope C s H ex) ifs tc) (he:∀C s H ex,PE (DG X E0 N scope C s H ex) elt te) (hs:∀x,foldedSetIterable iter X.env x=pure x:=by intro _;rfl) :
 PE X (.ListComp elt [⟨.Name x px,iter,ifs,0⟩] scope pos) (uV wi caps tc te):=by
 intro pins s σ H Q I h
 rw [eval_ListComp]
 refine tm rfl hs (dZ (S.cells I.ok)) S.kind S.names (bD (hi pins s σ H _ I h) fun xv s1 h1=>bD h1 fun MV s2 h2=>?_)
 obtain⟨it,fp,tn,J,H2,e,I2,T,jI,f2,wc⟩:=h2
 subst e
 refine xF (E0:=E0) (RR:=fun acc C=>oz X (EP X pins σ Q) acc C) cH S hc he I2 T jI f2 wc (fun D C s' m' H' ys I' q hn fC _=>?_) fun D C s1 m1 H1 x s' IX fC hn cx cenv hf=>PK L IX fC hn cx hf rfl
 refine⟨m',hn,fun h' dJ=>⟨.ref D,upd H' D (.lst ys),?_,rfl,q⟩⟩
 exact I'.turned (t':=s'.toks) (fun b o hb e=>(dJ.2 b hb).trans e) fC.1 fC.2.1 fC.2.2.2.1 fC.2.2.2.2.1 fC.2.2.2.2.2
variable {y : Str}
theorem v8 {elt iter:Expr}{px py pt pos:Pos}{kx:Nat}{ifs:List Expr}{tc:TT}{te:TE}{J:It}{it:Addr}{tn:Nat→Heap→Prop}{Q:VK}{RR:Value→Addr→Result→Shared→Prop}{E:Value→Shared→Prop}{E0:XK}
 (cH:X.calm=true) (S:CS2 X scope x y N caps) (hc:∀C s H ex,fe (lD X N scope C s H ex) ifs tc) (he:∀C s H ex,PE (DG X E0 N scope C s H ex) elt te)
 (I:Inv X pins σ H s) (T:Turn X.prog X.w X.K (.Tuple [.Name x px,.Name y py] kx pt) J fp it tn) (t0:tn 0 s.heap) (hf:∀b∈fp,bR X pins H b) (wc:tF X.K J caps tc te σ H Q)
 (fin:∀D C s' m' H' ys,Inv X pins σ (upd H' D (.lst ys)) s'→Q (.ref D) (upd H' D (.lst ys))→s'.heap.Ns C m'→bR X pins (upd H' D (.lst ys)) C→C≠X.env.locals→RR (.ref D) C (.ok .next) s')
 (err:∀D C s1 m1 H1 x s',Inv X pins σ H1 s1→bR X pins H1 C→s1.heap.Ns C m1→CXE X.prog X.w X.stack H1 s1 E0 x s'→∀cenv:Env,cenv.frame=X.env.frame→notedBy (model X.prog X.w) X.A cenv (fun e xk=>RR (.ref D) C (.error e) xk) x s') :
 wpAny (model X.prog X.w) X.A (newList []) (fun acc s₃=>wpAny (model X.prog X.w) X.A (newFunctionEnv scope X.env.globals (fS X.env.cells scope.names) [] X.env.qual none .none (some X.env)) (fun cenv s₄=>cenv.frame=X.env.frame∧
  codeAny (model X.prog X.w) X.A (.compStart (.ListComp elt [⟨.Tuple [.Name x px,.Name y py] kx pt,iter,ifs,0⟩] scope pos) 0 (.ref it) acc {cenv with scope:=relabel scope X.env}) (RR acc cenv.locals) s₄) E s₃) E s:=by
 refine wpAny_newObj_type (wpAny_newFunctionEnv S.c.sh (by intro y hy;simp at hy) (fun h₁ gL iZ=>?_) S.kind)
 dsimp only at gL iZ ⊢
 refine⟨rfl,?_⟩
 generalize Ao:s.heap.push {cls:=.type "list",dict:=none,data:=.seq ([]:List Value).toArray}=H2 at gL iZ ⊢
 have hC:H2.objs.size=s.heap.objs.size+1:=by rw [←Ao,Heap.size_push]
 have vZ:s.heap.objs.size≠H2.objs.size:=by rw [hC];exact Nat.ne_of_lt (Nat.lt_succ_self _)
 have below:∀b,b<s.heap.objs.size→b≠H2.objs.size:=fun b hb=>by rw [hC];exact Nat.ne_of_lt (Nat.lt_succ_of_lt hb)
 have old:∀b o,s.heap.get? b=some o→h₁.get? b=some o:=fun b o e=>iZ.extBut b o (below b (Heap.lt_size e)) (Heap.get?_push_of_some _ (Ao▸Heap.get?_push_of_some _ e))
 have rR:h₁.get? s.heap.objs.size=some (lobj [] 0):=iZ.extBut _ _ vZ (Heap.get?_push_of_some _ (Ao▸Heap.get?_push_size _ rfl))
 have dY:∀b∈fp,b<s.heap.objs.size:=fun b hb=>by
  obtain⟨o,e,_⟩:=T.obj 0 _ t0 b hb
  exact Heap.lt_size e
 have mz:s.heap.objs.size∉fp:=fun z=>Nat.lt_irrefl _ (dY _ z)
 have dG:bR X pins H s.heap.objs.size:=I.lG (Nat.le_refl _) (I.aO.fresh (Nat.le_refl _))
 have ip:bR X pins H H2.objs.size:=I.lG (by rw [hC];exact Nat.le_succ _) (I.aO.fresh (by rw [hC];exact Nat.le_succ _))
 rw [hC] at gL vZ ip ⊢
 clear hC
 generalize hD:s.heap.objs.size=D at rR mz dG vZ
 have IY:=xW S I hf dY (h₁:=h₁) (tk:=s.toks+([]:List (Str×Value)).length) gL old
 rw [hD] at IY gL ip
 generalize hY:lD X N scope (D+1) s H (D::fp)=Y at IY
 have jb:Y.env=compEnvC scope (fS X.env.cells scope.names) (D+1) X.env:=by rw [←hY];rfl
 have nj:Y.ex=D::fp:=by rw [←hY];rfl
 have Jm:Y.fs=cR X.stack:=by rw [←hY];rfl
 have Gw:Y.pn=[]:=by rw [←hY];rfl
 have mm:Y.env.locals=D+1:=by rw [jb];rfl
 have Ml:fe Y ifs tc:=by rw [←hY];exact hc _ _ _ _
 obtain⟨Ei,Gs⟩:∃Ei:Value→Shared→Prop,Ei=fun x s'=>∃pins σ H1 s1,Inv Y pins σ H1 s1∧CXE X.prog X.w X.stack H1 s1 E0 x s':=⟨_,rfl⟩
 have NA:PE (Y.g0 Ei) elt te:=by rw [Gs,←hY];exact he _ _ _ _
 have NG:Y.prog=X.prog∧Y.w=X.w∧Y.K=X.K∧Y.calm=X.calm∧Y.A=X.A∧Y.N=N∧Y.xe=fun _ _=>False:=by rw [←hY];exact⟨rfl,rfl,rfl,rfl,rfl,rfl,rfl⟩
 obtain⟨mO,mD,y3,zQ,qJ,yN,Aq⟩:=NG
 have Ar:∀{H':Hp}{pl:List (Addr×Obj)},(∀b∈fp,H' b=none)→(∀p∈pl,p.1=D)→∀b∈fp,bR Y pl H' b:=fun {H' pl} hn hp b hb=>by
  refine⟨hn b hb,?_,?_,.inl (by rw [nj];exact List.mem_cons_of_mem _ hb),fun y c e=>(IY.ok.oA b (by rw [nj];exact List.mem_cons_of_mem _ hb)).2 y c e,fun p DN z=>?_⟩
  · exact(IY.ok.oA b (by rw [nj];exact List.mem_cons_of_mem _ hb)).1
  · exact IY.ok.km b (by rw [nj];exact List.mem_cons_of_mem _ hb)
  · rw [Gw,List.nil_append] at DN
    exact mz (by rw [←hp p DN,z];exact hb)
 have rJ:D∈Y.ex:=by rw [nj];exact List.mem_cons_self
 have rY:∀{H':Hp}{s':Shared}{σ':St}{aq:List Value}{k:Nat},Inv Y [] σ' H' s'→H' D=none→s'.heap.get? D=some (lobj aq k)→Inv Y [(D,lobj aq k)] σ' H' s':=fun {H' s' σ' aq k} I' hn e=>
  I'.dw fun p hp=>by
   have y7:p=(D,lobj aq k):=by simpa using hp
   subst y7
   refine⟨e,hn,(IY.ok.oA D rJ).1,IY.ok.km D rJ,fun v z=>?_⟩
   have z':Data.seq aq.toArray k=Data.cell v:=z
   cases z'
 obtain⟨W,⟨m0,w0⟩,turn⟩:=wc
 have loop:∀s₃:Shared,s₃={s with heap:=h₁,toks:=s.toks+([]:List (Str×Value)).length}→
  codeAny (model X.prog X.w) X.A (.compLoop (.ListComp elt [⟨.Tuple [.Name x px,.Name y py] kx pt,iter,ifs,0⟩] scope pos) 0 (.ref it) (.ref D) Y.env) (RR (.ref D) (D+1)) s₃:=by
  rintro s₃ rfl
  refine ug
   (fun n s'=>∃i ys aq k H',Inv Y [(D,lobj aq k)] (bK caps σ none none) H' s'∧Vals ys aq∧ys.length≤sizeLine∧tn i s'.heap∧(∀b∈fp,H' b=none)∧W i n ys H') ?_ m0
   ⟨0,[],[],0,H,rY IY dG.1 rR,.nil,Nat.zero_le _,T.keep _ _ _ t0 fun b _ o e=>old b o e,fun b hb=>(hf b hb).1,w0⟩
  rintro n s1 ⟨i,ys,aq,k,H1,I1,rv,hl,pK,fr1,w1⟩
  have mv:∀p∈[(D,lobj aq k)],p.1=D:=fun p hp=>by
   have y7:p=(D,lobj aq k):=by simpa using hp
   rw [y7]
  rcases turn i n ys H1 w1 with ⟨stop,qn⟩|⟨go,hsz,Nx,hNx,step⟩
  · have z:=T.done Y mO mD y3 (zQ.trans cH) i [(D,lobj aq k)] s1 (bK caps σ none none) H1 (notedBy (model X.prog X.w) X.A Y.env fun e s'=>RR (.ref D) (D+1) (.error e) s') I1 (Ar fr1 mv) pK stop
    rw [qJ] at z
    refine bD z fun r s2 ⟨hr,I2⟩=>?_
    subst hr
    obtain⟨eD,nD,_,_,_⟩:=I2.pin (D,lobj aq k) (List.mem_append_right _ List.mem_cons_self)
    have hU:Un (cR X.stack) (D::fp) H (upd H1 D (.lst ys)) s.heap s2.heap:=by
     have b:=I2.base
     rw [Jm,nj] at b
     have b':Un (cR X.stack) (D::fp) H H1 s.heap s2.heap:=by
      have e1:Y.H₀=H:=by rw [←hY];rfl
      have e2:Y.s₀=s:=by rw [←hY];rfl
      rw [e1,e2] at b;exact b
     have ne:∀a u,H1 a=some u→a≠D:=fun a u e=>aF e nD
     exact⟨b'.keep,b'.slot,fun a o e n hx=>by rw [aL (fun z=>hx (by rw [z];exact List.mem_cons_self))];exact b'.free a o e n hx,b'.there,
      fun a xs e=>by rw [aL (ne _ _ (b'.bU a xs e))];exact b'.bU a xs e,fun a o u e=>by rw [aL (ne _ _ (b'.fk a o u e))];exact b'.fk a o u e,
      fun a ps e=>by obtain⟨mo,q⟩:=b'.gH a ps e;exact⟨mo,by rw [aL (ne _ _ q)];exact q⟩⟩
    have zL:fN X.prog X.w (upd H1 D (.lst ys)) s2.heap:=by
     have q:=I2.aO
     rw [mO,mD] at q
     exact q.adopt nD ⟨hl,aq,k,rv,eD⟩
    have IX:Inv X pins σ (upd H1 D (.lst ys)) s2:=I.qw (by have:=I2.os;rw [show Y.s₀=s by rw [←hY];rfl] at this;exact this) hU zL I2.bare (fun b hb=>by
     rcases List.mem_cons.mp hb with rfl|hb
     · exact⟨dG.2.2.2.1,dG.2.1,dG.2.2.2.2.1,dG.2.2.2.2.2⟩
     · have q:=hf b hb
       exact⟨q.2.2.2.1,q.2.1,q.2.2.2.2.1,q.2.2.2.2.2⟩)
    obtain⟨mC,xU,_⟩:=I2.loc
    rw [mm] at xU
    have fC:=I2.free
    rw [mm] at fC
    exact fin D (D+1) s2 mC H1 ys IX (qn D nD) xU ⟨by rw [aL (fun z=>vZ z.symm)];exact fC,ip.2⟩ ip.2.1
  · have z:=T.item Y mO mD y3 (zQ.trans cH) i [(D,lobj aq k)] s1 (bK caps σ none none) H1 (NE X.prog X.w X.A Y.env (RR (.ref D) (D+1))) I1 (Ar fr1 mv) pK go
    rw [qJ] at z
    refine bD z fun r s2' z2=>?_
    obtain⟨u,hr,z2⟩:=z2
    subst hr
    refine bD z2 fun _ s2 ⟨v,H2,I2,ru,yT,jI,fr2⟩=>?_
    have I2':=I2.pinned (Ar fr2 mv) (T.obj _ _ jI)
    have Gh:Y.env.scope.names.lookup x=some .local:=by rw [jb];exact lookup_relabel_local S.lx
    have Pq:Y.env.scope.names.lookup y=some .local:=by rw [jb];exact lookup_relabel_local S.ly
    have g1:=dA (X:=Y) (i:=0) (x:=x) (pos:=px) (by rw [yN];exact S.nd) (by rw [yN];exact S.n0) (.inl Gh) (.inr Gh)
    have g2:=dA (X:=Y) (i:=1) (x:=y) (pos:=py) (by rw [yN];exact S.nd) (by rw [yN];exact S.n1) (.inl Pq) (.inr Pq)
    have g:=Fw (X:=Y) (pos:=pt) (k:=kx) (n:=2) (zQ.trans cH) (nV g1 (nV g2 Be))
    obtain⟨T1,a1,b1,ev,QU,VR⟩:=step v H2 yT
    have a:=g _ s2 _ H2 v u (fun σ' H'=>σ'=bK caps σ (some a1) (some b1)∧H'=H2) I2' ru ⟨T1,[a1,b1],ev,by rw [y3];exact QU,rfl,a1,[b1],rfl,b1,[],rfl,rfl,rfl,rfl⟩
    rw [mO,mD,qJ,Aq] at a
    refine wpAny_mono a (fun _ s3 ⟨σ3,H3,I3,e1,e2⟩=>?_) fun _ _ f=>f.elim
    subst e1 e2
    have c:=Ml _ s3 _ _ _ I3 VR
    rw [mO,mD,qJ,Aq] at c
    refine wpAny_mono c (fun b s4 ⟨H4,I4,q4⟩=>?_) fun _ _ f=>f.elim
    have again:∀{s5:Shared}{H5:Hp}{ys':List V}{its':List Value}{k' m':Nat},Inv Y (cF fp s2.heap) (bK caps σ (some a1) (some b1)) H5 s5→H5 D=none→s5.heap.get? D=some (lobj its' k')→Vals ys' its'→ys'.length≤sizeLine→m'<n→W (i+1) m' ys' H5→
     ∃m,m<n∧∃i ys aq k H',Inv Y [(D,lobj aq k)] (bK caps σ none none) H' s5∧Vals ys aq∧ys.length≤sizeLine∧tn i s5.heap∧(∀b∈fp,H' b=none)∧W i m ys H':=fun {s5 H5 ys' its' k' m'} I5 nD eD fu wq hm w'=>by
     refine⟨m',hm,i+1,ys',its',k',H5,rY ((I5.dw fun p hp=>by simp at hp).weak (by simp [bK]) fun j w hj=>?_) nD eD,fu,wq,T.keep _ _ _ jI fun b hb o e=>(I5.pin (b,o) (List.mem_append_right _ (cm hb e))).1,fun b hb=>?_,w'⟩
     · cases j with
       | zero=>simp [bK] at hj
       | succ j=>
       cases j with
       | zero=>simp [bK] at hj
       | succ j=>simpa [bK] using hj
     · obtain⟨o,e,d⟩:=T.obj _ _ jI b hb
       exact(I5.pin (b,o) (List.mem_append_right _ (cm hb e))).2.1
    have kz:∀{s5:Shared}{H5:Hp}{σ5:St},Inv Y ([(D,lobj aq k)]++cF fp s2.heap) σ5 H5 s5→Inv Y (cF fp s2.heap) σ5 H5 s5:=fun I5=>I5.dw fun p hp=>I5.pin p (List.mem_append_right _ (List.mem_append_right _ hp))
    cases b with
    | false=>
     obtain⟨m',hm,w'⟩:=hNx _ _ q4
     obtain⟨eD,nD,_⟩:=I4.pin (D,lobj aq k) (List.mem_append_right _ (List.mem_append_left _ List.mem_cons_self))
     exact again (kz I4) nD eD rv hl hm w'
    | true=>
     rw [if_pos rfl]
     rw [if_pos rfl] at q4
     have d:=NA _ s4 _ H4 _ (I4.g0 _) q4
     have d:wpAny (model Y.prog Y.w) Y.A (eval elt Y.env) (EP (Y.g0 Ei) _ _ _) Ei s4:=d
     rw [mO,mD,qJ] at d
     refine wpAny_mono d (fun w s5 ⟨y,H5,I5,ry,q5⟩=>?_) fun x9 s9 xQ=>?_
     rotate_left
     · rw [Gs] at xQ
       obtain⟨Pn,σ9,H9,s8,I9,Yc⟩:=xQ
       have b9:=I9.base
       rw [Jm,nj,show Y.H₀=H by rw [←hY];rfl,show Y.s₀=s by rw [←hY];rfl] at b9
       have o9:=I9.os
       rw [show Y.s₀=s by rw [←hY];rfl] at o9
       have k9:=I9.aO
       rw [mO,mD] at k9
       have IX:Inv X pins σ H9 s8:=I.qw o9 b9 k9 I9.bare (fun b hb=>by
        rcases List.mem_cons.mp hb with rfl|hb
        · exact⟨dG.2.2.2.1,dG.2.1,dG.2.2.2.2.1,dG.2.2.2.2.2⟩
        · have q:=hf b hb
          exact⟨q.2.2.2.1,q.2.1,q.2.2.2.2.1,q.2.2.2.2.2⟩)
       obtain⟨mC,xU,_⟩:=I9.loc
       rw [mm] at xU
       have fC:=I9.free
       rw [mm] at fC
       exact err D (D+1) s8 mC H9 x9 s9 IX ⟨fC,ip.2⟩ xU Yc Y.env (by rw [jb];rfl)
     have I5:=I5.cO
     obtain⟨m',hm,w'⟩:=hNx _ _ q5
     obtain⟨eD,nD,_⟩:=I5.pin (D,lobj aq k) (List.mem_append_right _ (List.mem_append_left _ List.mem_cons_self))
     refine append_at (hsz:=by rw [List.size_toArray,←rv.length];exact hl) eD fun h6 Nw Mm=>?_
     have I6:Inv Y (cF fp s2.heap) (bK caps σ (some a1) (some b1)) H5 {s5 with heap:=h6,toks:=s5.toks}:=(kz I5).turned (fun b o hb e=>(Nw.2 b hb).trans e) nD (IY.ok.oA D rJ).1 (.inl rJ) (fun y c e=>(IY.ok.oA D rJ).2 y c e) (fun p hp=>by
      rw [Gw,List.nil_append] at hp
      intro z
      exact mz (by rw [←z];exact(iF hp).1))
     refine again (ys':=ys++[y]) (its':=aq++[w]) (k':=k+1) I6 nD ?_ (rv.append (.cons ry .nil)) (by rw [List.length_append,List.length_singleton];exact hsz) hm w'
     rw [Mm]
     show some ({cls:=.type "list",data:=.seq (aq.toArray.push w) (k+1)}:Obj)=some {cls:=.type "list",data:=.seq (aq++[w]).toArray (k+1)}
     rw [List.push_toArray]
 rw [jb] at loop
 have pK:tn 0 h₁:=T.keep _ _ _ t0 fun b _ o e=>old b o e
 exact codeAny_compStart_list (loop _ rfl) (T.self _ 0 _ _ _ pK (loop _ rfl))
theorem Cy {E0:XK}{elt iter:Expr}{px py pt pos:Pos}{kx:Nat}{K:PySem.W.Frag}{ifs:List Expr}{wi:TI}{tc:TT}{te:TE} (L:Lv X E0) (cH:X.calm=true) (hK:X.K=K) (S:CS2 X scope x y N caps) (hi:PI X (.Tuple [.Name x px,.Name y py] kx pt) iter wi)
 (hc:∀C s H ex,fe (lD X N scope C s H ex) ifs tc) (he:∀C s H ex,PE (DG X E0 N scope C s H ex) elt te) (hs:∀x,foldedSetIterable iter X.env x=pure x:=by intro _;rfl) :
 PE X (.ListComp elt [⟨.Tuple [.Name x px,.Name y py] kx pt,iter,ifs,0⟩] scope pos) (sC K wi caps tc te):=by
 intro pins s σ H Q I h
 subst hK
 rw [eval_ListComp]
 refine tm rfl hs (dZ (S.c.cells I.ok)) S.kind S.c.names (bD (hi pins s σ H _ I h) fun xv s1 h1=>bD h1 fun MV s2 h2=>?_)
 obtain⟨it,fp,tn,J,H2,e,I2,T,jI,f2,wc⟩:=h2
 subst e
 refine v8 (E0:=E0) (RR:=fun acc C=>oz X (EP X pins σ Q) acc C) cH S hc he I2 T jI f2 wc (fun D C s' m' H' ys I' q hn fC _=>?_) fun D C s1 m1 H1 x s' IX fC hn cx cenv hf=>PK L IX fC hn cx hf rfl
 refine⟨m',hn,fun h' dJ=>⟨.ref D,upd H' D (.lst ys),?_,rfl,q⟩⟩
 exact I'.turned (t':=s'.toks) (fun b o hb e=>(dJ.2 b hb).trans e) fC.1 fC.2.1 fC.2.2.2.1 fC.2.2.2.2.1 fC.2.2.2.2.2
end
theorem Gf {X:Cx}{K:PySem.W.Frag} (hK:X.K=K):G0 X "str.join" (rJoin K):=hK▸qU
section
open PySem.Builtin.Str PySem.StrLaws
theorem sub_len (x:Str) (a b:Nat):(strSub x a b).length≤x.length:=by
 have h:=congrArg List.length (strSub_toList x a b)
 have e1:(strSub x a b).cps.toList.length=(strSub x a b).length:=by simp [Str.length]
 have e2:x.cps.toList.length=x.length:=by simp [Str.length]
 rw [e1,List.length_take,List.length_drop,e2] at h
 omega
theorem h8 {x:Str}{a b c:Nat} (h:c∈(strSub x a b).cps.toList):c∈x.cps.toList:=by
 rw [strSub_toList] at h
 exact List.mem_of_mem_drop (List.mem_of_mem_take h)
theorem uP (x:Str) (n:Nat):∀(Hs:List Nat) (a:Nat),∀p∈partsFrom x n a Hs,p.length≤x.length∧∀c∈p.cps.toList,c∈x.cps.toList
 | [],a,p,hm=>by rw [List.mem_singleton.mp hm];exact⟨sub_len _ _ _,fun c hc=>h8 hc⟩
 | d::r,a,p,hm=>by
  rcases List.mem_cons.mp hm with rfl|hm
  · exact⟨sub_len _ _ _,fun c hc=>h8 hc⟩
  · exact uP x n r _ p hm
theorem split_len (x y:Str):∀p∈Txt.split x y,p.length≤x.length∧∀c∈p.cps.toList,c∈x.cps.toList:=by
 unfold Txt.split
 split
 · intro p hm;rw [List.mem_singleton.mp hm];exact⟨Nat.le_refl _,fun _ h=>h⟩
 · split
   · intro p hm;rw [List.mem_singleton.mp hm];exact⟨Nat.le_refl _,fun _ h=>h⟩
   · rw [partsBetween_eq]
     exact uP x _ _ 0
theorem uC (x y:Str):(Txt.split x y).length≤x.length+2:=by have:=split_le x y;omega
end
theorem str_of_list {x:Str}{l:List Nat} (h:x.cps.toList=l):x=⟨l.toArray⟩:=by
 cases x with
 | mk a=>cases a with
  | mk m=>simp only at h;rw [h]
theorem Hd {x:Str}{l:List Nat} (h:x.cps.toList=l) (h1:1≤l.length) (h4:l.length≤4) (hd:∀c∈l,48≤c∧c≤57) (hz:l=[48]∨l.head? ≠ some 48):∃n,n<10000∧x=fU n:=by
 suffices z:∃n,n<10000∧gY n=l by
  obtain⟨n,hn,e⟩:=z
  exact⟨n,hn,by rw [str_of_list h,←e];rfl⟩
 match l,h1,h4,hd,hz with
 | [a],_,_,hd,_=>
  have ha:=hd a (by simp)
  exact⟨a - 48,by omega,by rw [dU (by omega)];congr 1;omega⟩
 | [a,b],_,_,hd,hz=>
  have ha:=hd a (by simp)
  have hb:=hd b (by simp)
  have h0:a≠48:=by rcases hz with z|z;simp at z;simpa using z
  refine⟨10*(a - 48)+(b - 48),by omega,?_⟩
  rw [bZ (by omega),dU (by omega)]
  simp;omega
 | [a,b,c],_,_,hd,hz=>
  have ha:=hd a (by simp)
  have hb:=hd b (by simp)
  have hc:=hd c (by simp)
  have h0:a≠48:=by rcases hz with z|z;simp at z;simpa using z
  refine⟨100*(a - 48)+10*(b - 48)+(c - 48),by omega,?_⟩
  rw [bZ (by omega),bZ (by omega),dU (by omega)]
  simp;omega
 | [a,b,c,d],_,_,hd,hz=>
  have ha:=hd a (by simp)
  have hb:=hd b (by simp)
  have hc:=hd c (by simp)
  have RE:=hd d (by simp)
  have h0:a≠48:=by rcases hz with z|z;simp at z;simpa using z
  refine⟨1000*(a - 48)+100*(b - 48)+10*(c - 48)+(d - 48),by omega,?_⟩
  rw [bZ (by omega),bZ (by omega),bZ (by omega),dU (by omega)]
  simp;omega
 | _::_::_::_::_::_,_,h4,_,_=>simp at h4
noncomputable def eS {α β:Type} (f:α→Option β):List α→Option (List β)
 | []=>some []
 | a::l=>match f a,eS f l with
  | some b,some bs=>some (b::bs)
  | _,_=>none
theorem uX {α β:Type}{f:α→Option β}:∀{l:List α}{ys:List β}{a:α}{b:β},eS f l=some ys→f a=some b→eS f (l++[a])=some (ys++[b])
 | [],ys,a,b,h,e=>by cases h;simp [eS,e]
 | c::l,ys,a,b,h,e=>by
  simp only [eS] at h
  split at h
  · rename_i y bs e1 e2
    cases h
    simp only [List.cons_append,eS,e1,uX e2 e]
  · cases h
theorem uY {α β:Type}{f:α→Option β}{l:List α}{i:Nat}{ys:List β}{a:α}{b:β} (h:eS f (l.take i)=some ys) (hi:l[i]? = some a) (e:f a=some b):eS f (l.take (i+1))=some (ys++[b]):=by
 rw [List.take_add_one,hi]
 exact uX h e
theorem oX {α β:Type}{f:α→Option β}:∀{l:List α}{i:Nat}{a:α},l[i]? = some a→f a=none→eS f l=none
 | c::l,0,a,h,e=>by cases h;simp [eS,e]
 | c::l,i+1,a,h,e=>by
  have:=oX (l:=l) (i:=i) h e
  simp only [eS,this]
  split<;>simp_all
theorem ki {α β:Type}{f:α→Option β}:∀{l:List α}{ys:List β},eS f l=some ys→ys.length=l.length
 | [],ys,h=>by cases h;rfl
 | a::l,ys,h=>by
  simp only [eS] at h
  split at h
  · rename_i y bs e1 e2
    cases h
    simp [ki e2]
  · cases h
end L2
namespace L2
open PySem PySem.W PySem.Calls
theorem zG {p q:Program}{loose:List Str}{Xt:Shared→Bool}{α:Type}{Yf:Shared→α}{Ya:World→α}{N a b1 F1 F G m₀:Nat}{ann:Option Value}{S S1:World→OsState→SharedT}{b b' b2:List Stmt}{env:Env}{ps ps' ps1 pl fq:Pos} (hb:b'++b2=b)
 (he:opening p=plainProg p.main.scope.names) (hf:∀s,fenceModules? p s=some s) (hN:Nat.ble 600 N=true)
 (hz:∀w:World,((boot_heap w.params).isNs mainGlobals&&(Array.mk []:Array GenState).size==0,(boot_heap w.params).objs.size,(boot_heap w.params).nsMap mainGlobals "__annotations__")=(true,m₀,ann))
 (h1:∀w os,topGo treeTable p w m₀ ann a ⟨boot_heap w.params,Array.mk [],boot_drawn,boot_toks,os⟩ (topStub p)=some ((S w os).abs,⟨denote treeTable (.body b env),.body b env,ps,[topFrame fq]⟩))
 (h2:∀w os,segRun treeTable p w m₀ ann 1 b1 (S w os).abs (blockOf b env (.body b env) ps [topFrame fq])=some (.next,(S w os).abs,.body b env,ps'))
 (hm:∀w os,segRunT treeTable p w m₀ ann 1 F1 (S w os) (piecesOf b' env (.body b env) ps' [topFrame fq])=some (.next,S1 w os,.body b env,ps1))
 (h3:∀w os,(segRunT treeTable p w m₀ ann 1 F (S1 w os) (piecesOf b2 env (.body b env) ps1 [topFrame fq])).map (fun x=>(x.1,x.2.2.1,x.2.2.2,(topRun treeTable p w m₀ ann G x.2.1.abs ⟨doneF .next,.body b env,pl,[topFrame fq]⟩).map fun s=>
   ((staticsOk (importedModules p.main.body) (boot_heap w.params) s.heap&&namesBound p s.heap&&gensDone s&&laidKept (boot_heap w.params) s.heap),openSeen q loose (importedModules p.main.body) Xt true s,Yf s)))=some (.next,.body b env,pl,some (true,openGood q loose,Ya w)))
 (le:Nat.ble (a+(b1+(F1+(F+G)))) N=true):LeftO p q loose Xt Yf Ya N:=fun w=>by
 obtain⟨⟨h,gs,d,k,os⟩,e,e'⟩:=Option.map_eq_some_iff.mp (boot_open he hN hf w)
 obtain⟨rfl,rfl,rfl,rfl⟩:h=boot_heap w.params∧gs=Array.mk []∧d=boot_drawn∧k=boot_toks:=by simpa using e'
 obtain⟨z1,z2,z3⟩:_∧_∧_:=by simpa only [Prod.mk.injEq] using hz w
 obtain⟨⟨f,sT,c,pp⟩,g1,g2⟩:=Option.map_eq_some_iff.mp (h3 w os)
 simp only [Prod.mk.injEq] at g2
 obtain⟨rfl,rfl,rfl,g3⟩:=g2
 obtain⟨s,g4,g5⟩:=Option.map_eq_some_iff.mp g3
 simp only [Prod.mk.injEq] at g5
 obtain⟨l1,l2,l3⟩:=g5
 have g6:topRun treeTable p w m₀ ann (F1+(F+G)) (S w os).abs (restOf (b'++(b2++[])) env (.body b env) ps' [topFrame fq])=some s:=piece_app (segRun_of (hm w os)) (piece_app (segRun_of g1) g4)
 rw [List.append_nil,hb] at g6
 have g7:=go_top (h1 w os) (piece_block (h2 w os) g6)
 have r:=topRun_mono (N - (a+(b1+(F1+(F+G))))) _ _ _ _ g7
 rw [show a+(b1+(F1+(F+G)))+(N - (a+(b1+(F1+(F+G)))))=N by have:=Nat.le_of_ble_eq_true le;omega] at r
 have t:topFrom treeTable p w N ⟨boot_heap w.params,Array.mk [],boot_drawn,boot_toks,os⟩=some s:=by
  unfold topFrom
  dsimp only
  rw [z1,z2,z3,r]
  show (match staticsOk (importedModules p.main.body) (boot_heap w.params) s.heap&&namesBound p s.heap&&gensDone s&&laidKept (boot_heap w.params) s.heap with|true=>_|false=>_)=_
  rw [l1]
 unfold openEnds
 rw [e]
 show (topFrom treeTable p w N _).map _=_
 rw [t]
 exact congrArg some (Prod.ext l2 l3)
end L2
set_option maxHeartbeats 4000000
namespace K64
open PySem L2
local macro_rules | `(tactic| walk_at "rd")=>`(tactic| simp only [$[$((("HX GU Jw M3 ET JC Cn Dr GN L5 LC Jk GV Ov LI X2 Li QL MJ Jn L8 HW Og Ir K8 Im ML Lh FF AY MB Js Nf Nl Lm LP Jf KU PY aaz Kk Vl QR Py Bv FZ E9 Bw Mb Lk IK Ka B0 JF P7 Ld NC Ny IL OX CO CC Mi Mn Mf IC FX LL Ji Mv LJ IQ Md LH NI Mr Jc Nu Iw AU Jx ty_str RJ Hv Hi EZ Je FV Lp Eo LQ Ij FQ Ig LX HQ OO Ti aaW L2.start bc LW Ox List.getElem?_cons_zero List.getElem?_cons_succ Option.some.injEq Option.join_some exists_eq_left' exists_eq_left exists_eq_right V.int.injEq V.ref.injEq V.str.injEq V.bl.injEq V.ty.injEq and_true true_and List.set_cons_zero List.set_cons_succ List.cons.injEq List.cons_append List.nil_append List.append_nil List.map_cons List.map_nil List.length_cons List.length_nil List.replicate exists_and_left exists_and_right Nat.reduceAdd Nat.reduceSub aP cf gM mY JR if_true if_false Bool.false_eq_true Hg Ho II".splitOn " ").map fun s=>Lean.mkIdent s.toName).toArray):ident],*])
local macro_rules | `(tactic| walk_at "cm")=>`(tactic| first | (refine Sa ?_ ?_ <;> omega) | (refine U9 ?_ ?_ <;> omega))
noncomputable def top (i:Nat):Stmt:=PySem.Challenge.pw_fewboxes_k64_judgements_refused.main.body.getD i (.Pass ⟨0,0,0,0⟩)
noncomputable abbrev dh:Stmt:=top 9
noncomputable abbrev bV:Stmt:=top 10
noncomputable abbrev bW:Stmt:=top 11
noncomputable abbrev dW:Stmt:=top 12
noncomputable abbrev dk:Stmt:=top 13
noncomputable abbrev cz:Stmt:=top 14
noncomputable abbrev gz:Stmt:=top 19
noncomputable abbrev gy:Stmt:=top 20
noncomputable abbrev iG:Stmt:=top 21
noncomputable abbrev iS:Stmt:=top 22
noncomputable abbrev gw:Stmt:=top 23
noncomputable abbrev fy:Stmt:=top 24
noncomputable abbrev di:Stmt:=top 25
noncomputable abbrev dQ:Stmt:=top 26
noncomputable abbrev dm:Stmt:=top 27
noncomputable abbrev gu:Stmt:=top 28
noncomputable abbrev s_fresh:Stmt:=top 30
noncomputable abbrev eI:Stmt:=top 31
noncomputable abbrev cG:Stmt:=top 32
noncomputable abbrev iV:Stmt:=top 33
noncomputable abbrev gn:Stmt:=top 34
noncomputable abbrev cJ:Stmt:=top 35
noncomputable abbrev pM:Stmt:=top 37
noncomputable abbrev oS:Stmt:=top 38
noncomputable abbrev fz:Stmt:=top 39
noncomputable abbrev kS:Stmt:=top 40
noncomputable abbrev eO:Stmt:=top 44
noncomputable abbrev eP:Stmt:=top 45
noncomputable abbrev eF:Stmt:=top 46
noncomputable abbrev ft:Stmt:=top 47
noncomputable abbrev fw:Stmt:=top 49
noncomputable abbrev pS:Stmt:=top 50
noncomputable abbrev eN:Stmt:=top 51
noncomputable abbrev oW:Stmt:=top 52
noncomputable abbrev gv:Stmt:=top 56
noncomputable abbrev la:Stmt:=top 57
noncomputable abbrev gA:Stmt:=top 59
noncomputable abbrev dR:Stmt:=top 60
noncomputable abbrev eG:Stmt:=top 61
noncomputable abbrev dq:Stmt:=top 62
noncomputable abbrev eM:Stmt:=top 63
noncomputable abbrev eh:Stmt:=top 64
noncomputable abbrev eK:Stmt:=top 65
noncomputable abbrev eJ:Stmt:=top 66
noncomputable abbrev dj:Stmt:=top 67
noncomputable abbrev uM:Stmt:=top 68
theorem jY:aD ["deed"] ["deed"] (ah dh):=⟨rfl,rfl,rfl,by decide +kernel,rfl,by decide +kernel,by decide +kernel⟩
theorem iN:aD ["deed"] ["deed"] (ah bV):=⟨rfl,rfl,rfl,by decide +kernel,rfl,by decide +kernel,by decide +kernel⟩
theorem iK:aD ["deed","asked","there","number"] ["deed","asked","there"] (ah bW):=⟨rfl,rfl,rfl,by decide +kernel,rfl,by decide +kernel,by decide +kernel⟩
theorem lT:aD ["deed","state"] ["deed","state"] (ah dW):=⟨rfl,rfl,rfl,by decide +kernel,rfl,by decide +kernel,by decide +kernel⟩
theorem jV:aD ["deed","state"] ["deed","state"] (ah dk):=⟨rfl,rfl,rfl,by decide +kernel,rfl,by decide +kernel,by decide +kernel⟩
theorem jt:aD ["deed","state","value","boxes","shelf"] ["deed","state","value"] (ah cz):=⟨rfl,rfl,rfl,by decide +kernel,rfl,by decide +kernel,by decide +kernel⟩
theorem se:aD ["text"] ["text"] (ah gz):=⟨rfl,rfl,rfl,by decide +kernel,rfl,by decide +kernel,by decide +kernel⟩
theorem r6:aD ["tree"] ["tree"] (ah gy):=⟨rfl,rfl,rfl,by decide +kernel,rfl,by decide +kernel,by decide +kernel⟩
theorem pW:aD ["tree","found","step"] ["tree"] (ah iG):=⟨rfl,rfl,rfl,by decide +kernel,rfl,by decide +kernel,by decide +kernel⟩
theorem uK:aD ["tree"] ["tree"] (ah iS):=⟨rfl,rfl,rfl,by decide +kernel,rfl,by decide +kernel,by decide +kernel⟩
theorem tI:aD ["tree","place","part","step"] ["tree","place"] (ah gw):=⟨rfl,rfl,rfl,by decide +kernel,rfl,by decide +kernel,by decide +kernel⟩
theorem qj:aD ["tree","x","place"] ["tree","x"] (ah fy):=⟨rfl,rfl,rfl,by decide +kernel,rfl,by decide +kernel,by decide +kernel⟩
theorem kP:aD ["tree","bound"] ["tree","bound"] (ah di):=⟨rfl,rfl,rfl,by decide +kernel,rfl,by decide +kernel,by decide +kernel⟩
theorem mh:aD ["tree"] ["tree"] (ah dQ):=⟨rfl,rfl,rfl,by decide +kernel,rfl,by decide +kernel,by decide +kernel⟩
theorem jJ:aD ["tree","taken","place","part","name"] ["tree"] (ah dm):=⟨rfl,rfl,rfl,by decide +kernel,rfl,by decide +kernel,by decide +kernel⟩
theorem rP:aD ["tree"] ["tree"] (ah gu):=⟨rfl,rfl,rfl,by decide +kernel,rfl,by decide +kernel,by decide +kernel⟩
theorem yJ:aD ["k","many"] ["k","many"] (ah s_fresh):=⟨rfl,rfl,rfl,by decide +kernel,rfl,by decide +kernel,by decide +kernel⟩
theorem nM:aD ["tree","f","left","right","place"] ["tree","f","left","right"] (ah eI):=⟨rfl,rfl,rfl,by decide +kernel,rfl,by decide +kernel,by decide +kernel⟩
theorem jx:aD ["tree","deed","state"] ["tree","deed","state"] (ah cG):=⟨rfl,rfl,rfl,by decide +kernel,rfl,by decide +kernel,by decide +kernel⟩
theorem uI:aD ["tree","deed","state"] ["tree","deed","state"] (ah iV):=⟨rfl,rfl,rfl,by decide +kernel,rfl,by decide +kernel,by decide +kernel⟩
theorem sN:aD ["tree","k","many","row","states","deed"] ["tree","k","many","row"] (ah gn):=⟨rfl,rfl,rfl,by decide +kernel,rfl,by decide +kernel,by decide +kernel⟩
theorem jB:aD ["state"] ["state"] (ah cJ):=⟨rfl,rfl,rfl,by decide +kernel,rfl,by decide +kernel,by decide +kernel⟩
theorem wD:aD ["tree","left","right"] ["tree"] (ah pM):=⟨rfl,rfl,rfl,by decide +kernel,rfl,by decide +kernel,by decide +kernel⟩
theorem Ba:aD ["tree","k"] ["tree","k"] (ah oS):=⟨rfl,rfl,rfl,by decide +kernel,rfl,by decide +kernel,by decide +kernel⟩
theorem qu:aD ["tree","k"] ["tree","k"] (ah fz):=⟨rfl,rfl,rfl,by decide +kernel,rfl,by decide +kernel,by decide +kernel⟩
theorem xx:aD ["tree","k","takes","joins","shelved"] ["tree","k"] (ah kS):=⟨rfl,rfl,rfl,by decide +kernel,rfl,by decide +kernel,by decide +kernel⟩
theorem nG:aD ["word"] ["word"] (ah eO):=⟨rfl,rfl,rfl,by decide +kernel,rfl,by decide +kernel,by decide +kernel⟩
theorem nU:aD ["kind","word"] ["kind","word"] (ah eP):=⟨rfl,rfl,rfl,by decide +kernel,rfl,by decide +kernel,by decide +kernel⟩
theorem ng:aD ["text","words","kinds"] ["text"] (ah eF):=⟨rfl,rfl,rfl,by decide +kernel,rfl,by decide +kernel,by decide +kernel⟩
theorem pZ:aD ["text"] ["text"] (ah ft):=⟨rfl,rfl,rfl,by decide +kernel,rfl,by decide +kernel,by decide +kernel⟩
theorem qg:aD ["text","start","end"] ["text","start"] (ah fw):=⟨rfl,rfl,rfl,by decide +kernel,rfl,by decide +kernel,by decide +kernel⟩
theorem Bo:aD ["text","at","sign"] ["text","at","sign"] (ah pS):=⟨rfl,rfl,rfl,by decide +kernel,rfl,by decide +kernel,by decide +kernel⟩
theorem ja:aD ["text","start","level","end","name","left","right"] ["text","start","level"] (ah eN):=⟨rfl,rfl,rfl,by decide +kernel,rfl,by decide +kernel,by decide +kernel⟩
theorem BS:aD ["text","found","wrong"] ["text"] (ah oW):=⟨rfl,rfl,rfl,by decide +kernel,rfl,by decide +kernel,by decide +kernel⟩
theorem tq:aD ["row","kinds"] ["row"] (ah gv):=⟨rfl,rfl,rfl,by decide +kernel,rfl,by decide +kernel,by decide +kernel⟩
theorem yO:aD ["text","k","rowtext","tree","row","fewest","states","more","told"] ["text","k","rowtext"] (ah la):=⟨rfl,rfl,rfl,by decide +kernel,rfl,by decide +kernel,by decide +kernel⟩
theorem rg:aD ["script","k","cell"] ["script","k"] (ah gA):=⟨rfl,rfl,rfl,by decide +kernel,rfl,by decide +kernel,by decide +kernel⟩
theorem lQ:aD ["cell","many","letters","size","out","k","signs"] ["cell","many"] (ah dR):=⟨rfl,rfl,rfl,by decide +kernel,rfl,by decide +kernel,by decide +kernel⟩
theorem m7:aD ["script","cell"] ["script"] (ah eG):=⟨rfl,rfl,rfl,by decide +kernel,rfl,by decide +kernel,by decide +kernel⟩
theorem jW:aD ["script"] ["script"] (ah dq):=⟨rfl,rfl,rfl,by decide +kernel,rfl,by decide +kernel,by decide +kernel⟩
theorem m9:aD ["script","at","many","deeds","trees","n","cell","p","two","side","knot"] ["script","at","many"] (ah eM):=⟨rfl,rfl,rfl,by decide +kernel,rfl,by decide +kernel,by decide +kernel⟩
theorem nN:aD ["script","n","names","deeds","k","many","cell","word"] ["script","n","names","deeds","k","many"] (ah eh):=⟨rfl,rfl,rfl,by decide +kernel,rfl,by decide +kernel,by decide +kernel⟩
theorem jd:aD ["tree"] ["tree"] (ah eK):=⟨rfl,rfl,rfl,by decide +kernel,rfl,by decide +kernel,by decide +kernel⟩
theorem m8:aD ["deed","cell","many"] ["deed","cell","many"] (ah eJ):=⟨rfl,rfl,rfl,by decide +kernel,rfl,by decide +kernel,by decide +kernel⟩
theorem kq:aD ["deed","k"] ["deed","k"] (ah dj):=⟨rfl,rfl,rfl,by decide +kernel,rfl,by decide +kernel,by decide +kernel⟩
theorem Ff:aD ["script","size","tree","names","deeds","k","many","row","wrongs","text","rowtext","beyond","deed","due","bits","found","e"] ["script"] (ah uM):=⟨rfl,rfl,rfl,by decide +kernel,rfl,by decide +kernel,by decide +kernel⟩
set_option genInjectivity false in
set_option genSizeOfSpec false in
structure Txt (K:PySem.W.Frag) (mg:Str→Option Value) where
 ik:Addr
 iw:FuncData
 lZ:d8 K "box_numbers" "box_numbers" dh ik iw
 uf:mg "box_numbers"=some (.ref ik)
 tM:Binds K iw ["deed"] []
 fQ:Addr
 fW:FuncData
 jy:d8 K "shelf_numbers" "shelf_numbers" bV fQ fW
 qL:mg "shelf_numbers"=some (.ref fQ)
 qN:Binds K fW ["deed"] []
 fX:Addr
 fR:FuncData
 fV:d8 K "check_numbers" "check_numbers" bW fX fR
 jv:mg "check_numbers"=some (.ref fX)
 ju:Binds K fR ["deed","asked","there"] []
 i6:Addr
 jj:FuncData
 nq:d8 K "check_deed" "check_deed" dW i6 jj
 vN:mg "check_deed"=some (.ref i6)
 vz:Binds K jj ["deed","state"] []
 iD:Addr
 ir:FuncData
 lL:d8 K "moved_value" "moved_value" dk iD ir
 tV:mg "moved_value"=some (.ref iD)
 tS:Binds K ir ["deed","state"] []
 gO:Addr
 gN:FuncData
 kI:d8 K "state_behind" "state_behind" cz gO gN
 sP:mg "state_behind"=some (.ref gO)
 sQ:Binds K gN ["deed","state","value"] []
 pU:Addr
 oN:FuncData
 pj:d8 K "is_name" "is_name" gz pU oN
 uL:mg "is_name"=some (.ref pU)
 uz:Binds K oN ["text"] []
 nY:Addr
 pN:FuncData
 eL:d8 K "is_leaf" "is_leaf" gy nY pN
 fx:mg "is_leaf"=some (.ref nY)
 fA:Binds K pN ["tree"] []
 sV:Addr
 tG:FuncData
 gE:d8 K "places" "places" iG sV tG
 jK:mg "places"=some (.ref sV)
 kf:Binds K tG ["tree"] []
 rN:Addr
 sr:FuncData
 nL:d8 K "leaves" "leaves" iS rN sr
 sj:mg "leaves"=some (.ref rN)
 rO:Binds K sr ["tree"] []
 pV:Addr
 oq:FuncData
 gq:d8 K "part_at" "part_at" gw pV oq
 iE:mg "part_at"=some (.ref pV)
 iR:Binds K oq ["tree","place"] []
 mH:Addr
 mR:FuncData
 rM:d8 K "place_of" "place_of" fy mH mR
 ze:mg "place_of"=some (.ref mH)
 zV:Binds K mR ["tree","x"] []
 dn:Addr
 dt:FuncData
 fI:d8 K "deeper_than" "deeper_than" di dn dt
 iC:mg "deeper_than"=some (.ref dn)
 iA:Binds K dt ["tree","bound"] []
 jq:Addr
 i5:FuncData
 nR:d8 K "check_size" "check_size" dQ jq i5
 vH:mg "check_size"=some (.ref jq)
 vA:Binds K i5 ["tree"] []
 ig:Addr
 iz:FuncData
 lN:d8 K "check_names" "check_names" dm ig iz
 t7:mg "check_names"=some (.ref ig)
 tZ:Binds K iz ["tree"] []
 pG:Addr
 oG:FuncData
 ux:d8 K "formula" "formula" gu pG oG
 C0:mg "formula"=some (.ref pG)
 Cr:Binds K oG ["tree"] []
 vj:Addr
 vX:FuncData
 Bp:d8 K "fresh" "fresh" s_fresh vj vX
 Jp:mg "fresh"=some (.ref vj)
 Hn:Binds K vX ["k","many"] []
 jG:Addr
 jX:FuncData
 qr:d8 K "knot_over" "knot_over" eI jG jX
 wR:mg "knot_over"=some (.ref jG)
 yD:Binds K jX ["tree","f","left","right"] []
 gI:Addr
 gQ:FuncData
 ku:d8 K "mark_brought" "mark_brought" cG gI gQ
 sH:mg "mark_brought"=some (.ref gI)
 sk:Binds K gQ ["tree","deed","state"] []
 sX:Addr
 rB:FuncData
 yy:d8 K "marked" "marked" iV sX rB
 Eb:mg "marked"=some (.ref sX)
 DO:Binds K rB ["tree","deed","state"] []
 ot:Addr
 pk:FuncData
 uu:d8 K "moments" "moments" gn ot pk
 CT:mg "moments"=some (.ref ot)
 Cq:Binds K pk ["tree","k","many","row"] []
 gF:Addr
 gK:FuncData
 jT:d8 K "formula_held" "formula_held" cJ gF gK
 rV:mg "formula_held"=some (.ref gF)
 qY:Binds K gK ["state"] []
 zy:Addr
 zw:FuncData
 oa:d8 K "rank" "rank" pM zy zw
 v9:mg "rank"=some (.ref zy)
 vg:Binds K zw ["tree"] []
 zu:Addr
 Ab:FuncData
 DD:d8 K "puts" "puts" oS zu Ab
 Nq:mg "puts"=some (.ref zu)
 Lo:Binds K Ab ["tree","k"] []
 mQ:Addr
 mE:FuncData
 rA:d8 K "must_put" "must_put" fz mQ mE
 zT:mg "must_put"=some (.ref mQ)
 zj:Binds K mE ["tree","k"] []
 vo:Addr
 we:FuncData
 BB:d8 K "least" "least" kS vo we
 IV:mg "least"=some (.ref vo)
 Ju:Binds K we ["tree","k"] []
 jL:Addr
 kF:FuncData
 qy:d8 K "is_number" "is_number" eO jL kF
 xl:mg "is_number"=some (.ref jL)
 yP:Binds K kF ["word"] []
 kl:Addr
 ka:FuncData
 qd:d8 K "read_part" "read_part" eP kl ka
 wN:mg "read_part"=some (.ref kl)
 ym:Binds K ka ["kind","word"] []
 kB:Addr
 kh:FuncData
 ql:d8 K "read_deed" "read_deed" eF kB kh
 yw:mg "read_deed"=some (.ref kB)
 xV:Binds K kh ["text"] []
 ml:Addr
 mS:FuncData
 sf:d8 K "read_row" "read_row" ft ml mS
 yZ:mg "read_row"=some (.ref ml)
 yX:Binds K mS ["text"] []
 mB:Addr
 mx:FuncData
 su:d8 K "name_end" "name_end" fw mB mx
 As:mg "name_end"=some (.ref mB)
 zO:Binds K mx ["text","start"] []
 zp:Addr
 Aw:FuncData
 Ak:d8 K "past" "past" pS zp Aw
 DQ:mg "past"=some (.ref zp)
 DX:Binds K Aw ["text","at","sign"] []
 kQ:Addr
 kc:FuncData
 fM:d8 K "tree_from" "tree_from" eN kQ kc
 jZ:mg "tree_from"=some (.ref kQ)
 kA:Binds K kc ["text","start","level"] []
 y4:Addr
 y9:FuncData
 EH:d8 K "read" "read" oW y4 y9
 LB:mg "read"=some (.ref y4)
 Lq:Binds K y9 ["text"] []
 pL:Addr
 oF:FuncData
 uA:d8 K "figures" "figures" gv pL oF
 CA:mg "figures"=some (.ref pL)
 CD:Binds K oF ["row"] []
 vC:Addr
 wt:FuncData
 Bm:d8 K "judge" "judge" la vC wt
 IT:mg "judge"=some (.ref vC)
 Jo:Binds K wt ["text","k","rowtext"] []
 oh:Addr
 oH:FuncData
 bq:d8 K "_law_at" "_law_at" gA oh oH
 bA:mg "_law_at"=some (.ref oh)
 bw:Binds K oH ["script","k"] []
 jg:Addr
 ji:FuncData
 fi:d8 K "_law_names" "_law_names" dR jg ji
 gh:mg "_law_names"=some (.ref jg)
 gg:Binds K ji ["cell","many"] []
 jQ:Addr
 jS:FuncData
 qv:d8 K "_law_many" "_law_many" eG jQ jS
 xK:mg "_law_many"=some (.ref jQ)
 yI:Binds K jS ["script"] []
 ij:Addr
 iq:FuncData
 iy:d8 K "_law_second" "_law_second" dq ij iq
 lU:mg "_law_second"=some (.ref ij)
 lY:Binds K iq ["script"] []
 kH:Addr
 kC:FuncData
 qx:d8 K "_law_tree" "_law_tree" eM kH kC
 wX:mg "_law_tree"=some (.ref kH)
 w9:Binds K kC ["script","at","many"] []
 jR:Addr
 kb:FuncData
 qc:d8 K "_law_deed" "_law_deed" eh jR kb
 yK:mg "_law_deed"=some (.ref jR)
 wY:Binds K kb ["script","n","names","deeds","k","many"] []
 kj:Addr
 kE:FuncData
 fK:d8 K "_law_text" "_law_text" eK kj kE
 kK:mg "_law_text"=some (.ref kj)
 kJ:Binds K kE ["tree"] []
 kL:Addr
 ke:FuncData
 pY:d8 K "_law_high" "_law_high" eJ kL ke
 xJ:mg "_law_high"=some (.ref kL)
 wL:Binds K ke ["deed","cell","many"] []
 ix:Addr
 ie:FuncData
 mi:d8 K "_law_beyond" "_law_beyond" dj ix ie
 tP:mg "_law_beyond"=some (.ref ix)
 ub:Binds K ie ["deed","k"] []
 BU:Addr
 xn:FuncData
 QF:d8 K "law" "law" uM BU xn
 PV:mg "law"=some (.ref BU)
 acT:Binds K xn ["script"] []
 vE:mg "ValueError"=none
 JM:mg "all"=none
 Qp:mg "any"=none
 yl:mg "int"=none
 eZ:mg "isinstance"=none
 eQ:mg "len"=none
 Fn:mg "list"=none
 Ko:mg "max"=none
 Pw:mg "min"=none
 AM:mg "range"=none
 Gn:mg "str"=none
 A3:mg "tuple"=none
 J7:mg "zip"=none
 vh:Tok
 wo:mg "BOXES_TOLD"=some (.int 10000 vh)
 rT:Tok
 sI:mg "LONGEST_NAME"=some (.int 8 rT)
 yF:Tok
 qk:mg "MOST_DEEP"=some (.int 24 yF)
 sL:Tok
 tj:mg "MOST_FIGURES"=some (.int 4 sL)
 t9:Tok
 tW:mg "MOST_LEAVES"=some (.int 32 t9)
 sD:Tok
 sY:mg "SHELF_PLACES"=some (.int 100 sD)
 bB:Addr
 zW:mg "FewError"=some (.ref bB)
 zt:gJ K bB
 aH:Addr
 w8:mg "NoDeed"=some (.ref aH)
 x8:gJ K aH
 aI:Addr
 kr:mg "NoText"=some (.ref aI)
 kN:gJ K aI
 aJ:Addr
 yQ:mg "TooFew"=some (.ref aJ)
 xt:gJ K aJ
 cb:ni K aH bB=true
 cj:ni K aI bB=true
 cg:ni K aJ bB=true
 m5:sG K aH
 cS:PySem.W.kitOne K (.ref aH) (.ref aH)=some true
 cT:PySem.W.kitOne K (.ref aH) (.ref aI)=some false
 cZ:PySem.W.kitOne K (.ref aH) (.ref aJ)=some false
 bG:PySem.W.kitOne K (.ref aH) (.type "ValueError")=some true
 mT:sG K aI
 cX:PySem.W.kitOne K (.ref aI) (.ref aH)=some false
 cW:PySem.W.kitOne K (.ref aI) (.ref aI)=some true
 cU:PySem.W.kitOne K (.ref aI) (.ref aJ)=some false
 bF:PySem.W.kitOne K (.ref aI) (.type "ValueError")=some true
 nO:sG K aJ
 cY:PySem.W.kitOne K (.ref aJ) (.ref aH)=some false
 cV:PySem.W.kitOne K (.ref aJ) (.ref aI)=some false
 de:PySem.W.kitOne K (.ref aJ) (.ref aJ)=some true
 bE:PySem.W.kitOne K (.ref aJ) (.type "ValueError")=some true
section
variable {P : Program} {w : World} {K : PySem.W.Frag} {mg : Str→Option Value} {base : Heap}
noncomputable def cq (ns:List Int) (k:Nat):Int:=
 if k<ns.length then ns.getD k 0 else
  let c:Int:=40692*k+1
  let c:Int:=if 0<ns.length then c+ns.getD (k*k % ns.length) 0 % 2147483647 else c
  let c:Int:=c*48271 % 2147483647
  c*c % 2147483629
noncomputable def Zk (K:PySem.W.Frag):Sp:=fun vs H Q _=>∃(a:Addr) (ns:List Int) (k:Int),vs=[.ref a,.int k]∧fD K H a (ns.map V.int)∧ns.length≤63∧0≤k∧k<1000000∧Q (.int (cq ns k.toNat)) H
theorem DM {ns:List Int}{k:Nat} (h:k<ns.length):kT (ns.map V.int) (k:Int)=some (.int (ns.getD k 0)):=
 gj (by simp [List.getD,h])
theorem xG (T:Txt K mg):bg P w K mg base CX0 1 T.oh T.oH ["script","k"] (Zk K):=by
 refine T.bq.ok (k:=0) rg (fun vs H Q E h=>?_) (fun bt A outer s H vs Q E hr h=>?_)
 · obtain⟨a,ns,k,rfl,_⟩:=h
   rfl
 obtain⟨a,ns,k,rfl,hS,aX,h0,hk,q⟩:=h
 obtain⟨k,rfl⟩:∃n:Nat,k=(n:Int):=⟨k.toNat,by (clear hk aX;lia)⟩
 rw [Int.toNat_natCast] at q
 have nd:=rg.nd
 refine⟨_,(ag (aW (aC yb (pv 1) (aQ eT rfl T.eQ cA (aa (pv 0) af)) (aB _)) (ai (ax (aw v7 (pv 0) (pv 1) (fun _ _=>rfl)))) aE)
  (ag (aA (i:=2) nd rfl (Or.inl rfl) (ao bI (ao mq ae (pv 1)) ae))
  (ag (aW (aC lR (aQ eT rfl T.eQ cA (aa (pv 0) af)) ae (aB _)) (ai (aA (i:=2) nd rfl (Or.inl rfl) (ao bI (pv 2) (ao aU (aw v7 (pv 0) (ao aU (ao mq (pv 1) (pv 1)) (aQ eT rfl T.eQ cA (aa (pv 0) af))) (fun _ _=>rfl)) ae)))) aE)
  (ag (aA (i:=2) nd rfl (Or.inl rfl) (ao aU (ao mq (pv 2) ae) ae))
  (ai (ax (ao aU (ao mq (pv 2) (pv 2)) ae))))))),?_⟩
 refine iI fun C hC=>?_
 walk_at "rd"
 unfold cq at q
 refine Aa hS ?_
 rw [List.length_map]
 refine bO (fun c=>?_) (fun c=>?_)
 · have c:k<ns.length:=by simpa using c
   rw [if_pos c] at q
   exact JZ hS (DM c) q
 · have c:¬k<ns.length:=by simpa using c
   rw [if_neg c] at q
   dsimp only at q
   rw [hC]
   clear hC C
   refine uE fun C hC=>?_
   have tail:∀z:Int,Q (.int (z*48271 % 2147483647*(z*48271 % 2147483647) % 2147483629)) H→C [some (.ref a),some (.int k),some (.int z)] H:=by
    intro z hz
    rw [hC]
    clear hC C q
    walk_at "rd"
    exact⟨by walk_at "cm",by decide,by walk_at "cm",by decide,hz⟩
   walk_at "rd"
   refine⟨by walk_at "cm",Aa hS ?_⟩
   rw [List.length_map]
   refine bO (fun d=>?_) (fun d=>?_)
   · have d:0<ns.length:=by simpa using d
     rw [if_pos d] at q
     have m:k*k % ns.length<ns.length:=Nat.mod_lt _ d
     have e:((k:Int)*(k:Int) % ((ns.length:Nat):Int))=((k*k % ns.length:Nat):Int):=by push_cast;rfl
     refine⟨by walk_at "cm",Aa hS ?_⟩
     rw [List.length_map,e]
     exact⟨by (clear aX h0 hk c m e hC;omega),JZ hS (DM m) ⟨_,rfl,by decide,tail _ q⟩⟩
   · have d:¬0<ns.length:=by simpa using d
     rw [if_neg d] at q
     exact tail _ q
noncomputable def Iz:Sp:=fun vs H Q _=>∃(c:Int) (many:Nat),vs=[.int c,.int many]∧many≤32∧C3 H ((List.range many).map fun k=>D.str (iJ c many k)) Q
theorem yC (T:Txt K mg):bg P w K mg base CX0 1 T.jg T.ji ["cell","many"] Iz:=by
 refine T.fi.ok (k:=0) lQ (fun vs H Q E h=>?_) (fun bt A outer s H vs Q E hr h=>?_)
 · obtain⟨c,many,rfl,_⟩:=h
   rfl
 obtain⟨c,many,rfl,hm,q⟩:=h
 have nd:=lQ.nd
 refine⟨_,(ag (aA (i:=2) nd rfl (Or.inl rfl) az)
  (ag (aA (i:=3) nd rfl (Or.inl rfl) (ao bI ae (ao aU (ao bz (pv 0) ae) (aw bQ (br (aa ae (aa ae af))) (cB kW rfl T.yl qZ (aa (bu lR (pv 1) ae (aB _)) af)) (fun _ _=>rfl)))))
  (ag (aA (i:=4) nd rfl (Or.inl rfl) (br af))
  (ag (jF PassesOwn.never rfl (uw rfl T.AM (aa (pv 1) af)) (dA (i:=5) nd rfl (Or.inl rfl)) (ag (aA (i:=6) nd rfl (Or.inl rfl) (ao wH (br (aa (aw oP (pv 2) (ao aU (pv 0) ae) (fun _ _=>rfl)) af)) (pv 3)))
    (ag (zN (aw oP (pv 2) (ao aU (ao bI (ao bI (pv 0) ae) (ao aU (pv 5) ae)) ae) (fun _ _=>rfl)) (zM (pv 6) (ao aU (ao bz (pv 0) ae) (pv 3)) set_list))
    (ag (aW (aC lR (pv 5) ae (aB _)) (ai (gk (lV PySem.F.plainAttrs_list PySem.F.slot_list_append PySem.F.type_list_append oO (pv 6) (aa (aw oP (pv 2) (ao aU (pv 0) ae) (fun _ _=>rfl)) af)))) aE)
    (ag (aW (PW.pt (jM (aC bj (ao aU (ao bz (pv 0) ae) ae) ae (aB _)) (ib (aC uS (pv 1) ae (aB _))))) (ai (aA (i:=6) nd rfl (Or.inl rfl) (ao wH (br (aa (aw oP (pv 2) (ao aU (pv 0) ae) (fun _ _=>rfl)) af)) (ao bI ae (ao aU (ao bI (pv 0) (pv 5)) ae))))) aE)
    (ai (gk (lV PySem.F.plainAttrs_list PySem.F.slot_list_append PySem.F.type_list_append oO (pv 4) (aa (lV PySem.F.plainAttrs_str PySem.F.slot_str_join PySem.F.type_str_join qU az (aa (pv 6) af)) af)))))))))
  (ai (ax (pv 4))))))),?_⟩
 walk_at "rd"
 refine⟨⟨by decide,by decide⟩,by decide,aM.mk fun p1 H1 S1 n1 e1=>?_⟩
 walk_at "rd"
 have hz:kT [V.int 8,V.int 7] (if decide (24<(many:Int))=true then 1 else 0)=some (.int (if 24<many then 7 else 8)):=by
  by_cases h:24<many
  · rw [if_pos (decide_eq_true (by (clear hm n1 e1;omega))),if_pos h];exact cf
  · rw [if_neg (by simp;(clear hm n1 e1;omega)),if_neg h];exact aP
 refine⟨_,aN e1,_,hz,_,rfl,by split<;>decide,Nat.zero_le _,aM.mk fun p2 H2 S2 n2 e2=>?_⟩
 have S:=S1.trans S2
 have n0:H p2=none:=S1.free n2
 have hsz:(1+c / 26 % (if 24<many then 7 else 8):Int)=(M.bM c many:Nat):=by
  unfold M.bM
  have:(0:Int)<(if 24<many then 7 else 8):=by split<;>decide
  have:=Int.emod_nonneg (c / 26) (show (if 24<many then 7 else 8:Int)≠0 by omega)
  push_cast
  (clear hm n1 e1 hz n2 e2 n0;lia)
 rw [hsz]
 have s1:=M.oR c many
 have s2:=(M.og c many).1
 generalize dg:M.bM c many=size at hsz s1 s2
 refine⟨by (clear hm n1 e1 hz n2 e2 n0 dg hsz s1 s2;lia),by omega,?_⟩
 rw [Int.toNat_natCast]
 refine forR (fun i σ H'=>∃(o5 o6:Option V),i≤many∧ay H H'∧H' p2=some (.lst ((List.range i).map fun k=>V.str (iJ c many k)))∧
  σ=[some (.int c),some (.int many),some (.str LETT),some (.int size),some (.ref p2),o5,o6]) ⟨none,none,Nat.zero_le _,S,e2,rfl⟩ ?_ ?_
 · rintro i σ H3 hi ⟨o5,o6,_,S3,e3,rfl⟩
   simp only [AY]
   refine uE fun C hC=>?_
   walk_at "rd"
   have hk:((c+1+(0+(i:Int)) % 24) % 26)=(c+1+((i % 24:Nat):Int)) % 26:=by push_cast;(clear hm n1 e1 hz n2 e2 n0 dg hsz s1 s2 hi e3 hC;lia)
   refine⟨by decide,m6,_,vK c,by decide,aM.mk fun p4 H4 S4 n4 e4=>⟨p4,rfl,_,e4,by (clear hm n1 e1 hz n2 e2 n0 dg hsz s1 s2 hi e3 hC hk n4 e4;lia),by (clear hm n1 e1 hz n2 e2 n0 dg hsz hk n4 e4 e3 hC hi s1;omega),aZ (by simp;(clear hm n1 e1 hz n2 e2 n0 dg hsz hk n4 e4 e3 hC hi s1;lia)),aM.mk fun p5 H5 S5 n5 e5=>?_⟩⟩
   rw [Int.toNat_natCast,Bq] at e5
   rw [hk]
   have Ec:=M.Eu c size s1
   have NT:0≤c / 208 % (size:Int):=Int.emod_nonneg _ (by (clear s2 hi e3 hC hk n4 e4 n5 e5 Ec hm n1 e1 hz n2 e2 n0 dg hsz;omega))
   refine⟨by decide,by decide,m6,_,vK _,⟨by decide,by decide⟩,by (clear hi e3 hC hk n4 e4 n5 e5 Ec NT hm n1 e1 hz n2 e2 n0 dg hsz s2;omega),p5,rfl,_,e5,_,BK NT (by simp;(clear hm n1 e1 hz n2 e2 n0 dg hsz s1 s2 hi e3 hC hk n4 e4 NT n5 e5;lia)),ny.mk fun H6 k6 e6=>?_⟩
   have yx:p2≠p5:=aF (S4 _ _ e3) n5
   have S6:ay H H6:=ay.mV ((S3.trans S4).trans S5) ((S3.trans S4).free n5) k6
   have f6:H6 p2=some (.lst ((List.range i).map fun k=>V.str (iJ c many k))):=by
    rw [k6 _ yx];exact S5 _ _ (S4 _ _ e3)
   have G7:H6 p5=some (.lst (((List.replicate size (M.cn c)).set (c / 208 % (size:Int)).toNat (M.cn (c+1+((i % 24:Nat):Int)))).map fun x=>V.str ⟨#[x]⟩)):=by
    rw [e6,List.map_set,List.map_replicate]
   have yS:=(S3.trans S4).free n5
   clear e6 k6 e5 e4 n4 n5 S5 S4 S3 Ec hk
   generalize hW:(List.replicate size (M.cn c)).set (c / 208 % (size:Int)).toNat (M.cn (c+1+((i % 24:Nat):Int)))=W at G7
   have lW:W.length=size:=by rw [←hW];simp
   have OU:¬(c / 1664 % 3=0∧many≤8)→¬23<i→M.nm c many i=W:=fun h1 h2=>by
    unfold M.nm;rw [if_neg h1,dg,if_neg h2,hW]
   have Dy:¬(c / 1664 % 3=0∧many≤8)→23<i→M.nm c many i=W++[M.cn c]:=fun h1 h2=>by
    unfold M.nm;rw [if_neg h1,dg,if_pos h2,hW]
   have ud:(c / 1664 % 3=0∧many≤8)→M.nm c many i=List.replicate (1+((c+i) % 8).toNat) (M.cn c):=fun h1=>by
    unfold M.nm;rw [if_pos h1]
   clear hW NT
   rw [hC]
   clear hC C
   refine iI fun C hC=>?_
   have tail:∀(l:List Nat) (H7:Hp),ay H H7→H7 p2=some (.lst ((List.range i).map fun k=>V.str (iJ c many k)))→H7 p5=some (.lst (l.map fun x=>V.str ⟨#[x]⟩))→l.length≤size+1→(¬(c / 1664 % 3=0∧many≤8)→M.nm c many i=l)→
    C [some (.int c),some (.int many),some (.str LETT),some (.int size),some (.ref p2),some (.int (0+i)),some (.ref p5)] H7:=by
    intro l H7 S7 f7 e7 ll Dx
    rw [hC]
    clear hC C OU Dy G7 f6 S6
    refine iI fun C hC=>?_
    have fin:∀(l':List Nat) (p':Addr) (H8:Hp),ay H H8→H8 p2=some (.lst ((List.range i).map fun k=>V.str (iJ c many k)))→H8 p'=some (.lst (l'.map fun x=>V.str ⟨#[x]⟩))→l'.length≤1000→M.nm c many i=l'→
     C [some (.int c),some (.int many),some (.str LETT),some (.int size),some (.ref p2),some (.int (0+i)),some (.ref p')] H8:=by
     intro l' p' H8 S8 f8 e8 ll' hl
     rw [hC]
     walk_at "rd"
     refine Eg f8 e8 (by simp;(clear yx yS lW ud f7 e7 ll Dx hC f8 e8 ll' hl dg hsz s1 s2 hi e3 n2 e2 n0 e1 hz n1;lia)) ll' fun H9 k9 e9=>⟨hi,ay.mV S8 n0 k9,?_,_,rfl⟩
     rw [e9,List.range_succ,List.map_append,←hl];rfl
    walk_at "rd"
    refine⟨⟨by decide,by decide⟩,by decide,bO (fun c2=>bO (fun c3=>?_) (fun c3=>fin l p5 H7 S7 f7 e7 (by (clear hm n1 e1 hz n2 e2 e3 yx yS lW ud f7 n0 dg hsz hC c2 c3 hi e7 s1 Dx;lia)) (Dx fun z=>c3 (decide_eq_true (by (clear hm n1 e1 hz n2 e2 n0 dg hsz s1 s2 hi e3 yx yS lW ud f7 e7 ll Dx hC c2 c3;lia)))))) (fun c2=>fin l p5 H7 S7 f7 e7 (by (clear hm n1 e1 hz n2 e2 e3 yx yS lW ud f7 n0 dg hsz hC c2 hi e7 s1 Dx;lia)) (Dx fun z=>c2 (decide_eq_true z.1)))⟩
    have c2:=of_decide_eq_true c2
    have c3:many≤8:=by have:=of_decide_eq_true c3;(clear hm n1 e1 hz n2 e2 n0 dg hsz s1 s2 hi e3 yx yS lW ud f7 e7 ll Dx hC c3 c2;lia)
    have hn:(1+(c+(0+(i:Int))) % 8).toNat=1+((c+i) % 8).toNat:=by (clear hm n1 e1 hz n2 e2 n0 dg hsz s1 s2 hi e3 yx yS lW ud f7 e7 ll Dx hC c2 c3;lia)
    refine⟨by decide,m6,_,vK c,by decide,aM.mk fun p7 H8 S8 n8 e8=>⟨by decide,p7,rfl,_,e8,by (clear hm n1 e1 hz n2 e2 n0 dg hsz s1 s2 hi e3 yx yS lW ud f7 e7 ll Dx hC c2 c3 hn n8 e8;omega),by (clear hm n1 e1 hz n2 e2 n0 dg hsz s1 s2 hi e3 yx yS lW ud f7 e7 ll Dx hC c2 c3 hn n8 e8;omega),aZ (by simp;(clear hm n1 e1 hz n2 e2 n0 dg hsz s1 s2 hi e3 yx yS lW ud f7 e7 ll Dx hC c2 c3 hn n8 e8;omega)),aM.mk fun p8 H9 S9 n9 e9=>?_⟩⟩
    rw [hn,Bq] at e9
    exact fin (List.replicate (1+((c+i) % 8).toNat) (M.cn c)) p8 H9 ((S7.trans S8).trans S9) (S9 _ _ (S8 _ _ f7)) (by rw [e9,List.map_replicate]) (by simp;(clear hm n1 e1 hz n2 e2 n0 dg hsz s1 s2 hi e3 yx yS lW ud f7 e7 ll Dx hC c2 c3 hn n8 e8 n9 e9;omega)) (ud ⟨c2,c3⟩)
   walk_at "rd"
   refine bO (fun c1=>?_) (fun c1=>?_)
   · have c1:23<i:=by have:=of_decide_eq_true c1;(clear hm n1 e1 hz n2 e2 n0 dg hsz s1 s2 hi e3 yx f6 yS G7 lW OU Dy ud hC c1;omega)
     exact⟨o1 G7,by decide,m6,_,vK c,_,G7,cP (by simp;(clear hm n1 e1 hz n2 e2 OU Dy ud hC c1 n0 dg hsz e3 yx f6 hi yS s1 G7;lia)),ny.mk fun H7 k7 e7=>tail (W++[M.cn c]) H7 (ay.mV S6 yS k7) (by rw [k7 _ yx];exact f6) (by rw [e7,List.map_append];rfl) (by simp;(clear hm n1 e1 hz n2 e2 n0 dg hsz s1 s2 hi e3 yx f6 hC c1 e7 yS G7 Dy ud;lia)) (fun h=>Dy h c1)⟩
   · have c1:¬23<i:=fun z=>c1 (decide_eq_true (by (clear hm n1 e1 hz n2 e2 n0 dg hsz s1 s2 hi e3 yx f6 yS G7 lW OU Dy ud hC c1;omega)))
     exact tail W H6 S6 f6 G7 (by (clear hm n1 e1 hz n2 e2 n0 dg hsz s1 s2 hi e3 yx f6 hC c1 yS G7 Dy ud;lia)) (fun h=>OU h c1)
 · rintro σ H3 ⟨o5,o6,_,S3,e3,rfl⟩
   walk_at "rd"
   refine q p2 _ _ S3 n0 e3 ?_
   have:∀(l:List Nat),aR H3 (l.map fun k=>D.str (iJ c many k)) (l.map fun k=>V.str (iJ c many k)):=fun l=>by
    induction l with
    | nil=>exact .nil
    | cons k r ih=>exact .cons (bh.mpr rfl) ih
   exact this _
noncomputable def AQ (ns:List Int):Nat:=(if cq ns 0 % 3=2 then 13+cq ns 0 / 3 % 20 else 1+cq ns 0 / 3 % 12).toNat
noncomputable def Mp (K:PySem.W.Frag):Sp:=fun vs H Q _=>∃(a:Addr) (ns:List Int),vs=[.ref a]∧fD K H a (ns.map V.int)∧ns.length≤63∧∀(m:Nat) H',1≤m→m≤32→ay H H'→m=AQ ns→Q (.int m) H'
theorem He (T:Txt K mg):bg P w K mg base CX0 2 T.jQ T.jS ["script"] (Mp K):=by
 refine T.qv.ok (k:=1) m7 (fun vs H Q E h=>?_) (fun bt A outer s H vs Q E hr h=>?_)
 · obtain⟨a,ns,rfl,_⟩:=h
   rfl
 obtain⟨a,ns,rfl,hS,aX,q⟩:=h
 have nd:=m7.nd
 have ba:=(xG (P:=P) (w:=w) (base:=base) T).mono (k:=1) (by omega)
 refine⟨_,(ag (aA (i:=1) nd rfl (Or.inl rfl) (ak ba hr rfl T.bA T.bq.kp T.bw .nil aG (aa (pv 0) (aa ae af))))
  (ai (ax (aw bQ (br (aa (ao bI ae (ao aU (ao bz (pv 1) ae) ae)) (aa (ao bI ae (ao aU (ao bz (pv 1) ae) ae)) af))) (cB kW rfl T.yl qZ (aa (bu bj (ao aU (pv 1) ae) ae (aB _)) af)) (fun _ _=>rfl))))),?_⟩
 walk_at "rd"
 refine⟨a,ns,0,rfl,hS,aX,by decide,by decide,?_⟩
 have dX:AQ ns=(if cq ns (0:Int).toNat % 3=2 then 13+cq ns (0:Int).toNat / 3 % 20 else 1+cq ns (0:Int).toNat / 3 % 12).toNat:=rfl
 generalize cq ns (0:Int).toNat=c at dX ⊢
 walk_at "rd"
 refine⟨⟨by decide,by decide⟩,by decide,⟨by decide,by decide⟩,by decide,by decide,aM.mk fun p1 H1 S1 n1 e1=>⟨by decide,p1,rfl,_,aN e1,?_⟩⟩
 have h1:0≤c / 3 % 12:=by (clear aX dX n1 e1;lia)
 have h2:0≤c / 3 % 20:=by (clear aX dX n1 e1 h1;lia)
 by_cases h:c % 3=2
 · have:=q (13+c / 3 % 20).toNat H1 (by (clear aX dX n1 e1 h1 h2 h;lia)) (by (clear aX dX n1 e1 h1 h2 h;lia)) S1 (by rw [dX,if_pos h])
   rw [Int.toNat_of_nonneg (by (clear aX dX n1 e1 h1 h2 h;lia))] at this
   exact⟨_,by rw [if_pos (decide_eq_true h)];exact cf,this⟩
 · have:=q (1+c / 3 % 12).toNat H1 (by (clear aX dX n1 e1 h1 h2 h;lia)) (by (clear aX dX n1 e1 h1 h2 h;lia)) S1 (by rw [dX,if_neg h])
   rw [Int.toNat_of_nonneg (by (clear aX dX n1 e1 h1 h2 h;lia))] at this
   exact⟨_,by rw [if_neg (by simpa using h)];exact aP,this⟩
noncomputable def cC (ns:List Int):Int:=if cq ns 2 % 4=3 then cq ns 1 else cq ns 2
noncomputable def FN (K:PySem.W.Frag):Sp:=fun vs H Q _=>∃(a:Addr) (ns:List Int),vs=[.ref a]∧fD K H a (ns.map V.int)∧ns.length≤63∧Q (.int (cC ns)) H
theorem uN (T:Txt K mg):bg P w K mg base CX0 2 T.ij T.iq ["script"] (FN K):=by
 refine T.iy.ok (k:=1) jW (fun vs H Q E h=>?_) (fun bt A outer s H vs Q E hr h=>?_)
 · obtain⟨a,ns,rfl,_⟩:=h
   rfl
 obtain⟨a,ns,rfl,hS,aX,q⟩:=h
 have nd:=jW.nd
 have ba:=(xG (P:=P) (w:=w) (base:=base) T).mono (k:=1) (by omega)
 refine⟨_,(ag (aW (aC bj (ao aU (ak ba hr rfl T.bA T.bq.kp T.bw .nil aG (aa (pv 0) (aa ae af))) ae) ae (aB _)) (ai (ax (ak ba hr rfl T.bA T.bq.kp T.bw .nil aG (aa (pv 0) (aa ae af))))) aE)
  (ai (ax (ak ba hr rfl T.bA T.bq.kp T.bw .nil aG (aa (pv 0) (aa ae af)))))),?_⟩
 walk_at "rd"
 refine⟨a,ns,2,rfl,hS,aX,by decide,by decide,_,rfl,by decide,bO (fun z=>?_) (fun z=>?_)⟩
 · have z:cq ns 2 % 4=3:=of_decide_eq_true z
   rw [cC,if_pos z] at q
   exact⟨a,ns,1,rfl,hS,aX,by decide,by decide,q⟩
 · have z:¬cq ns 2 % 4=3:=fun y=>z (decide_eq_true y)
   rw [cC,if_neg z] at q
   exact⟨a,ns,2,rfl,hS,aX,by decide,by decide,q⟩
noncomputable def Nd (K:PySem.W.Frag):Sp:=fun vs H Q _=>∃(a:Addr) (ns:List Int) (at' many:Nat),vs=[.ref a,.int at',.int many]∧fD K H a (ns.map V.int)∧ns.length≤63∧at'≤1000∧1≤many∧many≤32∧
 ∀t c c' v H',ay H H'→Dt H' (dT t) v→jE many t c c'→(c=cC ns∧c'=cq ns at')→Q v H'
theorem Jd (T:Txt K mg):bg P w K mg base CX0 3 T.kH T.kC ["script","at","many"] (Nd K):=by
 refine T.qx.ok (k:=2) m9 (fun vs H Q E h=>?_) (fun bt A outer s H vs Q E hr h=>?_)
 · obtain⟨a,ns,at',many,rfl,_⟩:=h
   rfl
 obtain⟨a,ns,at',many,rfl,hS,aX,lP,bC,hm,q⟩:=h
 have nd:=m9.nd
 have ba:=(xG (P:=P) (w:=w) (base:=base) T).mono (k:=2) (by omega)
 have fh:=(yC (P:=P) (w:=w) (base:=base) T).mono (k:=2) (by omega)
 have iu:=(uN (P:=P) (w:=w) (base:=base) T).mono (k:=2) (by omega)
 refine⟨_,(ag (aA (i:=3) nd rfl (Or.inl rfl) (ak fh hr rfl T.gh T.fi.kp T.gg .nil aG (aa (ak ba hr rfl T.bA T.bq.kp T.bw .nil aG (aa (pv 0) (aa (pv 1) af))) (aa ae af))))
  (ag (vi (i:=4) (N:=["x"]) (caps:=[]) rfl ⟨rfl,rfl,rfl,rfl,by decide +kernel,rfl,rfl,rfl,rfl⟩ (AE (ak fh hr rfl T.gh T.fi.kp T.gg .nil aG (aa (ak iu hr rfl T.lU T.iy.kp T.lY .nil aG (aa (pv 0) af)) (aa (pv 2) af)))) (fun _ _ _ _=>dB) (fun _ _ _ _=>(bN (aa az (aa (pv 0) af)))) nd rfl rfl rfl)
  (ag (aA (i:=5) nd rfl (Or.inl rfl) (ao bI (pv 1) ae))
  (ag (wM PassesOwn.never (aC lR (aQ qQ rfl T.eQ cA (aa (pv 4) af)) ae (aB _)) (ag (aA (i:=6) nd rfl (Or.inl rfl) (ak ba hr rfl T.bA T.bq.kp T.bw .nil aG (aa (pv 0) (aa (pv 5) af))))
    (ag (aA (i:=7) nd rfl (Or.inl rfl) (ao aU (ao bz (pv 6) ae) (ao ff (aQ qQ rfl T.eQ cA (aa (pv 4) af)) ae)))
    (ag (aW (PW.pt (tu (aC lR (ao aU (pv 6) ae) ae (aB _)) (mF (aC lR (pv 2) ae (aB _))))) (ai (aA (i:=7) nd rfl (Or.inl rfl) (ao aU (ao ff (ao ff (pv 5) (pv 1)) ae) (ao ff (aQ qQ rfl T.eQ cA (aa (pv 4) af)) ae)))) aE)
    (ag (aA (i:=8) nd rfl (Or.inl rfl) (br (aa (aw bQ (pv 4) (pv 7) (fun _ _=>rfl)) (aa (aw bQ (pv 4) (ao bI (pv 7) ae) (fun _ _=>rfl)) af))))
    (ag (aA (i:=9) nd rfl (Or.inl rfl) (ao aU (ao bz (pv 6) ae) ae))
    (ag (aA (i:=10) nd rfl (Or.inl rfl) (bN (aa az (aa (aw bQ (pv 3) (ao aU (ao bz (pv 6) ae) ae) (fun _ _=>rfl)) (aa (aw bQ (pv 8) (pv 9) (fun _ _=>rfl)) (aa (aw bQ (pv 8) (ao ff ae (pv 9)) (fun _ _=>rfl)) af))))))
    (ag (aA (i:=4) nd rfl (Or.inl rfl) (ao GF (ao GF (fg LF (pv 4) lF (d6 (pv 7))) (br (aa (pv 10) af))) (fg LF (pv 4) (d6 (ao bI (pv 7) ae)) lF)))
    (ai (aA (i:=5) nd rfl (Or.inl rfl) (ao bI (pv 5) ae)))))))))))
  (ai (ax (aw bQ (pv 4) ae (fun _ _=>rfl)))))))),?_⟩
 walk_at "rd"
 refine⟨a,ns,at',rfl,hS,aX,by (clear aX lP bC hm;lia),by omega,?_⟩
 have jw:cq ns (at':Int).toNat=cq ns at':=rfl
 generalize cq ns (at':Int).toNat=c' at jw ⊢
 refine⟨c',3,rfl,by decide,fun pd dv H1 S1 lJ ed Dd=>?_⟩
 refine⟨a,ns,rfl,S1.seq hS,aX,?_⟩
 generalize hc:cC ns=c
 refine⟨c,many,rfl,hm,fun pn nv H2 S2 lI en Dn=>?_⟩
 have WO:nv=(List.range many).map fun k=>V.str (iJ c many k):=by
  have:((List.range many).map fun k=>D.str (iJ c many k))=((List.range many).map (iJ c many)).map D.str:=by rw [List.map_map];rfl
  rw [this] at Dn
  rw [aR.vc Dn,List.map_map];rfl
 subst WO
 refine WalkL.comp en (fun i ys H'=>aR H' ((List.range i).map fun k=>dT (.leaf (iJ c many k))) ys∧i≤many) ⟨.nil,Nat.zero_le _⟩ (by simp;(clear lJ ed hc lI en aX lP bC jw;lia)) (fun i ys H' h=>by have:=h.1.length;simp at this;(clear aX lP bC hm jw lJ ed hc lI en h;lia)) (fun i x ys H' ex S' h=>?_) (fun p ys H3 H4 S3 S4 h np ep=>?_)
 · obtain⟨hi,ex⟩:=List.getElem?_eq_some_iff.mp ex
   simp at hi ex
   subst ex
   walk_at "rd"
   refine⟨by decide,aM.mk fun p1 H5 S5 n5 e5=>⟨S'.trans S5,?_,hi⟩⟩
   rw [List.range_succ,List.map_append]
   exact(h.1.same S5).append (.one (Bt e5))
 · simp at h
   have Z7:dv=((List.range 3).map (iJ c' 3)).map V.str:=by
    have:((List.range 3).map fun k=>D.str (iJ c' 3 k))=((List.range 3).map (iJ c' 3)).map D.str:=by rw [List.map_map];rfl
    rw [this] at Dd
    exact aR.vc Dd
   subst Z7
   have S14:=(S2.trans S3).trans S4
   have D4:=h.same S4
   have st:=M.TI.start (names:=(List.range many).map (iJ c many)) (deeds:=(List.range 3).map (iJ c' 3))
   rw [show ((List.range many).map (iJ c many)).length=many by simp] at st
   obtain⟨W,hW⟩:∃W:Nat→St→Hp→Prop,∀m σ H',W m σ H'↔∃(j:Nat) (ts:List L2.Tree) (vs:List V) (pt:Addr) (o6 o7 o8 o9 Vs:Option V),m=ts.length∧M.TI ((List.range many).map (iJ c many)) ((List.range 3).map (iJ c' 3)) many j ts∧1≤ts.length∧ay H1 H'∧H' pt=some (.lst vs)∧aR H' (ts.map dT) vs∧
    σ=[some (V.ref a),some (V.int at'),some (V.int many),some (V.ref pd),some (V.ref pt),some (V.int (at'+2+j)),o6,o7,o8,o9,Vs]:=⟨_,fun _ _ _=>Iff.rfl⟩
   refine⟨W,⟨_,(hW _ _ _).mpr ⟨0,((List.range many).map (iJ c many)).map M.Tr.leaf,ys,p,none,none,none,none,none,rfl,st,by simp;omega,S14,ep,by rw [List.map_map,List.map_map];exact D4,by simp⟩⟩,?_⟩
   intro m σ H5 hw
   obtain⟨j,ts,vs,pt,o6,o7,o8,o9,Vs,rfl,I,h1,S5,et,Dv,rfl⟩:=(hW _ _ _).mp hw
   have lv:vs.length=ts.length:=by have:=Dv.length;simpa using this
   have hj:=I.len
   simp only [Bv,KU,Kk,Ka,Bw,E9,GV,Ov,AU,List.getElem?_cons_zero,List.getElem?_cons_succ,Option.some.injEq,exists_eq_left',V.bl.injEq,V.int.injEq,V.ref.injEq,List.cons.injEq,and_true,exists_and_left,exists_eq_left]
   refine⟨_,aN et,bO (fun c1=>?_) (fun c1=>?_)⟩
   · have c1:1<ts.length:=by have:=of_decide_eq_true c1;(clear lJ hc lI en np aX lP bC ed h1 et hj c1 hm jw ep;omega)
     refine⟨fun σ' H'=>∃m',m'<ts.length∧W m' σ' H',fun σ' H' z=>z,?_⟩
     refine Bi fun C hC=>?_
     walk_at "rd"
     refine⟨a,ns,at'+2+j,by norm_cast,(S1.trans S5).seq hS,aX,by (clear aX lP bC hm jw lJ hc lI en np ep ed h1 et lv hj c1 hC;lia),by (clear lJ hc lI en np ep ed h1 et lv c1 hC aX bC jw;lia),?_⟩
     generalize cq ns ((at':Int)+2+j).toNat=cell
     walk_at "rd"
     have he:=aN et
     simp only [he,Option.some.injEq,exists_eq_left']
     have md:∀z:Int,∃p:Nat,z % (((vs.length:Nat):Int) - 1)=p∧p+1<ts.length:=fun z=>by
      have h1:=Int.emod_nonneg z (show (((vs.length:Nat):Int) - 1)≠0 by (clear lJ hc lI en np aX lP bC ed h1 et hC he jw ep hj;lia))
      have h2:=Int.emod_lt_of_pos z (show 0<(((vs.length:Nat):Int) - 1) by (clear aX lP bC hm jw lJ hc lI en np ep ed et hC he h1 hj;omega))
      exact⟨(z % (((vs.length:Nat):Int) - 1)).toNat,by (clear aX lP bC hm jw lJ hc lI en np ep ed et lv hj c1 hC he h2;lia),by (clear aX lP bC hm jw lJ hc lI en np hC he h1 ed et hj;omega)⟩
     have mj:∀p:Nat,((at':Int)+2+j - at' - 2) % (((vs.length:Nat):Int) - 1)=p→p=j % (ts.length - 1):=fun p hp=>by
      have e1:(((vs.length:Nat):Int) - 1)=((ts.length - 1:Nat):Int):=by (clear aX lP bC hm jw lJ hc lI en np hj c1 hC he hp ed;lia)
      have e2:((at':Int)+2+j - at' - 2)=(j:Int):=by (clear ed h1 et lv hj c1 hC he hp e1 hc lI en np ep hm jw lJ bC aX;lia)
      rw [e1,e2] at hp
      exact_mod_cast hp.symm
     have tail:∀p:Nat,p+1<ts.length→(24<many→p=j % (ts.length - 1))→C [some (V.ref a),some (V.int at'),some (V.int many),some (V.ref pd),some (V.ref pt),some (V.int (at'+2+j)),some (V.int cell),some (V.int p),o8,o9,Vs] H5:=by
      intro p wI rD
      rw [hC]
      clear hC C
      refine Bi fun C hC=>?_
      walk_at "rd"
      obtain⟨ta,ha⟩:∃t,ts[p]? = some t:=⟨_,List.getElem?_eq_getElem (by (clear aX lP bC hm jw lJ hc lI en np ep ed h1 et lv hj c1 hC rD he;lia))⟩
      obtain⟨tb,hb⟩:∃t,ts[p+1]? = some t:=⟨_,List.getElem?_eq_getElem (by omega)⟩
      obtain⟨va,yV,da⟩:=aR.fY Dv ha
      obtain⟨vb,yR,db⟩:=aR.fY Dv hb
      refine⟨_,he,va,gj yV,_,he,vb,jo (by (clear aX lP bC hm jw lJ hc lI en np ep ed h1 et lv hj c1 he wI rD hC ha hb yV yR;lia)) (by rw [show ((p:Int)+1).toNat=p+1 by (clear aX lP bC hm jw lJ hc lI en np ep ed h1 et lv hj c1 he wI rD hC ha hb yV yR;lia)];exact yR),by decide,aM.mk fun p6 H6 S6 n6 e6=>?_⟩
      have CG:0≤cell / 128 % 3:=by (clear aX lP bC hm jw lJ hc lI en np ep ed h1 et lv hj c1 he wI rD hC ha hb yV yR n6 e6;lia)
      have DY:cell / 128 % 3<3:=by (clear aX lP bC hm jw lJ hc lI en np ep ed h1 et lv hj c1 he wI rD hC ha hb yV yR n6 e6 CG;lia)
      obtain⟨x,y,vx,vy,xQ,rH,dx,dy,vI⟩:∃x y vx vy,kT [va,vb] (cell / 64 % 2)=some vx∧kT [va,vb] (1 - cell / 64 % 2)=some vy∧Dt H5 (dT x) vx∧Dt H5 (dT y) vy∧((x=ta∧y=tb)∨(x=tb∧y=ta)):=by
       rcases (show cell / 64 % 2=0∨cell / 64 % 2=1 by (clear aX lP bC hm jw lJ hc lI en np ep ed h1 et lv hj c1 he wI rD hC ha hb yV yR n6 e6 CG DY;lia)) with z|z
       · exact⟨ta,tb,va,vb,by rw [z];exact aP,by rw [z];exact cf,da,db,.inl ⟨rfl,rfl⟩⟩
       · exact⟨tb,ta,vb,va,by rw [z];exact cf,by rw [z];exact aP,db,da,.inr ⟨rfl,rfl⟩⟩
      refine⟨⟨by decide,by decide⟩,by decide,⟨by decide,by decide⟩,by decide,_,aN (S6 _ _ (S5 _ _ ed)),V.str (iJ c' 3 (cell / 128 % 3).toNat),jo CG (by rw [List.getElem?_map,List.getElem?_map,List.getElem?_range (by (clear aX lP bC hm jw lJ hc lI en np ep ed h1 et lv hj c1 he wI rD hC ha hb yV yR n6 e6 CG DY xQ rH vI;lia))];rfl),p6,rfl,_,aN e6,vx,xQ,p6,rfl,_,aN e6,vy,rH,by decide,aM.mk fun p7 H7 S7 n7 e7=>?_⟩
      rw [hC]
      clear hC C
      walk_at "rd"
      refine⟨_,S7 _ _ (S6 _ _ et),?_⟩
      rw [AH (by (clear aX lP bC hm jw lJ hc lI en DY xQ rH vI n7 e7 np ep ed h1 et rD ha hb yV yR n6 e6 CG c1 he hj;lia))]
      refine aM.mk fun p8 H8 S8 n8 e8=>⟨by decide,aM.mk fun p9 H9 S9 n9 e9=>⟨p8,rfl,p9,rfl,_,S9 _ _ e8,_,e9,aZ (by simp;(clear rD ha hb yV yR n6 e6 CG DY xQ rH vI n7 e7 n8 e8 n9 e9 lJ hc lI en np aX lP bC ed h1 et jw ep c1 he wI;lia)),aM.mk fun pA HA SA nA eA=>?_⟩⟩
      refine⟨_,SA _ _ (S9 _ _ (S8 _ _ (S7 _ _ (S6 _ _ et)))),?_⟩
      have Mj:(p:Int)+2=((p+2:Nat):Int):=by (clear aX lP bC hm jw lJ hc lI en np ep ed h1 et lv hj c1 he wI rD ha hb yV yR n6 e6 CG DY xQ rH vI n7 e7 n8 e8 n9 e9 nA eA;lia)
      rw [Mj,pT (by (clear ha hb yV yR n6 e6 CG DY xQ rH vI n7 e7 n8 e8 n9 e9 nA eA Mj aX lP bC hm jw lJ hc lI en np ep ed h1 rD hj c1 et he;lia))]
      refine aM.mk fun pB HB SB nB eB=>⟨pA,rfl,pB,rfl,_,SB _ _ eA,_,eB,aZ (by simp;(clear hb yV yR n6 e6 CG DY xQ rH vI n7 e7 n8 e8 n9 e9 nA eA Mj nB eB hc lI en np ep ed aX lP bC rD ha jw lJ et c1 he;lia)),aM.mk fun pC HC SC nC eC=>?_⟩
      have S7C:=((((S8.trans S9).trans SA).trans SB).trans SC)
      have S5C:=(S6.trans S7).trans S7C
      have kd:Dt HC (dT (.knot (iJ c' 3 (cell / 128 % 3).toNat) x y)) (.ref p7):=BE (S7C _ _ e7) (dx.same S5C) (dy.same S5C)
      have step:=I.step (f:=iJ c' 3 (cell / 128 % 3).toNat) ha hb rD (List.mem_map.mpr ⟨_,List.mem_range.mpr (by (clear aX lP bC hm jw lJ hc lI en np ep ed h1 et lv hj c1 he wI rD ha hb yV yR n6 e6 CG DY xQ rH vI n7 e7 n8 e8 n9 e9 nA eA Mj nB eB nC eC;lia)),rfl⟩) vI
      have DvC:=Dv.same S5C
      refine⟨ts.length - 1,by (clear yV yR n6 e6 CG DY xQ rH vI n7 e7 n8 e8 n9 e9 nA eA Mj nB eB nC eC aX lP bC hm jw lJ hc lI en np ep ed h1 et lv hj c1 ha hb rD he;omega),(hW _ _ _).mpr ⟨j+1,_,_,pC,_,_,_,_,_,?_,step,?_,S5.trans S5C,eC,?_,by push_cast;simp only [Int.add_assoc];rfl⟩⟩
      · have:=step.len;(clear aX lP bC hm jw lJ hc lI en np ep ed n6 e6 CG DY xQ rH vI n7 e7 n8 e8 n9 e9 nA eA Mj nB eB h1 et lv wI rD ha hb yV yR c1 he nC eC;lia)
      · have:=step.len;(clear aX lP bC hm jw lJ hc lI en np ep ed n6 e6 CG DY xQ rH vI n7 e7 n8 e8 n9 e9 nA eA Mj nB eB h1 et lv wI rD ha hb yV yR nC eC;lia)
      · unfold M.merge
        rw [List.map_append,List.map_append,List.map_take,List.map_drop]
        exact((DvC.take p).append (.one kd)).append (DvC.drop (p+2))
     refine⟨⟨by decide,by decide⟩,by (clear aX lP bC hm jw lJ hc lI en np ep ed h1 hC he et hj;omega),by decide,bO (fun c2=>?b1) (fun c2=>bO (fun c3=>?b2) (fun c3=>?b3))⟩
     case' b1=>
      obtain⟨p,KR,wI⟩:=md ((at':Int)+2+j - at' - 2)
      have rD:24<many→p=j % (ts.length - 1):=fun _=>mj p KR
      refine⟨by (clear aX lP bC hm jw lJ hc lI en np ep ed he c2 KR wI rD h1 et hj hC;omega),?_⟩
     case' b2=>
      obtain⟨p,KR,wI⟩:=md ((at':Int)+2+j - at' - 2)
      have rD:24<many→p=j % (ts.length - 1):=fun _=>mj p KR
      refine⟨by (clear aX lP bC hm jw lJ hc lI en np ep ed he c2 c3 KR wI rD h1 et hj hC;omega),?_⟩
     case' b3=>
      obtain⟨p,KR,wI⟩:=md (cell / 4)
      have rD:24<many→p=j % (ts.length - 1):=fun z=>absurd (decide_eq_true (by (clear aX lP bC hm jw lJ hc lI en np ep ed h1 et lv hj c1 hC he c2 c3 KR wI;omega))) c3
     all_goals
      rw [KR]
      exact tail p wI rD
   · have c1:ts.length=1:=by have:¬1<ts.length:=fun z=>c1 (decide_eq_true (by (clear lJ hc lI en np aX lP bC ed h1 et hj c1 hm jw ep;omega)));(clear aX lP bC hm jw lJ hc lI en et lv hj c1 ep ed;lia)
     obtain⟨t,rfl⟩:=List.length_eq_one_iff.mp c1
     obtain⟨h2,h3,h4⟩:=I.end hm
     walk_at "rd"
     obtain⟨v,hv,hd⟩:=aR.get (i:=0) Dv rfl
     refine⟨_,aN et,v,jo (by decide) hv,q t c c' v H5 (S1.trans S5) hd ⟨h2,h3,h4⟩ ⟨hc.symm,jw⟩⟩
theorem wu (c d:Nat):(!decide ([c]<[d]))=decide (d≤c):=by
 rw [Bool.eq_iff_iff];simp [List.cons_lt_cons_iff]
noncomputable def LK:Sp:=fun vs H Q _=>∃(x:Str),vs=[.str x]∧x.length≤1000000∧∀H',ay H H'→Q (.bl (bb x)) H'
theorem BH (T:Txt K mg):bg P w K mg base CX0 1 T.pU T.oN ["text"] LK:=by
 refine T.pj.ok (k:=0) se (fun vs H Q E h=>?_) (fun bt A outer s H vs Q E hr h=>?_)
 · obtain⟨x,rfl,_⟩:=h
   rfl
 obtain⟨x,rfl,hx,q⟩:=h
 have nd:=se.nd
 refine⟨_,(ai (ax (vm (sd uS uS ae (aQ gf rfl T.eQ cA (aa (pv 0) af)) (fG (v:=.int 8) rfl T.sI ⟨_,rfl⟩)) (kM (aQ (w6 rfl) rfl T.JM EV (aa (fB (N:=["sign"]) (caps:=[]) rfl ⟨rfl,rfl,rfl,rfl,by decide +kernel,rfl,rfl,rfl,rfl⟩ (Fy (pv 0)) (fun _ _ _ _=>dB) (fun _ _ _ _=>(sd kY kY az (pv 0) az))) af)))))),?_⟩
 walk_at "rd"
 have hz:x.length≤sizeLine:=Nat.le_trans hx (by decide)
 have el:x.cps.toList.length=x.length:=by simp [Str.length]
 refine⟨hz,bO (fun c1=>bO (fun c2=>?_) (fun c2=>?_)) (fun c1=>?_)⟩
 · have c1:1≤x.length:=by have:=of_decide_eq_true c1;(clear hx hz el c1 c2;omega)
   have c2:x.length≤8:=by have:=of_decide_eq_true c2;(clear hx hz el c2 c1;lia)
   refine yL (fun i ys H'=>H'=H∧i≤x.cps.size∧ys=(x.cps.toList.take i).map (fun c=>V.bl (decide (97≤c)&&decide (c≤122)))) ⟨rfl,Nat.zero_le _,rfl⟩ (Nat.lt_of_le_of_lt c2 (by decide)) (fun i ys H' h=>?_) (fun i c ys H' ec h=>?_) (fun ys H' h p hp=>?_)
   · rw [h.2.2];simp;(clear hx hz el c1 c2 h;lia)
   · obtain⟨rfl,hi,rfl⟩:=h
     walk_at "rd"
     have dY:i<x.cps.size:=(Array.getElem?_eq_some_iff.mp ec).1
     have Wl:x.cps.toList[i]? = some c:=by simpa using ec
     have e:(x.cps.toList.take (i+1)).map (fun c=>V.bl (decide (97≤c)&&decide (c≤122)))=(x.cps.toList.take i).map (fun c=>V.bl (decide (97≤c)&&decide (c≤122)))++[V.bl (decide (97≤c)&&decide (c≤122))]:=by
      rw [List.take_add_one,Wl];simp
     have l1:(!decide ((Str.mk #[c]).cps.toList<(Str.ofString "a").cps.toList))=decide (97≤c):=by
      have:(Str.ofString "a").cps.toList=[97]:=by decide +kernel
      rw [this];exact wu c 97
     have l2:(!decide ((Str.ofString "z").cps.toList<(Str.mk #[c]).cps.toList))=decide (c≤122):=by
      have:(Str.ofString "z").cps.toList=[122]:=by decide +kernel
      rw [this];exact wu 122 c
     rw [l1,l2]
     refine bO (fun d=>?_) (fun d=>?_)
     · refine⟨dY,?_⟩
       rw [e,d];simp
     · refine⟨dY,?_⟩
       have d:decide (97≤c)=false:=by simpa using d
       rw [e,d];simp
   · obtain⟨rfl,_,rfl⟩:=h
     refine⟨p,rfl,x.cps.toList.map (fun c=>decide (97≤c)&&decide (c≤122)),fD.of ?_,?_⟩
     · rw [aT]
       have:x.cps.toList.take x.cps.size=x.cps.toList:=List.take_of_length_le (by simp)
       rw [this,List.map_map];rfl
     · have:=q _ (bP hp (.lst ((x.cps.toList.take x.cps.size).map (fun c=>V.bl (decide (97≤c)&&decide (c≤122))))))
       unfold bb isName at this
       rw [el,decide_eq_true c1,decide_eq_true c2] at this
       rw [List.all_map]
       simpa using this
 · have c1:1≤x.length:=by have:=of_decide_eq_true c1;(clear hx hz el c1 c2;omega)
   have c2:¬x.length≤8:=fun z=>c2 (decide_eq_true (by (clear hx hz el c2 c1;lia)))
   have:=q H (ay.refl H)
   unfold bb isName at this
   rw [el,decide_eq_false c2] at this
   simpa using this
 · have c1:¬1≤x.length:=fun z=>c1 (decide_eq_true (by (clear hx hz el c1;lia)))
   have:=q H (ay.refl H)
   unfold bb isName at this
   rw [el,decide_eq_false c1] at this
   simpa using this
noncomputable def K3:Sp:=fun vs H Q _=>∃(t:L2.Tree) (v:V),vs=[v]∧Dt H (dT t) v∧Q (.bl t.i7) H
theorem Dl (t:L2.Tree):decide ((if t.i7=true then Str.ofString "leaf" else Str.ofString "knot")=Str.ofString "leaf")=t.i7:=by
 cases t
 · show decide (Str.ofString "leaf"=Str.ofString "leaf")=true
   decide +kernel
 · show decide (Str.ofString "knot"=Str.ofString "leaf")=false
   decide +kernel
theorem jc (T:Txt K mg):bg P w K mg base CX0 1 T.nY T.pN ["tree"] K3:=by
 refine T.eL.ok (k:=0) r6 (fun vs H Q E h=>?_) (fun bt A outer s H vs Q E hr h=>?_)
 · obtain⟨t,v,rfl,_⟩:=h
   rfl
 obtain⟨t,v,rfl,ht,q⟩:=h
 obtain⟨a,r,rfl,ea⟩:=zh ht
 have nd:=r6.nd
 refine⟨_,(ai (ax (bu bj (aw bQ (pv 0) ae (fun _ _=>rfl)) az (aB _)))),?_⟩
 walk_at "rd"
 refine⟨_,aj ea,_,aP,rfl,?_⟩
 have e:decide (V.str (if t.i7=true then Str.ofString "leaf" else Str.ofString "knot")=V.str (Str.ofString "leaf"))=t.i7:=by
  simp only [V.str.injEq];exact Dl t
 rw [e]
 exact q
noncomputable def K7:Sp:=fun vs H Q _=>∃(t u:L2.Tree) (p:List Nat) (v z:V),vs=[v,z]∧Dt H (dT t) v∧Dt H (dP p) z∧t.sub p=some u∧∀v',Dt H (dT u) v'→Q v' H
theorem nP (T:Txt K mg):bg P w K mg base CX0 1 T.pV T.oq ["tree","place"] K7:=by
 refine T.gq.ok (k:=0) tI (fun vs H Q E h=>?_) (fun bt A outer s H vs Q E hr h=>?_)
 · obtain⟨t,u,p,v,z,rfl,_⟩:=h
   rfl
 obtain⟨t,u,p,v,z,rfl,ht,hp,hu,q⟩:=h
 obtain⟨a,rfl,ea⟩:=Bk hp
 have nd:=tI.nd
 refine⟨_,(ag (aA (i:=2) nd rfl (Or.inl rfl) (pv 0))
  (ag (jF PassesOwn.never rfl (RF (pv 1)) (dA (i:=3) nd rfl (Or.inl rfl)) (ai (aA (i:=2) nd rfl (Or.inl rfl) (aw bQ (pv 2) (ao bI ae (pv 3)) (fun _ _=>rfl)))))
  (ai (ax (pv 2))))),?_⟩
 walk_at "rd"
 obtain⟨Pv,gW⟩:∃Pv:Nat→St→Hp→Prop,∀i σ H',Pv i σ H'↔H'=H∧∃(y:L2.Tree) (vy:V) (o3:Option V),Dt H (dT y) vy∧y.sub (p.drop i)=some u∧σ=[some v,some (.ref a),some vy,o3]:=⟨_,fun _ _ _=>Iff.rfl⟩
 refine lX.DF ea Pv ((gW _ _ _).mpr ⟨rfl,t,v,none,ht,by simpa using hu,rfl⟩) (fun i σ H' _ h=>((gW _ _ _).mp h).1▸ea) ?_ ?_
 · intro i x σ H' ex h
   obtain⟨rfl,y,vy,o3,hy,hs,rfl⟩:=(gW _ _ _).mp h
   have hi:i<p.length:=by have:=(List.getElem?_eq_some_iff.mp ex).1;simpa [vP] using this
   have R6:x = .int ((p[i]:Nat):Int):=by
    have:(vP p)[i]? = some (.int ((p[i]:Nat):Int)):=by unfold vP;rw [List.getElem?_map,List.getElem?_eq_getElem hi];rfl
    rw [this] at ex;exact(Option.some.inj ex).symm
   subst R6
   rw [List.drop_eq_getElem_cons hi] at hs
   walk_at "rd"
   cases y with
   | leaf x=>simp [M.Tr.sub] at hs
   | knot f l r=>
    obtain⟨b,vl,vr,rfl,eb,hl,B3⟩:=gm hy
    simp only [M.Tr.sub] at hs
    split at hs
    · rename_i e0
      refine⟨b,rfl,_,aj eb,vl,by rw [e0];exact gM,(gW _ _ _).mpr ⟨rfl,l,_,_,hl,hs,rfl⟩⟩
    · split at hs
      · rename_i _ e1
        refine⟨b,rfl,_,aj eb,vr,by rw [e1];exact mY,(gW _ _ _).mpr ⟨rfl,r,_,_,B3,hs,rfl⟩⟩
      · cases hs
 · intro σ H' h
   obtain⟨rfl,y,vy,o3,hy,hs,rfl⟩:=(gW _ _ _).mp h
   walk_at "rd"
   have:(vP p).length=p.length:=by simp [vP]
   rw [this,List.drop_length,M.Tr.wz] at hs
   cases hs
   exact q vy hy
noncomputable def rF (n:Nat):Sp:=fun vs H Q _=>∃(t:L2.Tree) (v:V),vs=[v]∧Dt H (dT t) v∧t.dp≤n∧t.lv.length≤5000∧C3 H (t.pl.map dP) Q
theorem iH (T:Txt K mg):∀n:Nat,bg P w K mg base CX0 (n+2) T.sV T.tG ["tree"] (rF n)
 | 0=>by
  refine T.gE.ok (k:=1) pW (fun vs H Q E h=>?_) (fun bt A outer s H vs Q E hr h=>?_)
  · obtain⟨t,v,rfl,_⟩:=h
    rfl
  · obtain⟨t,v,rfl,_,h,_⟩:=h
    have:=t.sA
    omega
 | n+1=>by
  refine T.gE.ok (k:=n+2) pW (fun vs H Q E h=>?_) (fun bt A outer s H vs Q E hr h=>?_)
  · obtain⟨t,v,rfl,_⟩:=h
    rfl
  obtain⟨t,v,rfl,ht,hd,hl,q⟩:=h
  have nd:=pW.nd
  have bL:=(jc (P:=P) (w:=w) (base:=base) T).mono (k:=n+2) (by lia)
  have fc:=iH T n
  refine⟨_,(ag (aA (i:=1) nd rfl (Or.inl rfl) (br (aa (bN af) af)))
  (ag (aW (dD (ak bL hr rfl T.fx T.eL.kp T.fA .nil aG (aa (pv 0) af))) (ai (ax (pv 1))) aE)
  (ag (jF PassesOwn.never rfl (RF (bN (aa ae (aa ae af)))) (dA (i:=2) nd rfl (Or.inr rfl)) (ai (gk (lV PySem.F.plainAttrs_list PySem.F.slot_list_extend PySem.F.type_list_extend Dp (pv 1) (aa (fB (N:=["place","step"]) (caps:=[2]) rfl ⟨rfl,rfl,rfl,rfl,by decide +kernel,rfl,rfl,rfl,rfl⟩ (AE (ak fc hr rfl T.jK T.gE.kp T.kf .nil aG (aa (aw bQ (pv 0) (ao bI ae (pv 2)) (fun _ _=>rfl)) af))) (fun _ _ _ _=>dB) (fun _ _ _ _=>(ao nF (bN (aa (pv 1) af)) (pv 0)))) af)))))
  (ai (ax (pv 1)))))),?_⟩
  walk_at "rd"
  refine⟨by decide,aM.mk fun p1 H1 S1 n1 e1=>⟨by decide,aM.mk fun p2 H2 S2 n2 e2=>?_⟩⟩
  have ht2:=ht.same (S1.trans S2)
  refine⟨t,v,rfl,ht2,_,rfl,?_⟩
  have n0:H p2=none:=S1.free n2
  have S12:=S1.trans S2
  have d0:Dt H2 (dP []) (.ref p1):=qh (S2 _ _ e1)
  cases t with
  | leaf x=>exact fT (q p2 _ H2 S12 n0 e2 (.one d0))
  | knot f l r=>
   obtain⟨a,vl,vr,rfl,ea,wq,B3⟩:=gm ht2
   simp only [M.Tr.dp] at hd
   simp only [M.Tr.lv,List.length_append] at hl
   refine eR ⟨by decide,aM.mk fun p3 H3 S3 n3 e3=>?_⟩
   have CV:H p3=none:=S12.free n3
   have tw:p2≠p3:=aF e2 n3
   have CU:a≠p2:=lM ea e2 (by intro z;cases z)
   have turn:∀(y:L2.Tree) (vy:V) (step:Nat) (H4:Hp) (vs:List V) (R:V→Hp→Prop),y.dp≤n→y.lv.length≤5000→ay H H4→H4 p2=some (.lst vs)→Dt H4 (dT y) vy→vs.length≤20000→
    (∀H5 ws,ay H H5→H5 p2=some (.lst (vs++ws))→aR H5 (y.pl.map fun q=>dP (step::q)) ws→(∀b,b≠p2→∀o,H4 b=some o→H5 b=some o)→R .non H5)→
    rF n [vy] H4 (fun x H1=>WalkL K x H1 fun J H1=>jC J [2] Mw (NO Fm (Ni (Fb (DW 1) MD)) (DW 0)) [some (V.ref a),some (V.ref p2),some (V.int step)] H1 fun x H1=>∃KG,x=V.ref KG∧∃x,H1 p2=some (HO.lst x)∧∃x_2,H1 KG=some (HO.lst x_2)∧x.length+x_2.length≤sizeLine∧ny H1 p2 (HO.lst (x++x_2)) (R V.non)) E0:=by
    intro y vy step H4 vs R LG RG S4 e4 hy LD hR
    refine⟨y,vy,rfl,hy,LG,RG,fun p5 ys H5 S5 n5 e5 D5=>?_⟩
    have l5:ys.length=y.pl.length:=by have:=D5.length;simpa using this
    have l6:=M.gB y
    refine WalkL.comp e5 (fun i zs H'=>i≤ys.length∧aR H' ((y.pl.take i).map fun q=>dP (step::q)) zs) ⟨Nat.zero_le _,.nil⟩ (by (clear n1 e1 n2 e2 n0 hd ea hl n3 e3 CV tw CU LG LD n5 e4 e5;lia)) (fun i zs H' h=>by have:=h.2.length;simp at this;(clear n1 e1 n2 e2 n0 hd ea hl n3 e3 CV tw CU LG RG e4 LD n5 e5 l5 l6 h;lia)) (fun i x zs H' ex S' h=>?_) (fun p7 zs H6 H7 S6 S7 h n7 e7=>?_)
    · have hi:i<y.pl.length:=by have:=(List.getElem?_eq_some_iff.mp ex).1;(clear n1 e1 n2 e2 n0 hd ea hl n3 e3 CV tw CU LG RG e4 LD n5 l6 ex e5 h;lia)
      obtain⟨v',tL,Ds⟩:=aR.fY D5 (List.getElem?_eq_getElem hi)
      rw [ex] at tL;cases tL
      obtain⟨b,rfl,eb⟩:=Bk (Ds.same S')
      walk_at "rd"
      refine⟨by decide,aM.mk fun p8 H8 S8 n8 e8=>?_⟩
      walk_at "rd"
      refine⟨_,e8,_,S8 _ _ eb,?_,fun p9 H9 S9 e9=>⟨(S'.trans S8).trans S9,by (clear n1 e1 n2 e2 n0 hd ea hl n3 e3 CV tw CU LG h eb ex n8 e8 e9 RG e4 LD n5 l6 e5;lia),?_⟩⟩
      · have:=M.JU (List.getElem_mem hi)
        refine aZ ?_
        simp [vP]
        have:=y.Kn
        (clear n1 e1 n2 e2 n0 hd ea hl n3 e3 CV tw CU LG e5 l5 l6 h eb ex n8 LD n5 e4 e8;lia)
      · rw [List.take_add_one,List.getElem?_eq_getElem hi]
        simp only [Option.toList_some,List.map_append,List.map_cons,List.map_nil]
        exact((h.2.same S8).same S9).append (.one (qh (p:=step::y.pl[i]) e9))
    · refine⟨p7,rfl,vs,S7 _ _ (S6 _ _ (S5 _ _ e4)),zs,e7,?_,ny.mk fun H8 k8 e8=>?_⟩
      · have:=h.2.length
        simp at this
        refine aZ (by (clear n1 e1 n2 e2 n0 hd ea hl n3 e3 CV tw CU n5 e5 h n7 LG e4 e7;lia))
      · have D7:=h.2.same S7
        rw [l5,List.take_length] at D7
        refine hR H8 zs (ay.mV (((S4.trans S5).trans S6).trans S7) n0 k8) e8 (D7.sg (S7 _ _ (S6 _ _ (S5 _ _ e4))) k8 ?_) fun b hb o e=>?_
        · have:∀l:List (List Nat),D.my (l.map fun q=>dP (step::q))=true:=fun l=>by
           induction l with
           | nil=>rfl
           | cons q l ih=>simp only [List.map_cons,D.my,xH,ih,Bool.and_self]
          exact this _
        · rw [k8 b hb]
          exact S7 _ _ (S6 _ _ (S5 _ _ e))
   obtain⟨Pv,gW⟩:∃Pv:Nat→St→Hp→Prop,∀i σ H',Pv i σ H'↔∃(o2:Option V) (vs:List V),ay H H'∧H' p3=some (.tup [.int 0,.int 1])∧H' a=some (.tup [.str "knot",.str f,vl,vr])∧H' p2=some (.lst vs)∧
    aR H' ((([]:List Nat)::((if 1≤i then l.pl.map (0 :: ·) else [])++(if 2≤i then r.pl.map (1 :: ·) else []))).map dP) vs∧Dt H' (dT l) vl∧Dt H' (dT r) vr∧σ=[some (.ref a),some (.ref p2),o2]:=⟨_,fun _ _ _=>Iff.rfl⟩
   refine lX.DF e3 Pv ((gW _ _ _).mpr ⟨none,_,S12.trans S3,e3,S3 _ _ ea,S3 _ _ e2,.one (d0.same S3),wq.same S3,B3.same S3,rfl⟩) (fun i σ H' _ h=>by obtain⟨_,_,_,h,_⟩:=(gW _ _ _).mp h;exact h) ?_ ?_
   · intro i x σ H4 ex h
     obtain⟨o2,vs,S4,f3,fa,f2,D4,RX,R3,rfl⟩:=(gW _ _ _).mp h
     have JG:=D4.length
     have b1:=M.gB l
     have b2:=M.gB r
     have hi:i<2:=by have:=(List.getElem?_eq_some_iff.mp ex).1;simpa using this
     have keep:∀{H5:Hp}{ws:List V},(∀b,b≠p2→∀o,H4 b=some o→H5 b=some o)→nc H4 H5:=fun {H5 ws} k5 b xs e=>k5 b (lM e f2 (by intro z;cases z)) _ e
     rcases (show i=0∨i=1 by (clear n1 e1 n2 e2 n0 hd ea hl n3 e3 CV f3 fa f2 JG b1 b2 CU ex;lia)) with rfl|rfl
     · cases ex
       walk_at "rd"
       refine⟨o1 f2,_,aj fa,_,gM,?_⟩
       refine turn l vl 0 H4 vs (fun _=>Pv 1 _) (by (clear CV tw CU f3 fa f2 b1 b2 JG hi n1 e1 n2 e2 n0 n3 e3 hl ea;lia)) (by (clear CV tw CU f3 fa f2 b1 b2 JG hi n1 e1 n2 e2 n0 n3 e3 hd ea;lia)) S4 f2 RX (by simp at JG;(clear n1 e1 n2 e2 n0 hd ea hl n3 e3 CV tw CU f3 fa f2 b1 b2 hi;lia)) fun H5 ws S5 e5 D5 k5=>(gW _ _ _).mpr ?_
       have U:=keep (ws:=ws) k5
       refine⟨_,_,S5,U _ _ f3,U _ _ fa,e5,?_,RX.bU U (xh l),R3.bU U (xh r),rfl⟩
       have D4':=D4.bU U (by simp [D.my,xH])
       simpa [Function.comp_def] using D4'.append D5
     · cases ex
       walk_at "rd"
       refine⟨o1 f2,_,aj fa,_,mY,?_⟩
       refine turn r vr 1 H4 vs (fun _=>Pv 2 _) (by (clear CV tw CU f3 fa f2 b1 b2 JG hi n1 e1 n2 e2 n0 n3 e3 hl ea;lia)) (by (clear CV tw CU f3 fa f2 b1 b2 JG hi n1 e1 n2 e2 n0 n3 e3 hd ea;lia)) S4 f2 R3 (by simp at JG;(clear n1 e1 n2 e2 n0 CV tw CU f3 fa n3 e3 f2 hd ea b2 hi;lia)) fun H5 ws S5 e5 D5 k5=>(gW _ _ _).mpr ?_
       have U:=keep (ws:=ws) k5
       refine⟨_,_,S5,U _ _ f3,U _ _ fa,e5,?_,RX.bU U (xh l),R3.bU U (xh r),rfl⟩
       have my:∀q:List (List Nat),D.my (q.map dP)=true:=fun q=>by
        induction q with
        | nil=>rfl
        | cons a q ih=>simp only [List.map_cons,D.my,xH,ih,Bool.and_self]
       have D4':=D4.bU U (my _)
       simpa [Function.comp_def] using D4'.append D5
   · intro σ H4 h
     obtain⟨o2,vs,S4,f3,fa,f2,D4,RX,R3,rfl⟩:=(gW _ _ _).mp h
     walk_at "rd"
     exact q p2 _ H4 S4 n0 f2 (by simpa [M.Tr.pl] using D4)
noncomputable def so (t:L2.Tree) (p:List Nat):Bool:=match t.sub p with|some s=>s.i7|none=>false
noncomputable def lvp (t:L2.Tree):List (List Nat):=t.pl.filter (so t)
theorem zg (t:L2.Tree):lvp t=((t.wk []).filter (fun q=>q.2.i7)).map (·.1):=M.Cf t _ fun q s h=>by unfold so;rw [M.Tr.h8 h]
noncomputable def xg (n:Nat):Sp:=fun vs H Q _=>∃(t:L2.Tree) (v:V),vs=[v]∧Dt H (dT t) v∧t.dp≤n∧t.lv.length≤5000∧C3 H ((lvp t).map dP) Q
theorem pJ (T:Txt K mg) (n:Nat):bg P w K mg base CX0 (n+3) T.rN T.sr ["tree"] (xg n):=by
 refine T.nL.ok (k:=n+2) uK (fun vs H Q E h=>?_) (fun bt A outer s H vs Q E hr h=>?_)
 · obtain⟨t,v,rfl,_⟩:=h
   rfl
 obtain⟨t,v,rfl,ht,hd,hl,q⟩:=h
 have nd:=uK.nd
 have bL:=(jc (P:=P) (w:=w) (base:=base) T).mono (k:=n+2) (by lia)
 have dN:=(nP (P:=P) (w:=w) (base:=base) T).mono (k:=n+2) (by lia)
 have fc:=iH (P:=P) (w:=w) (base:=base) T n
 refine⟨_,(ai (ax (fB (N:=["place","tree"]) (caps:=[0]) rfl ⟨rfl,rfl,rfl,rfl,by decide +kernel,rfl,rfl,rfl,rfl⟩ (AE (ak fc hr rfl T.jK T.gE.kp T.kf .nil aG (aa (pv 0) af))) (fun _ _ _ _=>AL (dD (ak bL hr rfl T.fx T.eL.kp T.fA .nil aG (aa (ak dN hr rfl T.iE T.gq.kp T.iR .nil aG (aa (pv 1) (aa (pv 0) af))) af)))) (fun _ _ _ _=>(pv 0))))),?_⟩
 walk_at "rd"
 refine⟨t,v,rfl,ht,hd,hl,fun p5 ys H5 S5 n5 e5 D5=>?_⟩
 have l5:ys.length=t.pl.length:=by have:=D5.length;simpa using this
 have l6:=M.gB t
 refine WalkL.comp e5 (fun i zs H'=>H'=H5∧zs.length≤i∧aR H' (((t.pl.take i).filter (so t)).map dP) zs) ⟨rfl,Nat.zero_le _,.nil⟩ (by (clear n5 e5 hd;lia)) (fun i zs H' h=>h.2.1) (fun i x zs H' ex S' h=>?_) (fun p7 zs H6 H7 S6 S7 h n7 e7=>?_)
 · obtain⟨rfl,hz,D6⟩:=h
   have hi:i<t.pl.length:=by have:=(List.getElem?_eq_some_iff.mp ex).1;(clear hd hl n5 ex e5 l6 hz;lia)
   obtain⟨v',tL,Ds⟩:=aR.fY D5 (List.getElem?_eq_getElem hi)
   rw [ex] at tL;cases tL
   obtain⟨u,hu,_⟩:=M.wa (List.getElem_mem hi)
   have hg:so t t.pl[i]=u.i7:=by unfold so;rw [hu]
   walk_at "rd"
   refine⟨t,u,_,v,x,rfl,ht.same S5,Ds,hu,fun w' Kc=>⟨u,w',rfl,Kc,_,rfl,bO (fun c=>?_) (fun c=>?_)⟩⟩
   · refine⟨S',rfl,by simp;omega,?_⟩
     rw [List.take_add_one,List.getElem?_eq_getElem hi,List.filter_append]
     simp only [Option.toList_some,List.filter_cons,List.filter_nil,hg,c,if_true,List.map_append,List.map_cons,List.map_nil]
     exact D6.append (.one Ds)
   · have c:u.i7=false:=by simpa using c
     refine⟨S',rfl,by (clear hd hl n5 l5 l6 ex hu hg c e5;lia),?_⟩
     rw [List.take_add_one,List.getElem?_eq_getElem hi,List.filter_append]
     simp only [Option.toList_some,List.filter_cons,List.filter_nil,hg,c,Bool.false_eq_true,if_false,List.append_nil]
     exact D6
 · obtain⟨rfl,hz,D6⟩:=h
   rw [l5,List.take_length] at D6
   exact q p7 zs H7 (S5.trans S7) (S5.free n7) e7 (D6.same S7)
noncomputable def CI (n:Nat):Sp:=fun vs H Q _=>∃(t:L2.Tree) (x:Str) (v:V),vs=[v,.str x]∧Dt H (dT t) v∧t.dp≤n∧t.lv.length≤5000∧xo H (dO (M.firstOf x (t.wk []))) Q
theorem y8 (T:Txt K mg) (n:Nat):bg P w K mg base CX0 (n+4) T.mH T.mR ["tree","x"] (CI n):=by
 refine T.rM.ok (k:=n+3) qj (fun vs H Q E h=>?_) (fun bt A outer s H vs Q E hr h=>?_)
 · obtain⟨t,x,v,rfl,_⟩:=h
   rfl
 obtain⟨t,x,v,rfl,ht,hd,hl,q⟩:=h
 have nd:=qj.nd
 have dN:=(nP (P:=P) (w:=w) (base:=base) T).mono (k:=n+3) (by lia)
 have kD:=pJ (P:=P) (w:=w) (base:=base) T n
 refine⟨_,(ag (jF PassesOwn.never rfl (AE (ak kD hr rfl T.sj T.nL.kp T.rO .nil aG (aa (pv 0) af))) (dA (i:=2) nd rfl (Or.inl rfl)) (ai (aW (aC bj (aw bQ (ak dN hr rfl T.iE T.gq.kp T.iR .nil aG (aa (pv 0) (aa (pv 2) af))) ae (fun _ _=>rfl)) (pv 1) (aB _)) (ai (ax (pv 2))) aE)))
  (ai (ax mL))),?_⟩
 walk_at "rd"
 refine⟨t,v,rfl,ht,hd,hl,fun p5 ys H5 S5 n5 e5 D5=>?_⟩
 rw [zg,List.map_map] at D5
 have l5:=D5.length
 have RZ:=ht.same S5
 obtain⟨Pv,gW⟩:∃Pv:Nat→St→Hp→Prop,∀i σ H',Pv i σ H'↔H'=H5∧(∀q∈((t.wk []).filter (fun q=>q.2.i7)).take i,q.2.name≠x)∧∃o2:Option V,σ=[some v,some (.str x),o2]:=⟨_,fun _ _ _=>Iff.rfl⟩
 refine WalkL.DF e5 Pv ((gW _ _ _).mpr ⟨rfl,by simp,none,rfl⟩) (fun i σ H' _ h=>((gW _ _ _).mp h).1▸e5) ?_ ?_
 · intro i y σ H' ey h
   obtain⟨rfl,hn,o2,rfl⟩:=(gW _ _ _).mp h
   have hi:i<((t.wk []).filter (fun q=>q.2.i7)).length:=by have:=(List.getElem?_eq_some_iff.mp ey).1;simp at l5;(clear hd hl n5 ey e5;lia)
   obtain⟨q0,Fj⟩:∃q0,((t.wk []).filter (fun q=>q.2.i7))[i]? = some q0:=⟨_,List.getElem?_eq_getElem hi⟩
   obtain⟨v',tL,Ds⟩:=aR.fY D5 Fj
   rw [ey] at tL;cases tL
   have hm:=List.mem_filter.mp (List.mem_of_getElem? Fj)
   obtain⟨qp,qs⟩:=q0
   have wO:=M.Tr.h8 hm.1
   walk_at "rd"
   refine⟨t,qs,qp,v,y,rfl,RZ,Ds,wO,fun w' Kc=>?_⟩
   obtain⟨a,r,rfl,ea⟩:=zh Kc
   walk_at "rd"
   refine⟨_,aj ea,_,cf,rfl,?_⟩
   refine bO (fun c=>?_) (fun c=>?_)
   · have c:qs.name=x:=by simpa using c
     refine q y _ S5 ?_
     rw [M.gG,M.xi hn Fj hm.2 c]
     exact Ds
   · have c:¬qs.name=x:=by simpa using c
     refine (gW _ _ _).mpr ⟨rfl,fun q hq=>?_,_,rfl⟩
     rw [List.take_add_one,Fj] at hq
     simp only [Option.toList_some,List.mem_append,List.mem_singleton] at hq
     rcases hq with hq|rfl
     · exact hn q hq
     · exact c
 · intro σ H' h
   obtain⟨rfl,hn,o2,rfl⟩:=(gW _ _ _).mp h
   walk_at "rd"
   refine q _ _ S5 ?_
   rw [M.gG,M.jm _ ys.length hn]
   simp at l5
   rw [l5,List.drop_length]
   exact eW.mpr rfl
noncomputable def nH (n:Nat):Sp:=fun vs H Q _=>∃(t:L2.Tree) (v:V) (b:Nat),vs=[v,.int b]∧Dt H (dT t) v∧b≤n∧Q (.bl (decide (b<t.dp))) H
theorem CJ (T:Txt K mg):∀n:Nat,bg P w K mg base CX0 (n+2) T.dn T.dt ["tree","bound"] (nH n):=by
 have main:∀n:Nat,(∀m,n=m+1→bg P w K mg base CX0 (n+1) T.dn T.dt ["tree","bound"] (nH m))→bg P w K mg base CX0 (n+2) T.dn T.dt ["tree","bound"] (nH n):=by
  intro n ih
  refine T.fI.ok (k:=n+1) kP (fun vs H Q E h=>?_) (fun bt A outer s H vs Q E hr h=>?_)
  · obtain⟨t,v,b,rfl,_⟩:=h
    rfl
  obtain⟨t,v,b,rfl,ht,hb,q⟩:=h
  have nd:=kP.nd
  have bL:=(jc (P:=P) (w:=w) (base:=base) T).mono (k:=n+1) (by lia)
  obtain⟨sp,fH,lK⟩:∃sp:Sp,bg P w K mg base CX0 (n+1) T.dn T.dt ["tree","bound"] sp∧∀m,n=m+1→sp=nH m:=by
   cases n with
   | zero=>exact⟨fun _ _ _ _=>False,⟨fun _ _ _ _ h=>h.elim,fun _ _ _ _ _ _ _ _ _ _ _ _ _ h=>h.elim⟩,fun m h=>by lia⟩
   | succ m=>exact⟨_,ih m rfl,fun k h=>by rw [show m=k by lia]⟩
  refine⟨_,(ag (aW (aC bj (pv 1) ae (aB _)) (ai (ax uT)) aE)
  (ag (aW (dD (ak bL hr rfl T.fx T.eL.kp T.fA .nil aG (aa (pv 0) af))) (ai (ax uT)) aE)
  (ai (ax (xm (ak fH hr rfl T.iC T.fI.kp T.iA .nil aG (aa (aw bQ (pv 0) ae (fun _ _=>rfl)) (aa (ao ff (pv 1) ae) af))) (kM (ak fH hr rfl T.iC T.fI.kp T.iA .nil aG (aa (aw bQ (pv 0) ae (fun _ _=>rfl)) (aa (ao ff (pv 1) ae) af))))))))),?_⟩
  walk_at "rd"
  have uc:=t.sA
  refine bO (fun c=>?_) (fun c=>?_)
  · have c:b=0:=by have:=of_decide_eq_true c;lia
    rw [decide_eq_true (show b<t.dp by lia)] at q
    exact q
  have c:0<b:=by have:¬b=0:=fun z=>c (by simp [z]);lia
  refine⟨t,v,rfl,ht,_,rfl,?_⟩
  cases t with
  | leaf x=>
   refine fT ?_
   rw [decide_eq_false (show ¬b<(M.Tr.leaf x).dp by simp [M.Tr.dp];omega)] at q
   exact q
  | knot f l r=>
   obtain⟨a,vl,vr,rfl,ea,hl,B3⟩:=gm ht
   refine eR ?_
   obtain⟨m,rfl⟩:∃m,n=m+1:=⟨n - 1,by (clear uc ea;lia)⟩
   rw [lK m rfl]
   have hk:(M.Tr.knot f l r).dp=max l.dp r.dp+1:=rfl
   have U8:((b - 1:Nat):Int)=(b:Int) - 1:=by (clear hb hk ea uc;omega)
   refine⟨a,rfl,_,aj ea,vl,gM,l,vl,b - 1,by rw [U8],hl,by (clear c uc ea hk;lia),_,rfl,bO (fun d=>?_) (fun d=>?_)⟩
   · have d:=of_decide_eq_true d
     rw [decide_eq_true (show b<(M.Tr.knot f l r).dp by rw [hk];(clear c uc ea hb hk U8;lia))] at q
     exact q
   · have d:¬b - 1<l.dp:=fun z=>d (decide_eq_true z)
     refine⟨a,rfl,_,aj ea,vr,mY,r,vr,b - 1,by rw [U8],B3,by (clear c uc d ea hk;lia),?_⟩
     have:decide (b<(M.Tr.knot f l r).dp)=decide (b - 1<r.dp):=by rw [Bool.eq_iff_iff];simp only [decide_eq_true_eq,hk];(clear c uc ea hb hk;lia)
     rw [this] at q
     exact q
 intro n
 induction n with
 | zero=>exact main 0 fun m h=>by lia
 | succ n ih=>exact main (n+1) (fun m h=>by rw [show m=n by lia];exact ih)
noncomputable def Jz:Sp:=fun vs H Q _=>∃(t:L2.Tree) (v:V),vs=[v]∧Dt H (dT t) v∧t.dp≤24∧t.lv.length≤32∧∀H',ay H H'→Q .non H'
theorem DR (T:Txt K mg):bg P w K mg base CX0 28 T.jq T.i5 ["tree"] Jz:=by
 refine T.nR.ok (k:=27) mh (fun vs H Q E h=>?_) (fun bt A outer s H vs Q E hr h=>?_)
 · obtain⟨t,v,rfl,_⟩:=h
   rfl
 obtain⟨t,v,rfl,ht,hd,hl,q⟩:=h
 have nd:=mh.nd
 have fH:=(CJ (P:=P) (w:=w) (base:=base) T 24).mono (k:=27) (by omega)
 have kD:=(pJ (P:=P) (w:=w) (base:=base) T 24).mono (k:=27) (by omega)
 refine⟨_,(ag (aW (dD (ak fH hr rfl T.iC T.fI.kp T.iA .nil aG (aa (pv 0) (aa (fG (v:=.int 24) rfl T.qk ⟨_,rfl⟩) af)))) (ai iX) aE)
  (ai (aW (aC lR (aQ qQ rfl T.eQ cA (aa (ak kD hr rfl T.sj T.nL.kp T.rO .nil aG (aa (pv 0) af)) af)) (fG (v:=.int 32) rfl T.tW ⟨_,rfl⟩) (aB _)) (ai iX) aE))),?_⟩
 walk_at "rd"
 refine⟨t,v,24,rfl,ht,by omega,_,rfl,?_⟩
 rw [decide_eq_false (by lia)]
 refine eR ⟨t,v,rfl,ht,hd,by lia,fun p1 ys H1 S1 n1 e1 D1=>?_⟩
 walk_at "rd"
 refine⟨_,aN e1,?_⟩
 have l1:=D1.length
 have:ys.length=t.lv.length:=by
  rw [l1,List.length_map,zg,List.length_map,←M.Tr.BC t [],List.length_map]
 rw [decide_eq_false (by (clear n1 e1 hd l1;lia))]
 exact eR (q H1 S1)
noncomputable def zC:Sp:=fun vs H Q _=>∃(t:L2.Tree) (v:V),vs=[v]∧Dt H (dT t) v∧t.dp≤24∧t.lv.length≤32∧(∀q s,(q,s)∈t.wk []→bb s.name=true)∧t.lv.Nodup∧∀H',ay H H'→Q .non H'
theorem GJ {x:Str} (h:bb x=true):x.length≤8:=by
 unfold bb isName at h
 simp only [Bool.and_eq_true,decide_eq_true_eq] at h
 have:=h.2.1
 simpa [Str.length] using this
theorem B1 (T:Txt K mg):bg P w K mg base CX0 28 T.ig T.iz ["tree"] zC:=by
 refine T.lN.ok (k:=27) jJ (fun vs H Q E h=>?_) (fun bt A outer s H vs Q E hr h=>?_)
 · obtain⟨t,v,rfl,_⟩:=h
   rfl
 obtain⟨t,v,rfl,ht,hd,hl,hn,xj,q⟩:=h
 have nd:=jJ.nd
 have bL:=(jc (P:=P) (w:=w) (base:=base) T).mono (k:=27) (by omega)
 have pF:=(BH (P:=P) (w:=w) (base:=base) T).mono (k:=27) (by omega)
 have dN:=(nP (P:=P) (w:=w) (base:=base) T).mono (k:=27) (by omega)
 have fc:=(iH (P:=P) (w:=w) (base:=base) T 24).mono (k:=27) (by omega)
 refine⟨_,(ag (aA (i:=1) nd rfl (Or.inl rfl) Ga)
  (ai (jF PassesOwn.never rfl (AE (ak fc hr rfl T.jK T.gE.kp T.kf .nil aG (aa (pv 0) af))) (dA (i:=2) nd rfl (Or.inl rfl)) (ag (aA (i:=3) nd rfl (Or.inl rfl) (ak dN hr rfl T.iE T.gq.kp T.iR .nil aG (aa (pv 0) (aa (pv 2) af))))
    (ag (aA (i:=4) nd rfl (Or.inl rfl) (aw bQ (pv 3) ae (fun _ _=>rfl)))
    (ag (aW (mJ (dD (ak pF hr rfl T.uL T.pj.kp T.uz .nil aG (aa (pv 4) af)))) (ai iX) aE)
    (ai (aW (dD (ak bL hr rfl T.fx T.eL.kp T.fA .nil aG (aa (pv 3) af))) (ag (aW (wy (Ll (KO hr) (pv 4) (pv 1))) (ai iX) aE)
      (ai (IU (KO hr) (pv 1) (pv 4) uT rfl))) aE)))))))),?_⟩
 walk_at "rd"
 refine aM.mk fun pd H1 S1 n1 e1=>?_
 refine⟨t,v,rfl,ht.same S1,hd,by lia,fun p2 ys H2 S2 n2 e2 D2=>?_⟩
 have l2:ys.length=t.pl.length:=by have:=D2.length;simpa using this
 have Rz:=M.gB t
 have wl:t.pl.length=(t.wk []).length:=by rw [M.Tr.mZ,List.length_map]
 obtain⟨Pv,gW⟩:∃Pv:Nat→St→Hp→Prop,∀i σ H',Pv i σ H'↔∃(aK:List (Key×V)) (o2 o3 o4:Option V),ay H H'∧H' pd=some (.dK aK)∧H' p2=some (.lst ys)∧Dt H' (dT t) v∧aR H' (t.pl.map dP) ys∧aK.length≤i∧
  (∀x:Str,(dc aK (Sum.inr x)).isSome=true→x∈(((t.wk []).take i).filter (fun q=>q.2.i7)).map (fun q=>q.2.name))∧σ=[some v,some (.ref pd),o2,o3,o4]:=⟨_,fun _ _ _=>Iff.rfl⟩
 refine WalkL.DF e2 Pv ((gW _ _ _).mpr ⟨[],none,none,none,S1.trans S2,S2 _ _ e1,e2,ht.same (S1.trans S2),D2,Nat.zero_le _,by simp [EU],rfl⟩) (fun i σ H' _ h=>by obtain⟨_,_,_,_,_,_,h,_⟩:=(gW _ _ _).mp h;exact h) ?_ ?_
 · intro i y σ H3 ey h
   obtain⟨aK,o2,o3,o4,S3,ed,e3,Q6,D3,hk,hv,rfl⟩:=(gW _ _ _).mp h
   have hi:i<t.pl.length:=by have:=(List.getElem?_eq_some_iff.mp ey).1;(clear hd hl n1 e1 wl ey ed e3 n2 e2 Rz hk;lia)
   obtain⟨q0,Fj⟩:∃q0,(t.wk [])[i]? = some q0:=⟨_,List.getElem?_eq_getElem (by (clear hd hl n1 e1 n2 e2 l2 ey ed e3 hk Rz;lia))⟩
   have wK:t.pl[i]? = some q0.1:=by rw [M.Tr.mZ,List.getElem?_map,Fj];rfl
   obtain⟨v',tL,Ds⟩:=aR.fY D3 wK
   rw [ey] at tL;cases tL
   obtain⟨qp,qs⟩:=q0
   have hm:=List.mem_of_getElem? Fj
   have wO:=M.Tr.h8 hm
   walk_at "rd"
   refine⟨t,qs,qp,v,y,rfl,Q6,Ds,wO,fun w' Kc=>?_⟩
   obtain⟨a,r,rfl,ea⟩:=zh Kc
   walk_at "rd"
   refine⟨_,aj ea,_,cf,?_⟩
   have aO:=hn qp qs hm
   refine⟨_,rfl,Nat.le_trans (GJ aO) (by decide),fun H4 S4=>?_⟩
   rw [aO]
   walk_at "rd"
   have tk:(((t.wk []).take (i+1)).filter (fun q=>q.2.i7)).map (fun q=>q.2.name)=(((t.wk []).take i).filter (fun q=>q.2.i7)).map (fun q=>q.2.name)++(if qs.i7=true then [qs.name] else []):=by
    rw [List.take_add_one,Fj,List.filter_append,List.map_append]
    congr 1
    simp only [Option.toList_some,List.filter_cons,List.filter_nil]
    split<;>rfl
   have U4:∀{b o},H3 b=some o→H4 b=some o:=fun h=>S4 _ _ h
   refine eR ⟨qs,.ref a,rfl,Kc.same S4,_,rfl,bO (fun c=>?_) (fun c=>?_)⟩
   · rw [if_pos c] at tk
     have Se:qs.name∉(((t.wk []).take i).filter (fun q=>q.2.i7)).map (fun q=>q.2.name):=fun z=>by
      have sb:((((t.wk []).take (i+1)).filter (fun q=>q.2.i7)).map (fun q=>q.2.name)).Sublist t.lv:=by
       rw [←M.Tr.BC t []]
       exact((List.take_sublist _ _).filter _).map _
      have:=sb.nodup xj
      rw [tk,List.nodup_append] at this
      exact this.2.2 _ z _ (by simp) rfl
     have vn:dc aK (Sum.inr qs.name)=none:=by
      cases e:dc aK (Sum.inr qs.name) with
      | none=>rfl
      | some y=>exact absurd (hv qs.name (by rw [e];rfl)) Se
     refine⟨_,tN.k (k:=Sum.inr qs.name) (U4 ed),?_⟩
     rw [vn]
     refine eR ⟨_,xC.k (k:=Sum.inr qs.name) (U4 ed) (cP (by (clear aO tk c Se vn e1 n2 e2 ey ed e3 wK wO ea n1 l2 Fj hd wl;lia))),(gW _ _ _).mpr ?_⟩
     have Ut:nc H4 (upd H4 pd (.dK (putK aK (Sum.inr qs.name) (V.bl true)))):=fun b xs e=>by rw [aL (lM e (U4 ed) (by intro z;cases z))];exact e
     refine⟨_,_,_,_,(S3.trans S4).put n1 _,aT,by rw [aL (lM (U4 e3) (U4 ed) (by intro z;cases z))];exact U4 e3,(Q6.same S4).bU Ut (xh t),(D3.same S4).bU Ut ?_,?_,fun x hx=>?_,rfl⟩
     · have:∀l:List (List Nat),D.my (l.map dP)=true:=fun l=>by
        induction l with
        | nil=>rfl
        | cons q l ih=>simp only [List.map_cons,D.my,xH,ih,Bool.and_self]
       exact this _
     · have:=jH aK (Sum.inr qs.name) (V.bl true)
       (clear hd hl n1 e1 n2 e2 l2 Rz wl ey ed e3 wK wO ea aO tk c Fj Se hi vn;lia)
     · rw [tk]
       rw [Ez] at hx
       split at hx
       · rename_i z
         cases z
         simp
       · exact List.mem_append_left _ (hv x hx)
   · rw [if_neg c,List.append_nil] at tk
     exact(gW _ _ _).mpr ⟨aK,_,_,_,S3.trans S4,U4 ed,U4 e3,Q6.same S4,D3.same S4,by (clear hd hl n1 e1 n2 e2 l2 Rz wl ey ed ea aO tk c Fj wK wO hi e3;lia),fun x hx=>by rw [tk];exact hv x hx,rfl⟩
 · intro σ H' h
   obtain⟨aK,o2,o3,o4,S3,ed,e3,Q6,D3,hk,hv,rfl⟩:=(gW _ _ _).mp h
   exact q H' S3
noncomputable def yY:Sp:=fun vs H Q _=>∃(t:L2.Tree) (v:V),vs=[v]∧Dt H (dT t) v∧t.dp≤24∧t.lv.length≤32∧(∀q s,(q,s)∈t.wk []→bb s.name=true)∧t.lv.Nodup∧∀H',ay H H'→Q v H'
theorem yc (T:Txt K mg):bg P w K mg base CX0 29 T.pG T.oG ["tree"] yY:=by
 refine T.ux.ok (k:=28) rP (fun vs H Q E h=>?_) (fun bt A outer s H vs Q E hr h=>?_)
 · obtain⟨t,v,rfl,_⟩:=h
   rfl
 obtain⟨t,v,rfl,ht,hd,hl,hn,xj,q⟩:=h
 have nd:=rP.nd
 have wC:=DR (P:=P) (w:=w) (base:=base) T
 have t5:=B1 (P:=P) (w:=w) (base:=base) T
 refine⟨_,(ag (gk (ak wC hr rfl T.vH T.nR.kp T.vA .nil aG (aa (pv 0) af)))
  (ag (gk (ak t5 hr rfl T.t7 T.lN.kp T.tZ .nil aG (aa (pv 0) af)))
  (ai (ax (pv 0))))),?_⟩
 walk_at "rd"
 exact⟨t,v,rfl,ht,hd,hl,fun H1 S1=>⟨t,v,rfl,ht.same S1,hd,hl,hn,xj,fun H2 S2=>q H2 (S1.trans S2)⟩⟩
noncomputable def C5:Sp:=fun vs H Q _=>∃(z:Str) (s:Nat),vs=[.str z,.int s]∧z.length≤50000∧s≤z.length∧Q (.int (nameEnd z.cps.toList s)) H
theorem zF (T:Txt K mg):bg P w K mg base CX0 1 T.mB T.mx ["text","start"] C5:=by
 refine T.su.ok (k:=0) qg (fun vs H Q E h=>?_) (fun bt A outer s H vs Q E hr h=>?_)
 · obtain⟨z,s,rfl,_⟩:=h
   rfl
 obtain⟨z,st,rfl,hz,hs,q⟩:=h
 have nd:=qg.nd
 refine⟨_,(ag (aA (i:=2) nd rfl (Or.inl rfl) (pv 1))
  (ag (wM PassesOwn.never (PW.pt (jM (aC yb (pv 2) (aQ gf rfl T.eQ cA (aa (pv 0) af)) (aB _)) (ib (aC vB (aw oP (pv 0) (pv 2) (fun _ _=>rfl)) az (by with_unfolding_all rfl))))) (ai (Mz (i:=2) nd rfl (Or.inl rfl) ae M8)))
  (ai (ax (pv 2))))),?_⟩
 walk_at "rd"
 have zl:z.length≤sizeLine:=aZ (by lia)
 have lz:=cy z
 obtain⟨W,hW⟩:∃W:Nat→St→Hp→Prop,∀m σ H',W m σ H'↔H'=H∧∃e:Nat,m=z.length - e∧st≤e∧e≤z.length∧nameEnd z.cps.toList e=nameEnd z.cps.toList st∧σ=[some (V.str z),some (V.int st),some (V.int e)]:=⟨_,fun _ _ _=>Iff.rfl⟩
 refine⟨W,⟨_,(hW _ _ _).mpr ⟨rfl,st,rfl,Nat.le_refl _,hs,rfl,rfl⟩⟩,?_⟩
 intro m σ H' h
 obtain⟨rfl,e,rfl,h1,h2,h3,rfl⟩:=(hW _ _ _).mp h
 have step:∀c,z.cps.toList[e]? = some c→nameEnd z.cps.toList e=if isSign c=true then e else nameEnd z.cps.toList (e+1):=fun c hc=>by
  obtain⟨hi,e2⟩:=List.getElem?_eq_some_iff.mp hc
  unfold nameEnd
  rw [List.drop_eq_getElem_cons hi,e2,List.takeWhile_cons]
  cases isSign c
  · simp;(clear hz hs zl lz h1 h2 h3 hc hi e2;lia)
  · simp
 walk_at "rd"
 refine⟨zl,bO (fun c=>?_) (fun c=>?_)⟩
 · have c:e<z.length:=by have:=of_decide_eq_true c;(clear hz hs zl lz h1 h2 h3 c;omega)
   obtain⟨ch,hc⟩:∃ch,z.cps.toList[e]? = some ch:=⟨_,List.getElem?_eq_getElem (by (clear hz hs zl h1 h3;omega))⟩
   have sc:=step ch hc
   refine⟨zl,ch,gj hc,?_⟩
   rw [IS]
   cases Qr:isSign ch with
   | true=>
    rw [Qr,if_pos rfl] at sc
    refine eR ?_
    rw [←h3,sc] at q
    exact q
   | false=>
    rw [Qr,if_neg (by simp)] at sc
    refine fT ⟨fun σ' H'=>∃m',m'<z.length - e∧W m' σ' H',fun _ _ z=>z,?_⟩
    exact⟨z.length - (e+1),by (clear hz hs zl lz h1 h2 sc Qr hc h3;omega),(hW _ _ _).mpr ⟨rfl,e+1,rfl,by (clear h3 c hc sc Qr hz hs zl h2 lz;lia),by (clear hz hs zl lz h1 h2 sc Qr hc h3;omega),by rw [←sc];exact h3,by push_cast;rfl⟩⟩
 · have c:e=z.length:=by have:¬e<z.length:=fun y=>c (decide_eq_true (by (clear hz hs zl lz h1 h2 h3 c;omega)));(clear hz hs zl lz h1 h3 c;lia)
   have:nameEnd z.cps.toList e=e:=by
    unfold nameEnd
    rw [List.drop_eq_nil_of_le (by (clear hz hs zl h1 h3;lia))];simp
   rw [←h3,this] at q
   exact q
noncomputable def M6:Sp:=fun vs H Q _=>∃(z:Str) (m c:Nat),vs=[.str z,.int m,.str ⟨#[c]⟩]∧z.length≤50000∧z.cps.toList[m]? = some c∧Q (.int (m+1:Nat)) H
theorem HJ (T:Txt K mg):bg P w K mg base CX0 1 T.zp T.Aw ["text","at","sign"] M6:=by
 refine T.Ak.ok (k:=0) Bo (fun vs H Q E h=>?_) (fun bt A outer s H vs Q E hr h=>?_)
 · obtain⟨z,m,c,rfl,_⟩:=h
   rfl
 obtain⟨z,m,c,rfl,hz,hc,q⟩:=h
 have nd:=Bo.nd
 have hm:=(List.getElem?_eq_some_iff.mp hc).1
 have lz:=cy z
 refine⟨_,(ag (aW (aC xp (fg zk (pv 0) (d6 (pv 1)) (d6 (ao bI (pv 1) ae))) (pv 2) (aB _)) (ai iX) aE)
  (ai (ax (ao bI (pv 1) ae)))),?_⟩
 walk_at "rd"
 refine⟨aZ (by (clear hm lz hc;lia)),?_⟩
 rw [uF z (by lia),decide_eq_true hc]
 exact eR (by simpa using q)
noncomputable def dF (r:L2.Tree×Nat):D:=.tup [dT r.1,.int (r.2:Int)]
noncomputable def NB (n:Nat):Sp:=fun vs H Q _=>∃(z:Str) (s m:Nat) (r:L2.Tree×Nat),vs=[.str z,.int s,.int m]∧z.length≤50000∧s≤z.length∧1≤m∧m+n=25∧tf z.cps.toList n s=some r∧xo H (dF r) Q
theorem Bs (T:Txt K mg):∀n:Nat,bg P w K mg base CX0 (n+2) T.kQ T.kc ["text","start","level"] (NB n)
 | 0=>by
  refine T.fM.ok (k:=1) ja (fun vs H Q E h=>?_) (fun bt A outer s H vs Q E hr h=>?_)
  · obtain⟨z,s,m,r,rfl,_⟩:=h
    rfl
  · obtain⟨z,s,m,r,rfl,_,_,_,_,h,_⟩:=h
    simp [tf] at h
 | n+1=>by
  refine T.fM.ok (k:=n+2) ja (fun vs H Q E h=>?_) (fun bt A outer s H vs Q E hr h=>?_)
  · obtain⟨z,s,m,r,rfl,_⟩:=h
    rfl
  obtain⟨z,st,m,r,rfl,hz,hs,bC,hm,qa,q⟩:=h
  have nd:=ja.nd
  have zY:=(zF (P:=P) (w:=w) (base:=base) T).mono (k:=n+2) (by (clear hz hs bC hm qa;lia))
  have Fg:=(HJ (P:=P) (w:=w) (base:=base) T).mono (k:=n+2) (by (clear hz hs bC hm qa;lia))
  have hI:=Bs T n
  refine⟨_,(ag (aW (aC lR (pv 2) (fG (v:=.int 24) rfl T.qk ⟨_,rfl⟩) (aB _)) (ai iX) aE)
  (ag (aA (i:=3) nd rfl (Or.inl rfl) (ak zY hr rfl T.As T.su.kp T.zO .nil aG (aa (pv 0) (aa (pv 1) af))))
  (ag (aA (i:=4) nd rfl (Or.inl rfl) (fg zk (pv 0) (d6 (pv 1)) (d6 (pv 3))))
  (ag (aW (aC xp (fg zk (pv 0) (d6 (pv 3)) (d6 (ao bI (pv 3) ae))) az (aB _)) (ai (ax (bN (aa (bN (aa az (aa (pv 4) af))) (aa (pv 3) af))))) aE)
  (ag (aA (i:=5) nd rfl (Or.inl rfl) (ak hI hr rfl T.jZ T.fM.kp T.kA .nil aG (aa (pv 0) (aa (ao bI (pv 3) ae) (aa (ao bI (pv 2) ae) af)))))
  (ag (aA (i:=6) nd rfl (Or.inl rfl) (ak hI hr rfl T.jZ T.fM.kp T.kA .nil aG (aa (pv 0) (aa (ak Fg hr rfl T.DQ T.Ak.kp T.DX .nil aG (aa (pv 0) (aa (aw bQ (pv 5) ae (fun _ _=>rfl)) (aa az af)))) (aa (ao bI (pv 2) ae) af)))))
  (ai (ax (bN (aa (bN (aa az (aa (pv 4) (aa (aw bQ (pv 5) ae (fun _ _=>rfl)) (aa (aw bQ (pv 6) ae (fun _ _=>rfl)) af))))) (aa (ak Fg hr rfl T.DQ T.Ak.kp T.DX .nil aG (aa (pv 0) (aa (aw bQ (pv 6) ae (fun _ _=>rfl)) (aa az af)))) af))))))))))),?_⟩
  walk_at "rd"
  rw [decide_eq_false (by (clear hz hs bC qa;lia))]
  refine eR ⟨z,st,rfl,hz,hs,?_⟩
  have lz:=cy z
  have zl:z.length≤sizeLine:=aZ (by (clear hm qa lz bC;lia))
  have e1:=zm z.cps.toList st
  have e2:nameEnd z.cps.toList st≤z.length:=by rw [lz];exact zq (by (clear bC hm zl e1 hz qa;lia))
  have Nn:tf z.cps.toList (n+1) st=if z.cps.toList[nameEnd z.cps.toList st]? = some 40 then
   match tf z.cps.toList n (nameEnd z.cps.toList st+1) with
   | none=>none
   | some (a,m)=>if z.cps.toList[m]? = some 32 then (match tf z.cps.toList n (m+1) with
    | none=>none
    | some (b,y)=>if z.cps.toList[y]? = some 41 then some (.knot ⟨((z.cps.toList.drop st).take (nameEnd z.cps.toList st - st)).toArray⟩ a b,y+1) else none) else none
   else some (.leaf ⟨((z.cps.toList.drop st).take (nameEnd z.cps.toList st - st)).toArray⟩,nameEnd z.cps.toList st):=rfl
  rw [Nn] at qa
  generalize nameEnd z.cps.toList st=en at qa e1 e2
  walk_at "rd"
  refine⟨zl,zl,?_⟩
  rw [FI z e1 e2]
  generalize (⟨((z.cps.toList.drop st).take (en - st)).toArray⟩:Str)=nm at qa
  rw [aby,uF z e2]
  by_cases Gx:z.cps.toList[en]? = some 40
  · rw [if_pos Gx] at qa
    rw [decide_eq_true Gx]
    have dY:=(List.getElem?_eq_some_iff.mp Gx).1
    refine eR ?_
    cases ha:tf z.cps.toList n (en+1) with
    | none=>rw [ha] at qa;cases qa
    | some am=>
     obtain⟨ta,ma⟩:=am
     rw [ha] at qa
     dsimp only at qa
     by_cases tw:z.cps.toList[ma]? = some 32
     · rw [if_pos tw] at qa
       have GL:=(List.getElem?_eq_some_iff.mp tw).1
       cases hb:tf z.cps.toList n (ma+1) with
       | none=>rw [hb] at qa;cases qa
       | some bm=>
        obtain⟨tb,mb⟩:=bm
        rw [hb] at qa
        dsimp only at qa
        by_cases IG:z.cps.toList[mb]? = some 41
        · rw [if_pos IG] at qa
          cases qa
          refine⟨z,en+1,m+1,(ta,ma),rfl,hz,by (clear hz hs bC hm tw GL hb IG Nn e1 e2 Gx zl ha;lia),by (clear hz hs bC hm lz zl Nn e1 e2 Gx dY ha tw GL hb IG;lia),by (clear e2 Gx dY ha tw GL hb IG lz zl Nn e1 hz hs bC;lia),ha,fun va H1 S1 da=>?_⟩
          obtain⟨pa,vsa,rfl,ea,Da⟩:=fZ.mp da
          obtain⟨v1,ra,rfl,d1,Da⟩:=aY.mp Da
          obtain⟨v2,ra,rfl,d2,Da⟩:=aY.mp Da
          rw [fJ.mp Da,aV.mp d2] at ea
          try (walk_at "rd")
          refine⟨_,aj ea,_,cf,z,ma,32,by rw [Wz],hz,tw,?_⟩
          refine⟨z,ma+1,m+1,(tb,mb),rfl,hz,by (clear zl Nn e1 e2 Gx IG ea hz hs bC hb dY ha hm tw;lia),by (clear hz hs bC hm lz zl Nn e1 e2 Gx dY ha tw GL hb IG ea;lia),by (clear zl Nn e1 e2 Gx IG ea hz hs bC ha tw GL hb dY lz;lia),hb,fun vb H2 S2 db=>?_⟩
          obtain⟨pb,vsb,rfl,eb,Db⟩:=fZ.mp db
          obtain⟨w1,rb,rfl,f1,Db⟩:=aY.mp Db
          obtain⟨w2,rb,rfl,f2,Db⟩:=aY.mp Db
          rw [fJ.mp Db,aV.mp f2] at eb
          try (walk_at "rd")
          refine⟨_,aj (S2 _ _ ea),_,aP,_,aj eb,_,aP,by decide,aM.mk fun p3 H3 S3 n3 e3=>?_⟩
          refine⟨_,aj (S3 _ _ eb),_,cf,z,mb,41,by rw [VJ],hz,IG,by decide,aM.mk fun p4 H4 S4 n4 e4=>?_⟩
          have S34:=S3.trans S4
          exact q _ H4 ((S1.trans S2).trans S34) (Dt.tup e4 (.cons (BE (S4 _ _ e3) (d1.same (S2.trans S34)) (f1.same S34)) (.cons (aV.mpr rfl) .nil)))
        · rw [if_neg IG] at qa;cases qa
     · rw [if_neg tw] at qa;cases qa
  · rw [if_neg Gx] at qa
    cases qa
    rw [decide_eq_false Gx]
    refine fT ⟨by decide,aM.mk fun p1 H1 S1 n1 e3=>⟨by decide,aM.mk fun p2 H2 S2 n2 e4=>?_⟩⟩
    exact q _ H2 (S1.trans S2) (Dt.tup e4 (.cons (Bt (S2 _ _ e3)) (.cons (aV.mpr rfl) .nil)))
theorem BV {x:Str} (h:bb x=true):∀c∈x.cps.toList,c<16^8:=by
 unfold bb isName at h
 simp only [Bool.and_eq_true,decide_eq_true_eq,List.all_eq_true] at h
 intro c hc
 have:=h.2.2 c hc
 lia
theorem vW:∀t:L2.Tree,(∀x∈t.lv,bb x=true)→(∀x∈t.kn,bb x=true)→∀c∈dI t,c<16^8
 | .leaf x,h1,_,c,hc=>BV (h1 x (by simp [M.Tr.lv])) c (by simpa [dI] using hc)
 | .knot f l r,h1,h2,c,hc=>by
  have hl:=vW l (fun x hx=>h1 x (by simp [M.Tr.lv,hx])) (fun x hx=>h2 x (by simp [M.Tr.kn,hx]))
  have hr:=vW r (fun x hx=>h1 x (by simp [M.Tr.lv,hx])) (fun x hx=>h2 x (by simp [M.Tr.kn,hx]))
  have hf:=BV (h2 f (by simp [M.Tr.kn]))
  simp only [dI,List.mem_append,List.mem_cons,List.not_mem_nil,or_false] at hc
  rcases hc with hc|rfl|hc|rfl|hc|rfl
  · exact hf c hc
  · decide
  · exact hl c hc
  · decide
  · exact hr c hc
  · decide
noncomputable def IW (C:Addr):Sp:=fun vs H Q E=>∃(z:Str) (t:L2.Tree) (b:Bool),vs=[.str z]∧z.length≤10000∧z.cps.toList=dI t++(if b=true then [32] else [])∧t.dp≤24∧t.lv.length≤32∧(∀x∈t.lv,bb x=true)∧(∀x∈t.kn,bb x=true)∧t.lv.Nodup∧(b=false→xo H (dT t) Q)∧(b=true→∀H',ay H H'→E (.ref C) none H')
seal nz PS PE PT PA PI fe in
theorem E6 (T:Txt K mg):bg P w K mg base (CXE P w) 30 T.y4 T.y9 ["text"] (IW T.aI):=by
 refine T.EH.G2 (k:=29) BS (fun vs H Q E h=>?_) (fun bt A outer s H vs Q E hr h L=>?_)
 · obtain⟨z,t,b,rfl,_⟩:=h
   rfl
 obtain⟨z,t,b,rfl,hz,ez,hd,hl,jD,Kf,xj,q,qE⟩:=h
 have nd:=BS.nd
 have hI:=(Bs (P:=P) (w:=w) (base:=base) T 24).mono (k:=29) (by omega)
 have CW:=(yc (P:=P) (w:=w) (base:=base) T).mono (k:=29) (by omega)
 have lz:=cy z
 have tt:=IJ t 24 [] (if b=true then [32] else []) hd (fun x h=>qb (jD x h)) (fun x h=>qb (Kf x h)) (by cases b<;>simp)
 simp only [List.nil_append,List.length_nil,Nat.zero_add] at tt
 refine⟨_,(ag (aA (i:=1) nd rfl (Or.inl rfl) (ak hI hr rfl T.jZ T.fM.kp T.kA .nil aG (aa (pv 0) (aa ae (aa ae af)))))
  (ag (aW (aC xp (aw bQ (pv 1) ae (fun _ _=>rfl)) (aQ gf rfl T.eQ cA (aa (pv 0) af)) (aB _)) (ai (iO L rfl T.kr T.kN rfl (aa (r9 (.cons az (.cons (qR (pv 0)) .nil))) af))) aE)
  (ai (Hk (ai (ax (ak CW hr rfl T.C0 T.ux.kp T.Cr .nil aG (aa (aw bQ (pv 1) ae (fun _ _=>rfl)) af)))))))),?_⟩
 walk_at "rd"
 refine⟨z,0,1,_,rfl,by (clear q qE lz tt hd hl ez;lia),Nat.zero_le _,by decide,by decide,by rw [ez];exact tt,fun v H1 S1 d1=>?_⟩
 obtain⟨pa,vsa,rfl,ea,Da⟩:=fZ.mp d1
 obtain⟨v1,ra,rfl,d1,Da⟩:=aY.mp Da
 obtain⟨v2,ra,rfl,d2,Da⟩:=aY.mp Da
 rw [fJ.mp Da,aV.mp d2] at ea
 try (walk_at "rd")
 refine⟨_,aj ea,_,cf,?_⟩
 try (walk_at "rd")
 refine⟨aZ (by (clear qE lz tt ea hl q hd ez;lia)),?_⟩
 cases b with
 | false=>
  have ez:z.cps.toList=dI t:=by rw [ez];simp
  rw [decide_eq_true (show (((dI t).length:Nat):Int)=((z.length:Nat):Int) by rw [lz,ez])]
  refine eR ⟨_,aj ea,_,aP,t,v1,rfl,d1,hd,hl,fun q' s' h'=>?_,xj,fun H2 S2=>q rfl _ H2 (S1.trans S2) (d1.same S2)⟩
  have:=t.Hj _ _ _ h'
  cases hL:s'.i7 with
  | true=>exact jD _ (this.1 hL)
  | false=>exact Kf _ (this.2 hL)
 | true=>
  have ez:z.cps.toList=dI t++[32]:=by rw [ez];simp
  have ll:z.length=(dI t).length+1:=by rw [lz,ez];simp
  rw [decide_eq_false (show ¬(((dI t).length:Nat):Int)=((z.length:Nat):Int) by (clear hz hd hl lz ea q qE tt ez;lia))]
  have low:∀c∈z.cps.toList,c<16^8:=fun c hc=>by
   rw [ez] at hc
   rcases List.mem_append.mp hc with hc|hc
   · exact vW t jD Kf c hc
   · rw [List.mem_singleton.mp hc];decide
  have l0:(Str.empty++Str.ofString "signs behind the end of a formula: ").length=35:=by decide +kernel
  have b0:∀y:Str,y.length≤10*z.length+2→(Str.empty++Str.ofString "signs behind the end of a formula: "++y).length≤sizeLine:=fun y hy=>Nat.le_trans (show _≤1000000 by
   have:(Str.empty++Str.ofString "signs behind the end of a formula: "++y).length=(Str.empty++Str.ofString "signs behind the end of a formula: ").length+y.length:=by simp only [Str.length,Str.cps_append,Array.size_append]
   (clear ea q qE tt hl lz ez ll hd;lia)) (by decide)
  exact fT ⟨aZ (by (clear hz hd hl lz ea q qE tt ez ll;lia)),low,by (clear qE tt ez ll l0 lz ea q hl hd;lia),fun y hy=>⟨b0 y hy,b0 y hy,by decide,qE rfl H1 S1⟩⟩
noncomputable def LA (n:Nat):Sp:=fun vs H Q _=>∃(t:L2.Tree) (v:V),vs=[v]∧Dt H (dT t) v∧t.dp≤n∧Q (.int t.rk) H
theorem A5 (T:Txt K mg):∀n:Nat,bg P w K mg base CX0 (n+2) T.zy T.zw ["tree"] (LA n)
 | 0=>by
  refine T.oa.ok (k:=1) wD (fun vs H Q E h=>?_) (fun bt A outer s H vs Q E hr h=>?_)
  · obtain⟨t,v,rfl,_⟩:=h
    rfl
  · obtain⟨t,v,rfl,_,h,_⟩:=h
    have:=t.sA
    omega
 | n+1=>by
  refine T.oa.ok (k:=n+2) wD (fun vs H Q E h=>?_) (fun bt A outer s H vs Q E hr h=>?_)
  · obtain⟨t,v,rfl,_⟩:=h
    rfl
  obtain⟨t,v,rfl,ht,hd,q⟩:=h
  have nd:=wD.nd
  have bL:=(jc (P:=P) (w:=w) (base:=base) T).mono (k:=n+2) (by lia)
  have q9:=A5 T n
  refine⟨_,(ag (aW (dD (ak bL hr rfl T.fx T.eL.kp T.fA .nil aG (aa (pv 0) af))) (ai (ax ae)) aE)
  (ag (aA (i:=1) nd rfl (Or.inl rfl) (ak q9 hr rfl T.v9 T.oa.kp T.vg .nil aG (aa (aw bQ (pv 0) ae (fun _ _=>rfl)) af)))
  (ag (aA (i:=2) nd rfl (Or.inl rfl) (ak q9 hr rfl T.v9 T.oa.kp T.vg .nil aG (aa (aw bQ (pv 0) ae (fun _ _=>rfl)) af)))
  (ag (aW (aC bj (pv 1) (pv 2) (aB _)) (ai (ax (ao bI (pv 1) ae))) aE)
  (ai (ax (aQ (C7 rfl) rfl T.Ko Gv (aa (pv 1) (aa (pv 2) af))))))))),?_⟩
  walk_at "rd"
  refine⟨t,v,rfl,ht,_,rfl,?_⟩
  cases t with
  | leaf x=>exact fT q
  | knot f l r=>
   obtain⟨a,vl,vr,rfl,ea,wq,B3⟩:=gm ht
   simp only [M.Tr.dp] at hd
   refine eR ⟨a,rfl,_,aj ea,_,gM,l,vl,rfl,wq,by lia,?_⟩
   try (walk_at "rd")
   refine⟨_,aj ea,_,mY,r,vr,rfl,B3,by lia,?_⟩
   try (walk_at "rd")
   have hk:(M.Tr.knot f l r).rk=if l.rk=r.rk then l.rk+1 else max l.rk r.rk:=rfl
   refine bO (fun c=>?_) (fun c=>⟨_,_,⟨rfl,rfl⟩,?_⟩)
   · have c:l.rk=r.rk:=by have:=of_decide_eq_true c;(clear hd ea hk c;lia)
     rw [hk,if_pos c] at q
     exact q
   · have c:¬l.rk=r.rk:=fun z=>c (decide_eq_true (by (clear hd ea hk c;lia)))
     rw [hk,if_neg c] at q
     have:((max l.rk r.rk:Nat):Int)=if (r.rk:Int) > l.rk then (r.rk:Int) else l.rk:=by split<;>(clear hd ea hk c;lia)
     rw [this] at q
     exact q
noncomputable def mnR:L2.Tree→Nat
 | .leaf _=>0
 | .knot _ l r=>min l.rk r.rk
theorem Hu (t:L2.Tree) (p:List Nat):∃r,t.wk p=(p,t)::r:=by cases t<;>exact⟨_,rfl⟩
noncomputable def Fl (k:Int) (q:List Nat×L2.Tree):Bool:=NW q.2&&decide (k≤(mnR q.2:Int))
noncomputable def nu (t:L2.Tree) (k:Int):List (List Nat):=((t.wk []).filter (Fl k)).map (·.1)
noncomputable def yM (k:Int) (t:L2.Tree):Bool:=NW t&&decide (k≤(mnR t:Int))
noncomputable def Ms (n:Nat):Sp:=fun vs H Q _=>∃(t:L2.Tree) (k:Int) (v:V),vs=[v,.int k]∧Dt H (dT t) v∧t.dp≤n∧Q (.bl (yM k t)) H
theorem Jv (T:Txt K mg) (n:Nat):bg P w K mg base CX0 (n+3) T.zu T.Ab ["tree","k"] (Ms n):=by
 refine T.DD.ok (k:=n+2) Ba (fun vs H Q E h=>?_) (fun bt A outer s H vs Q E hr h=>?_)
 · obtain⟨t,k,v,rfl,_⟩:=h
   rfl
 obtain⟨t,k,v,rfl,ht,hd,q⟩:=h
 have nd:=Ba.nd
 have bL:=(jc (P:=P) (w:=w) (base:=base) T).mono (k:=n+2) (by lia)
 have q9:=A5 (P:=P) (w:=w) (base:=base) T n
 refine⟨_,(ai (ax (vm (K9 (ak bL hr rfl T.fx T.eL.kp T.fA .nil aG (aa (pv 0) af))) (vm (bu yf (ak q9 hr rfl T.v9 T.oa.kp T.vg .nil aG (aa (aw bQ (pv 0) ae (fun _ _=>rfl)) af)) (pv 1) (aB _)) (kM (bu yf (ak q9 hr rfl T.v9 T.oa.kp T.vg .nil aG (aa (aw bQ (pv 0) ae (fun _ _=>rfl)) af)) (pv 1) (aB _))))))),?_⟩
 walk_at "rd"
 refine⟨t,v,rfl,ht,_,rfl,?_⟩
 cases t with
 | leaf x=>exact eR q
 | knot f l r=>
  obtain⟨a,vl,vr,rfl,ea,wq,B3⟩:=gm ht
  simp only [M.Tr.dp] at hd
  have e:yM k (.knot f l r)=(decide (k≤(l.rk:Int))&&decide (k≤(r.rk:Int))):=by
   show (true&&decide (k≤((min l.rk r.rk:Nat):Int)))=_
   rw [Bool.eq_iff_iff];simp;(clear hd ea;lia)
  rw [e] at q
  refine fT ⟨a,rfl,_,aj ea,_,gM,l,vl,rfl,wq,by lia,_,rfl,bO (fun c=>?_) (fun c=>?_)⟩
  · rw [c] at q
    exact⟨a,rfl,_,aj ea,_,mY,r,vr,rfl,B3,by lia,_,rfl,q⟩
  · rw [Bool.not_eq_true] at c
    rw [c] at q
    exact q
noncomputable def NR (t:L2.Tree) (k:Int) (p:List Nat):Bool:=match t.sub p with|some u=>yM k u|none=>false
theorem FD (t:L2.Tree) (k:Int):t.pl.filter (NR t k)=nu t k:=by
 unfold nu
 rw [M.Tr.mZ,List.filter_map]
 congr 1
 apply List.filter_congr
 intro q hq
 show NR t k q.1=_
 unfold NR;rw [M.Tr.h8 hq];rfl
noncomputable def FY (n:Nat):Sp:=fun vs H Q _=>∃(t:L2.Tree) (k:Int) (v:V),vs=[v,.int k]∧Dt H (dT t) v∧t.dp≤n∧t.lv.length≤5000∧C3 H ((nu t k).map dP) Q
theorem Jj (T:Txt K mg) (n:Nat):bg P w K mg base CX0 (n+5) T.mQ T.mE ["tree","k"] (FY n):=by
 refine T.rA.ok (k:=n+4) qu (fun vs H Q E h=>?_) (fun bt A outer s H vs Q E hr h=>?_)
 · obtain⟨t,k,v,rfl,_⟩:=h
   rfl
 obtain⟨t,k,v,rfl,ht,hd,hl,q⟩:=h
 have nd:=qu.nd
 have dN:=(nP (P:=P) (w:=w) (base:=base) T).mono (k:=n+4) (by lia)
 have MP:=(Jv (P:=P) (w:=w) (base:=base) T n).mono (k:=n+4) (by lia)
 have fc:=(iH (P:=P) (w:=w) (base:=base) T n).mono (k:=n+4) (by lia)
 refine⟨_,(ai (ax (fB (N:=["place","k","tree"]) (caps:=[1,0]) rfl ⟨rfl,rfl,rfl,rfl,by decide +kernel,rfl,rfl,rfl,rfl⟩ (AE (ak fc hr rfl T.jK T.gE.kp T.kf .nil aG (aa (pv 0) af))) (fun _ _ _ _=>AL (dD (ak MP hr rfl T.Nq T.DD.kp T.Lo .nil aG (aa (ak dN hr rfl T.iE T.gq.kp T.iR .nil aG (aa (pv 2) (aa (pv 0) af))) (aa (pv 1) af))))) (fun _ _ _ _=>(pv 0))))),?_⟩
 walk_at "rd"
 refine⟨t,v,rfl,ht,hd,hl,fun p5 ys H5 S5 n5 e5 D5=>?_⟩
 have l5:ys.length=t.pl.length:=by have:=D5.length;simpa using this
 have l6:=M.gB t
 refine WalkL.comp e5 (fun i zs H'=>H'=H5∧zs.length≤i∧aR H' (((t.pl.take i).filter (NR t k)).map dP) zs) ⟨rfl,Nat.zero_le _,.nil⟩ (by (clear n5 e5 hd;lia)) (fun i zs H' h=>h.2.1) (fun i x zs H' ex S' h=>?_) (fun p7 zs H6 H7 S6 S7 h n7 e7=>?_)
 · obtain⟨rfl,hz,D6⟩:=h
   have hi:i<t.pl.length:=by have:=(List.getElem?_eq_some_iff.mp ex).1;(clear hd hl n5 ex e5 l6 hz;lia)
   obtain⟨v',tL,Ds⟩:=aR.fY D5 (List.getElem?_eq_getElem hi)
   rw [ex] at tL;cases tL
   obtain⟨u,hu,Rf⟩:=M.wa (List.getElem_mem hi)
   have hg:NR t k t.pl[i]=yM k u:=by unfold NR;rw [hu]
   walk_at "rd"
   have Rf:=M.Tr.AI t _ _ _ Rf
   simp at Rf
   refine⟨t,u,_,v,x,rfl,ht.same S5,Ds,hu,fun w' Kc=>⟨u,k,w',rfl,Kc,by (clear l5 l6 ex e5 hz n5 hu hl hg;lia),_,rfl,bO (fun c=>?_) (fun c=>?_)⟩⟩
   · refine⟨S',rfl,by simp;omega,?_⟩
     rw [List.take_add_one,List.getElem?_eq_getElem hi,List.filter_append]
     simp only [Option.toList_some,List.filter_cons,List.filter_nil,hg,c,if_true,List.map_append,List.map_cons,List.map_nil]
     exact D6.append (.one Ds)
   · have c:yM k u=false:=by simpa using c
     refine⟨S',rfl,by (clear hd hl n5 l5 l6 ex e5 Rf c hu hg;lia),?_⟩
     rw [List.take_add_one,List.getElem?_eq_getElem hi,List.filter_append]
     simp only [Option.toList_some,List.filter_cons,List.filter_nil,hg,c,Bool.false_eq_true,if_false,List.append_nil]
     exact D6
 · obtain⟨rfl,hz,D6⟩:=h
   rw [l5,List.take_length,FD] at D6
   exact q p7 zs H7 (S5.trans S7) (S5.free n7) e7 (D6.same S7)
noncomputable def nK (t:L2.Tree):Nat:=((t.wk []).filter fun q=>NW q.2).length
theorem J4 (t:L2.Tree):nK t+1=t.lv.length:=by
 have h1:=t.vk []
 have h2:((t.wk []).filter fun q=>q.2.i7).length=t.lv.length:=by rw [←M.Tr.BC t [],List.length_map]
 have h3:((t.wk []).filter fun q=>q.2.i7).length+nK t=(t.wk []).length:=by
  unfold nK NW
  generalize t.wk []=l
  induction l with
  | nil=>rfl
  | cons q l ih=>
   simp only [List.filter_cons,List.length_cons]
   cases q.2.i7<;>simp<;>(clear h1 h2;lia)
 lia
noncomputable def Ks (a b c d:Int):D:=.tup [.int a,.int b,.int c,.int d]
noncomputable def qH (t:L2.Tree) (k:Int):Prop:=k<1∨k=1∧0<nK t
noncomputable def HU (T:Txt K mg):Sp:=fun vs H Q E=>∃(t:L2.Tree) (k:Int) (v:V),vs=[v,.int k]∧Dt H (dT t) v∧t.dp≤24∧t.lv.length≤32∧k.natAbs.log2<1900∧(qH t k→∀H',ay H H'→E (.ref T.aJ) none H')∧
 (¬qH t k→xo H (Ks (nK t+1:Nat) (nK t) (nu t k).length (nu t k).length) Q)
theorem FR (T:Txt K mg):bg P w K mg base (CXE P w) 33 T.vo T.we ["tree","k"] (HU T):=by
 refine T.BB.G2 (k:=32) xx (fun vs H Q E h=>?_) (fun bt A outer s H vs Q E hr h L=>?_)
 · obtain⟨t,k,v,rfl,_⟩:=h
   rfl
 obtain⟨t,k,v,rfl,ht,hd,hl,hk,hf,q⟩:=h
 have nd:=xx.nd
 have bL:=(jc (P:=P) (w:=w) (base:=base) T).mono (k:=32) (by omega)
 have fc:=(iH (P:=P) (w:=w) (base:=base) T 24).mono (k:=32) (by omega)
 have kD:=(pJ (P:=P) (w:=w) (base:=base) T 24).mono (k:=32) (by omega)
 have zS:=(Jj (P:=P) (w:=w) (base:=base) T 24).mono (k:=32) (by omega)
 refine⟨_,(ag (aW (PW.pt (tu (aC yb (pv 1) ae (aB _)) (mF (PW.pt (jM (aC bj (pv 1) ae (aB _)) (ib (mJ (dD (ak bL hr rfl T.fx T.eL.kp T.fA .nil aG (aa (pv 0) af)))))))))) (ai (iO L rfl T.yQ T.xt rfl (aa (r9 (.cons az (.cons (vS (pv 1)) .nil))) af))) aE)
  (ag (aA (i:=2) nd rfl (Or.inl rfl) (aQ qQ rfl T.eQ cA (aa (ak kD hr rfl T.sj T.nL.kp T.rO .nil aG (aa (pv 0) af)) af)))
  (ag (aA (i:=3) nd rfl (Or.inl rfl) (ao ff (aQ qQ rfl T.eQ cA (aa (ak fc hr rfl T.jK T.gE.kp T.kf .nil aG (aa (pv 0) af)) af)) (pv 2)))
  (ag (aA (i:=4) nd rfl (Or.inl rfl) (aQ qQ rfl T.eQ cA (aa (ak zS hr rfl T.zT T.rA.kp T.zj .nil aG (aa (pv 0) (aa (pv 1) af))) af)))
  (ai (ax (bN (aa (pv 2) (aa (pv 3) (aa (pv 4) (aa (pv 4) af))))))))))),?_⟩
 walk_at "rd"
 have zl:∀y:Nat,y≤50000→y≤sizeLine:=fun y hy=>aZ (by (clear hd hl hk hf q;lia))
 have NL:(Str.ofString "so many boxes are too few: ").length=27:=by decide +kernel
 have QN:k.natAbs.log2<1920:=by (clear hf q NL hd hl;lia)
 have tail:¬qH t k→∀R:V→Hp→Prop,(∀v' H',Q v' H'→R v' H')→xg 24 [v] H (fun x H1=>∃p,x=V.ref p∧∃x,itemsOf (H1 p)=some x∧rF 24 [v] H1 (fun KG H1=>∃p,KG=V.ref p∧∃x_2,itemsOf (H1 p)=some x_2∧
  FY 24 [v,V.int k] H1 (fun x_3 H1=>∃p,x_3=V.ref p∧∃x_4,itemsOf (H1 p)=some x_4∧4≤sizeLine∧aM H1 (HO.tup [V.int x.length,V.int (x_2.length - x.length),V.int x_4.length,V.int x_4.length]) R) E0) E0) E0:=by
  intro nf R hR
  refine⟨t,v,rfl,ht,hd,by lia,fun p1 ys H1 S1 n1 e1 D1=>⟨p1,rfl,ys,aN e1,?_⟩⟩
  refine⟨t,v,rfl,ht.same S1,hd,by lia,fun p2 zs H2 S2 n2 e2 D2=>⟨p2,rfl,zs,aN e2,?_⟩⟩
  refine⟨t,k,v,rfl,ht.same (S1.trans S2),hd,by lia,fun p3 us H3 S3 n3 e3 D3=>⟨p3,rfl,us,aN e3,by decide,aM.mk fun p4 H4 S4 n4 e4=>hR _ _ ?_⟩⟩
  have l1:=D1.length
  have l2:=D2.length
  have l3:=D3.length
  have h1:ys.length=t.lv.length:=by rw [l1,List.length_map,zg,List.length_map,←M.Tr.BC t [],List.length_map]
  have h2:zs.length=(t.wk []).length:=by rw [l2,List.length_map,M.Tr.mZ,List.length_map]
  have h3:=t.vk []
  have h4:=J4 t
  rw [List.length_map] at l3
  rw [h1,h2,l3] at e4
  refine q nf _ _ ((S1.trans S2).trans (S3.trans S4)) (Dt.tup e4 (.cons (aV.mpr ?_) (.cons (aV.mpr ?_) (.cons (aV.mpr rfl) (.cons (aV.mpr rfl) .nil)))))
  · rw [h4]
  · congr 1;(clear hd hl hk hf q NL QN nf n1 e1 n2 e2 n3 e3 n4 e4 l1 l2 l3 h1 h2;lia)
 refine bO (fun c=>?_) (fun c=>bO (fun d=>?_) (fun d=>?_))
 · have c:=of_decide_eq_true c
   refine⟨zl _ ?_,QN,fun z hz=>⟨zl _ ?_,zl _ ?_,by decide,hf (.inl c) H (ay.refl _)⟩⟩
   all_goals (simp only [My,wj,NL];(clear hd hl hk hf q NL QN tail c;lia))
 · have c:¬k<1:=fun z=>c (decide_eq_true z)
   have d:=of_decide_eq_true d
   refine⟨t,v,rfl,ht,_,rfl,bO (fun b=>?_) (fun b=>?_)⟩
   · have b:0<nK t:=by
      have b:NW t=true:=b
      obtain⟨r,hr⟩:=Hu t []
      unfold nK
      rw [hr,List.filter_cons,if_pos b]
      simp
     refine⟨zl _ ?_,QN,fun z hz=>⟨zl _ ?_,zl _ ?_,by decide,hf (.inr ⟨d,b⟩) H (ay.refl _)⟩⟩
     all_goals (simp only [My,wj,NL];(clear hd hl hk hf q NL QN tail c d b;lia))
   · have b:t.i7=true:=by simpa using b
     refine tail ?_ _ (fun _ _ h=>h)
     rintro (z|⟨_,z⟩)
     · exact c z
     · cases t with
       | leaf x=>exact absurd z (by simp [nK,M.Tr.wk,NW,M.Tr.i7])
       | knot f l r=>cases b
 · have c:¬k<1:=fun z=>c (decide_eq_true z)
   have d:¬k=1:=fun z=>d (decide_eq_true z)
   exact tail (fun z=>z.elim c fun z=>d z.1) _ (fun _ _ h=>h)
open M (oo)
noncomputable def jP (names deeds:List Str) (k m:Int):ar→Prop
 | .take x i=>x∈names∧oo k i
 | .join f i j h=>f∈deeds∧oo k i∧oo k j∧oo k h
 | .put i s=>oo k i∧oo m s
 | .fetch s i=>oo m s∧oo k i
theorem zf {names deeds:List Str}{k m:Int}{d:L2.ar} (h:jP names deeds k m d):d.ok k m:=by
 cases d with
 | take x i=>exact⟨fun z hz=>by simp [M.ar.bn] at hz;rw [hz];exact h.2,fun z hz=>by simp [M.ar.sn] at hz⟩
 | join f i j l=>exact⟨fun z hz=>by
  simp [M.ar.bn] at hz
  rcases hz with rfl|rfl|rfl
  · exact h.2.1
  · exact h.2.2.1
  · exact h.2.2.2,fun z hz=>by simp [M.ar.sn] at hz⟩
 | put i j=>exact⟨fun z hz=>by simp [M.ar.bn] at hz;rw [hz];exact h.1,fun z hz=>by simp [M.ar.sn] at hz;rw [hz];exact h.2⟩
 | fetch j i=>exact⟨fun z hz=>by simp [M.ar.bn] at hz;rw [hz];exact h.2,fun z hz=>by simp [M.ar.sn] at hz;rw [hz];exact h.1⟩
theorem ic (z:Int) {k:Int} (h:1≤k):oo k (z % k):=⟨Int.emod_nonneg _ (by omega),Int.emod_lt_of_pos _ (by omega)⟩
noncomputable def wordOf (z:Nat):Str:=if z<2 then Str.ofString "take" else if z<5 then Str.ofString "join" else if z=5 then Str.ofString "put" else Str.ofString "fetch"
theorem Iq (z:Int) (h0:0≤z) (h:z<7):kT [V.str (Str.ofString "take"),V.str (Str.ofString "take"),V.str (Str.ofString "join"),V.str (Str.ofString "join"),V.str (Str.ofString "join"),V.str (Str.ofString "put"),V.str (Str.ofString "fetch")] z=some (.str (wordOf z.toNat)):=by
 rcases (show z=0∨z=1∨z=2∨z=3∨z=4∨z=5∨z=6 by lia) with rfl|rfl|rfl|rfl|rfl|rfl|rfl<;>rfl
theorem Aj (z:Nat):wordOf z=Str.ofString "take"∨wordOf z=Str.ofString "join"∨wordOf z=Str.ofString "put"∨wordOf z=Str.ofString "fetch":=by
 unfold wordOf
 split
 · simp
 · split
   · simp
   · split<;>simp
noncomputable def MT (K:PySem.W.Frag):Sp:=fun vs H Q _=>∃(a pn pd:Addr) (ns:List Int) (n k m:Int) (names deeds:List Str),vs=[.ref a,.int n,.ref pn,.ref pd,.int k,.int m]∧fD K H a (ns.map V.int)∧ns.length≤63∧0≤n∧n<1000000∧
 H pn=some (.lst (names.map V.str))∧names≠[]∧names.length≤1000∧H pd=some (.lst (deeds.map V.str))∧deeds.length=3∧1≤k∧k≤10000∧1≤m∧m≤10000∧∀d v H',ay H H'→Dt H' (cD d) v→jP names deeds k m d→Q v H'
seal nz PS PE PT PA PI fe in
theorem HR (T:Txt K mg):bg P w K mg base CX0 2 T.jR T.kb ["script","n","names","deeds","k","many"] (MT K):=by
 refine T.qc.ok (k:=1) nN (fun vs H Q E h=>?_) (fun bt A outer s H vs Q E hr h=>?_)
 · obtain⟨a,pn,pd,ns,n,k,m,names,deeds,rfl,_⟩:=h
   rfl
 obtain⟨a,pn,pd,ns,n,k,m,names,deeds,rfl,hS,aX,me,jD,en,bH,cu,ed,cv,k1,k2,m1,m2,q⟩:=h
 have nd:=nN.nd
 have ba:=(xG (P:=P) (w:=w) (base:=base) T).mono (k:=1) (by omega)
 refine⟨_,(ag (aA (i:=6) nd rfl (Or.inl rfl) (ak ba hr rfl T.bA T.bq.kp T.bw .nil aG (aa (pv 0) (aa (pv 1) af))))
  (ag (aA (i:=7) nd rfl (Or.inl rfl) (aw bQ (br (aa az (aa az (aa az (aa az (aa az (aa az (aa az af)))))))) (ao aU (pv 6) ae) (fun _ _=>rfl)))
  (ag (aA (i:=6) nd rfl (Or.inl rfl) (ao bz (pv 6) ae))
  (ag (aW (aC bj (pv 7) az (aB _)) (ai (ax (bN (aa (pv 7) (aa (aw bQ (pv 2) (ao aU (pv 6) (aQ qQ rfl T.eQ cA (aa (pv 2) af))) (fun _ _=>rfl)) (aa (ao aU (ao bz (pv 6) (aQ qQ rfl T.eQ cA (aa (pv 2) af))) (pv 4)) af)))))) aE)
  (ag (aW (aC bj (pv 7) az (aB _)) (ai (ax (bN (aa (pv 7) (aa (aw bQ (pv 3) (ao aU (pv 6) ae) (fun _ _=>rfl)) (aa (ao aU (ao bz (pv 6) ae) (pv 4)) (aa (ao aU (ao bz (pv 6) (ao mq ae (pv 4))) (pv 4)) (aa (ao aU (ao bz (pv 6) (ao mq (ao mq ae (pv 4)) (pv 4))) (pv 4)) af)))))))) aE)
  (ag (aW (aC bj (pv 7) az (aB _)) (ai (ax (bN (aa (pv 7) (aa (ao aU (pv 6) (pv 4)) (aa (ao aU (ao bz (pv 6) (pv 4)) (pv 5)) af)))))) aE)
  (ai (ax (bN (aa (pv 7) (aa (ao aU (pv 6) (pv 5)) (aa (ao aU (ao bz (pv 6) (pv 5)) (pv 4)) af)))))))))))),?_⟩
 refine Bi fun C hC=>?_
 walk_at "rd"
 refine⟨a,ns,n,rfl,hS,aX,me,jD,?_⟩
 generalize cq ns n.toNat=cell
 try (walk_at "rd")
 refine⟨by decide,aM.mk fun p1 H1 S1 n1 e1=>⟨by decide,p1,rfl,_,aN e1,_,Iq _ (by (clear aX me jD en bH cu ed cv k1 k2 m1 m2 hC n1 e1;lia)) (by (clear aX me jD en bH cu ed cv k1 k2 m1 m2 hC n1 e1;lia)),⟨by decide,by decide⟩,?_⟩⟩
 have hw:=Aj (cell % 7).toNat
 generalize wordOf (cell % 7).toNat=word at hw
 generalize cell / 7=c
 have dne:∀{x y:String},(Str.ofString x==Str.ofString y)=false→decide (V.str (Str.ofString x)=V.str (Str.ofString y))=false:=fun {x y} h=>decide_eq_false (fun z=>by
  have:=V.str.inj z
  rw [this] at h
  simp at h)
 have len:1≤names.length:=by cases names with|nil=>exact absurd rfl bH|cons=>simp
 have sq:3*k*k≤300000000:=by
  have h1:3*k*k≤3*k*10000:=Int.mul_le_mul_of_nonneg_left k2 (by (clear k2 m1 m2 hC n1 e1 hw len aX me jD en bH cu ed cv;lia))
  (clear aX me jD en bH cu ed cv k1 hC n1 e1 m2 hw m1 len;omega)
 have qo:0<3*k*k:=Int.mul_pos (by (clear k2 m1 m2 hC n1 e1 hw len sq aX me jD en bH cu ed cv;omega)) (by (clear k2 m1 m2 hC n1 e1 hw len sq aX me jD en bH cu ed cv;omega))
 rw [hC]
 clear hC C
 refine iI fun C hC=>?_
 walk_at "rd"
 rcases hw with rfl|hw
 · rw [decide_eq_true rfl]
   have z0:0≤c % (((names.map V.str).length:Nat):Int):=Int.emod_nonneg _ (by rw [List.length_map];(clear aX me jD en bH cu ed cv k1 k2 m1 m2 n1 e1 hC qo sq;omega))
   have z1:c % (((names.map V.str).length:Nat):Int)<names.length:=by
    have:=Int.emod_lt_of_pos c (show (0:Int)<(((names.map V.str).length:Nat):Int) by rw [List.length_map];(clear aX me jD en bH cu ed cv k1 k2 sq qo hC z0 m1 m2 n1 e1;omega))
    simpa using this
   obtain⟨y,hy⟩:∃y,names[(c % (((names.map V.str).length:Nat):Int)).toNat]? = some y:=⟨_,List.getElem?_eq_getElem (by (clear aX me jD en bH cu ed cv k1 k2 m1 m2 n1 e1 len sq qo hC;lia))⟩
   refine fT ⟨_,aN (S1 _ _ en),by rw [List.length_map];(clear aX me jD en bH cu ed cv k1 k2 m1 hC z0 z1 hy m2 n1 e1 qo sq;omega),_,aN (S1 _ _ en),.str y,jo z0 (by rw [List.getElem?_map,hy];rfl),_,aN (S1 _ _ en),⟨by rw [List.length_map];(clear aX me jD en bH cu ed cv k1 k2 m1 hC z0 z1 hy m2 n1 e1 qo sq;omega),by rw [List.length_map];(clear m2 n1 e1 len sq qo hC z0 z1 hy ed cv k1 k2 m1 aX me jD en bH;omega)⟩,by (clear m2 n1 e1 len sq qo hC z0 z1 hy aX me jD en bH cu k2 m1 ed cv;omega),by decide,aM.mk fun p2 H2 S2 n2 e2=>?_⟩
   exact q (.take y _) _ H2 (S1.trans S2) (Dt.tup e2 (.cons (bh.mpr rfl) (.cons (bh.mpr rfl) (.cons (aV.mpr rfl) .nil)))) ⟨List.mem_of_getElem? hy,ic _ k1⟩
 have nt:decide (word=Str.ofString "take")=false:=decide_eq_false (by rcases hw with rfl|rfl|rfl<;>decide +kernel)
 rw [nt]
 refine eR ?_
 rw [hC]
 clear hC C nt
 refine iI fun C hC=>?_
 walk_at "rd"
 rcases hw with rfl|hw
 · rw [decide_eq_true rfl]
   obtain⟨y,hy⟩:∃y,deeds[(c % 3).toNat]? = some y:=⟨_,List.getElem?_eq_getElem (by (clear k2 m1 m2 n1 e1 len sq qo hC aX me jD en bH k1 cu ed;lia))⟩
   refine fT ⟨by decide,_,aN (S1 _ _ ed),.str y,jo (by (clear aX me jD en bH cu ed cv k1 k2 m1 m2 n1 e1 len sq qo hC hy;lia)) (by rw [List.getElem?_map,hy];rfl),⟨by decide,by decide⟩,by (clear m1 m2 n1 e1 len sq qo hC hy aX me jD en bH cu ed cv k2;omega),.inl ⟨by decide,by decide⟩,⟨by (clear aX me jD en bH m1 m2 n1 e1 len sq qo hC hy cu ed cv k2;omega),by (clear m1 m2 n1 e1 len sq qo hC hy aX me jD en bH cu ed cv k1;omega)⟩,by (clear m1 m2 n1 e1 len sq qo hC hy aX me jD en bH cu ed cv k2;omega),.inl ⟨by decide,by decide⟩,.inl ⟨by (clear m1 m2 n1 e1 len sq qo hC hy aX me jD en bH cu ed cv k2;omega),by (clear m1 m2 n1 e1 len sq qo hC hy aX me jD en bH cu ed cv k1;omega)⟩,⟨qo,by (clear aX me jD en bH cu ed cv k1 k2 m1 m2 n1 e1 len hy hC qo;omega)⟩,by (clear m1 m2 n1 e1 len sq qo hC hy aX me jD en bH cu ed cv k2;omega),by decide,aM.mk fun p2 H2 S2 n2 e2=>?_⟩
   exact q (.join y _ _ _) _ H2 (S1.trans S2) (Dt.tup e2 (.cons (bh.mpr rfl) (.cons (bh.mpr rfl) (.cons (aV.mpr rfl) (.cons (aV.mpr rfl) (.cons (aV.mpr rfl) .nil)))))) ⟨List.mem_of_getElem? hy,ic _ k1,ic _ k1,ic _ k1⟩
 have nt:decide (word=Str.ofString "join")=false:=decide_eq_false (by rcases hw with rfl|rfl<;>decide +kernel)
 rw [nt]
 refine eR ?_
 rw [hC]
 clear hC C nt
 walk_at "rd"
 rcases hw with rfl|rfl
 · rw [decide_eq_true rfl]
   refine fT ⟨by (clear k2 m1 m2 n1 e1 len sq qo aX me jD en bH cu ed cv;omega),⟨by (clear k2 m1 m2 n1 e1 len sq qo aX me jD en bH cu ed cv;omega),by (clear aX me jD en bH cu ed cv k1 len sq qo n1 e1 m2 m1;omega)⟩,by (clear aX me jD en bH cu ed cv k1 len sq qo n1 e1 m2 k2;omega),by decide,aM.mk fun p2 H2 S2 n2 e2=>?_⟩
   exact q (.put _ _) _ H2 (S1.trans S2) (Dt.tup e2 (.cons (bh.mpr rfl) (.cons (aV.mpr rfl) (.cons (aV.mpr rfl) .nil)))) ⟨ic _ k1,ic _ m1⟩
 · rw [decide_eq_false (by decide +kernel)]
   refine eR ⟨by (clear aX me jD en bH cu ed cv k1 len sq qo n1 e1 m2 k2;omega),⟨by (clear aX me jD en bH cu ed cv k1 len sq qo n1 e1 m2 k2;omega),by (clear aX me jD en bH cu ed cv k1 len sq qo n1 e1 k2 m1;omega)⟩,by (clear k2 m1 m2 n1 e1 len sq qo aX me jD en bH cu ed cv;omega),by decide,aM.mk fun p2 H2 S2 n2 e2=>?_⟩
   exact q (.fetch _ _) _ H2 (S1.trans S2) (Dt.tup e2 (.cons (bh.mpr rfl) (.cons (aV.mpr rfl) (.cons (aV.mpr rfl) .nil)))) ⟨ic _ m1,ic _ k1⟩
theorem wF {x y:Str}{a b:Prop} (h:(x==y)=false) (q:b):if decide (V.str x=V.str y)=true then a else b:=by rw [abE h];exact eR q
theorem wT {x:Str}{a b:Prop} (q:a):if decide (V.str x=V.str x)=true then a else b:=by rw [Qb];exact fT q
theorem getD_map {α β:Type} (g:α→β) (l:List α) (i:Nat) (z:α):(l.map g).getD i (g z)=g (l.getD i z):=by
 rw [List.getD_eq_getElem?_getD,List.getD_eq_getElem?_getD,List.getElem?_map]
 cases l[i]? <;> rfl
noncomputable def vT (d:L2.ar):Prop:=(cD d).wJ∧(cD d).wd≤50000
theorem Bz {x:D} (hx:x.nl=true):∀(B:List D) (n:Nat),D.my B=true→D.my (B.set n x)=true
 | [],_,h=>h
 | b::B,0,h=>by
  simp only [D.my,Bool.and_eq_true,List.set_cons_zero] at h ⊢
  exact⟨hx,h.2⟩
 | b::B,n+1,h=>by
  simp only [D.my,Bool.and_eq_true,List.set_cons_succ] at h ⊢
  exact⟨h.1,Bz hx B n h.2⟩
noncomputable def Mc:Sp:=fun vs H Q _=>∃(d:L2.ar) (v:V),vs=[v]∧Dt H (cD d) v∧∀p H',ay H H'→H' p=some (.lst (d.bn.map V.int))→Q (.ref p) H'
theorem Hm (T:Txt K mg):bg P w K mg base CX0 1 T.ik T.iw ["deed"] Mc:=by
 refine T.lZ.ok (k:=0) jY (fun vs H Q E h=>?_) (fun bt A outer s H vs Q E hr h=>?_)
 · obtain⟨d,v,rfl,_⟩:=h
   rfl
 obtain⟨d,v,rfl,hd,q⟩:=h
 obtain⟨a,rfl,ea⟩:=fF hd
 have nd:=jY.nd
 refine⟨_,(ag (aW (aC bj (aw bQ (pv 0) ae (fun _ _=>rfl)) az (aB _)) (ai (ax (br (aa (aw bQ (pv 0) ae (fun _ _=>rfl)) (aa (aw bQ (pv 0) ae (fun _ _=>rfl)) (aa (aw bQ (pv 0) ae (fun _ _=>rfl)) af)))))) aE)
  (ag (aW (aC bj (aw bQ (pv 0) ae (fun _ _=>rfl)) az (aB _)) (ai (ax (br (aa (aw bQ (pv 0) ae (fun _ _=>rfl)) af)))) aE)
  (ai (ax (br (aa (aw bQ (pv 0) ae (fun _ _=>rfl)) af)))))),?_⟩
 walk_at "rd"
 cases d
 all_goals simp only [bp] at ea
 all_goals refine⟨_,aj ea,_,aP,rfl,?_⟩
 · exact wF WI ⟨_,aj ea,_,aP,rfl,wF GW ⟨_,aj ea,_,gM,by decide,aM.mk fun p H' S n e=>q p H' S e⟩⟩
 · exact wT ⟨_,aj ea,_,gM,_,aj ea,_,mY,_,aj ea,_,JR,by decide,aM.mk fun p H' S n e=>q p H' S e⟩
 · exact wF Qm ⟨_,aj ea,_,aP,rfl,wT ⟨_,aj ea,_,cf,by decide,aM.mk fun p H' S n e=>q p H' S e⟩⟩
 · exact wF OF ⟨_,aj ea,_,aP,rfl,wF C2 ⟨_,aj ea,_,gM,by decide,aM.mk fun p H' S n e=>q p H' S e⟩⟩
noncomputable def ES:Sp:=fun vs H Q _=>∃(d:L2.ar) (v:V),vs=[v]∧Dt H (cD d) v∧∀p H',ay H H'→H' p=some (.lst (d.sn.map V.int))→Q (.ref p) H'
theorem BZ (T:Txt K mg):bg P w K mg base CX0 1 T.fQ T.fW ["deed"] ES:=by
 refine T.jy.ok (k:=0) iN (fun vs H Q E h=>?_) (fun bt A outer s H vs Q E hr h=>?_)
 · obtain⟨d,v,rfl,_⟩:=h
   rfl
 obtain⟨d,v,rfl,hd,q⟩:=h
 obtain⟨a,rfl,ea⟩:=fF hd
 have nd:=iN.nd
 refine⟨_,(ag (aW (aC bj (aw bQ (pv 0) ae (fun _ _=>rfl)) az (aB _)) (ai (ax (br (aa (aw bQ (pv 0) ae (fun _ _=>rfl)) af)))) aE)
  (ag (aW (aC bj (aw bQ (pv 0) ae (fun _ _=>rfl)) az (aB _)) (ai (ax (br (aa (aw bQ (pv 0) ae (fun _ _=>rfl)) af)))) aE)
  (ai (ax (br af))))),?_⟩
 walk_at "rd"
 cases d
 all_goals simp only [bp] at ea
 all_goals refine⟨_,aj ea,_,aP,rfl,?_⟩
 · exact wF GW ⟨_,aj ea,_,aP,rfl,wF L9 ⟨by decide,aM.mk fun p H' S n e=>q p H' S e⟩⟩
 · exact wF ID ⟨_,aj ea,_,aP,rfl,wF LO ⟨by decide,aM.mk fun p H' S n e=>q p H' S e⟩⟩
 · exact wT ⟨_,aj ea,_,gM,by decide,aM.mk fun p H' S n e=>q p H' S e⟩
 · exact wF C2 ⟨_,aj ea,_,aP,rfl,wT ⟨_,aj ea,_,cf,by decide,aM.mk fun p H' S n e=>q p H' S e⟩⟩
noncomputable def NK (T:Txt K mg):Sp:=fun vs H Q E=>∃(d:L2.ar) (v:V) (p:Addr) (is:List Int) (n:Int),vs=[v,.ref p,.int n]∧Dt H (cD d) v∧H p=some (.lst (is.map V.int))∧n.natAbs.log2<1900∧
 ((∀i∈is,M.oo n i)→Q .non H)∧(¬(∀i∈is,M.oo n i)→vT d∧(∀i∈is,i.natAbs.log2<1900)∧E (.ref T.aH) none H)
theorem Io (T:Txt K mg):bg P w K mg base (CXE P w) 1 T.fX T.fR ["deed","asked","there"] (NK T):=by
 refine T.fV.G2 (k:=0) iK (fun vs H Q E h=>?_) (fun bt A outer s H vs Q E hr h L=>?_)
 · obtain⟨d,v,p,is,n,rfl,_⟩:=h
   rfl
 obtain⟨d,v,p,is,n,rfl,hd,ep,hn,q,qe⟩:=h
 obtain⟨a,rfl,ea⟩:=fF hd
 have nd:=iK.nd
 refine⟨_,(ai (jF PassesOwn.leaving rfl (AE (pv 1)) (dA (i:=3) nd rfl (Or.inl rfl)) (ai (aW (mJ (wZ uS yb ae (pv 3) (pv 2))) (ai (iO L rfl T.w8 T.x8 rfl (aa (r9 (.cons az (.cons (vS (pv 2)) (.cons az (.cons (vS (pv 3)) (.cons az (.cons (DA hr (pv 0)) .nil))))))) af))) aE)))),?_⟩
 walk_at "rd"
 obtain⟨Pv,gW⟩:∃Pv:Nat→St→Hp→Prop,∀i σ H',Pv i σ H'↔H'=H∧(∀j∈is.take i,M.oo n j)∧∃o3:Option V,σ=[some (.ref a),some (.ref p),some (.int n),o3]:=⟨_,fun _ _ _=>Iff.rfl⟩
 refine WalkL.DF ep Pv ((gW _ _ _).mpr ⟨rfl,by simp,none,rfl⟩) (fun i σ H' _ h=>((gW _ _ _).mp h).1▸ep) ?_ ?_
 · intro i y σ H' ey h
   obtain⟨rfl,hj,o3,rfl⟩:=(gW _ _ _).mp h
   have hi:i<is.length:=by have:=(List.getElem?_eq_some_iff.mp ey).1;simpa using this
   have e2:is[i]? = some is[i]:=List.getElem?_eq_getElem hi
   rw [List.getElem?_map,e2] at ey
   cases ey
   generalize is[i]=z at e2
   have hz:=List.mem_of_getElem? e2
   walk_at "rd"
   have good:M.oo n z→∀j∈is.take (i+1),M.oo n j:=by
    intro g j Nc
    rw [List.take_add_one,e2] at Nc
    rcases List.mem_append.mp Nc with Nc|Nc
    · exact hj j Nc
    · simp at Nc
      exact Nc▸g
   refine bO (fun c=>bO (fun e=>?b1) (fun e=>(gW _ _ _).mpr ⟨rfl,good ⟨of_decide_eq_true c,by simpa using e⟩,_,rfl⟩)) (fun c=>?b2)
   case' b1=>have nb:¬M.oo n z:=fun g=>by simp at e;have:=g.2;(clear hn ep q qe ea hi e2 good c;lia)
   case' b2=>have nb:¬M.oo n z:=fun g=>c (decide_eq_true g.1)
   all_goals
    obtain⟨hs,hi',he⟩:=qe fun h=>nb (h z hz)
    have YG:=hi' z hz
    have hw:=hs.2
    have l1:(Str.ofString "there are ").length=10:=by decide +kernel
    have l2:(Str.ofString ", and none has the number ").length=26:=by decide +kernel
    have l3:(Str.ofString ": ").length=2:=by decide +kernel
    have zl:∀y:Nat,y≤90000→y≤sizeLine:=fun y hy=>aZ (by (clear hn ep q qe ea hi e2 good c nb YG hw l1 l2 l3;lia))
    refine⟨zl _ ?_,by lia,fun z1 h1=>⟨zl _ ?_,zl _ ?_,by (clear hn ep q qe ea hi e2 good l1 l2 l3 h1 c nb hw;lia),fun z2 h2=>⟨zl _ ?_,zl _ ?_,⟨_,rfl⟩,_,hd,hs.1,by have:=Ew d;(clear hn ep q qe ea hi e2 good c nb YG hw l1 l2 l3 h1 h2;lia),by (clear hn ep q qe ea hi e2 good c l3 h1 h2 l1 l2 nb YG;lia),fun z3 h3=>⟨zl _ ?_,zl _ ?_,by decide,he⟩⟩⟩⟩
    all_goals (simp only [My,wj,l1,l2,l3];omega)
 · intro σ H' h
   obtain⟨rfl,hj,o3,rfl⟩:=(gW _ _ _).mp h
   walk_at "rd"
   rw [List.length_map,List.take_length] at hj
   exact q hj
noncomputable def PF (T:Txt K mg):Sp:=fun vs H Q E=>∃(d:L2.ar) (B S:List D) (v u:V),vs=[v,u]∧Dt H (cD d) v∧Dt H (.tup [.lst B,.lst S]) u∧B.length≤1000∧S.length≤1000∧
 (d.ok B.length S.length→∀H',ay H H'→Q .non H')∧(¬d.ok B.length S.length→vT d∧(∀i∈d.bn++d.sn,i.natAbs.log2<1900)∧∀H',ay H H'→E (.ref T.aH) none H')
theorem uv {n:Nat} (h:n≤1000):(n:Int).natAbs.log2<1900:=by
 have:(n:Int).natAbs=n:=by lia
 rw [this]
 exact Nat.lt_of_le_of_lt (Nat.log2_le_self n) (by (clear this;omega))
theorem Lf (T:Txt K mg):bg P w K mg base (CXE P w) 2 T.i6 T.jj ["deed","state"] (PF T):=by
 refine T.nq.G2 (k:=1) lT (fun vs H Q E h=>?_) (fun bt A outer s H vs Q E hr h L=>?_)
 · obtain⟨d,B,S,v,u,rfl,_⟩:=h
   rfl
 obtain⟨d,B,S,v,u,rfl,hd,hu,lB,lS,q,qe⟩:=h
 obtain⟨p,b,s',vs,us,rfl,ep,eb,es,db,ds⟩:=xN hu
 have nd:=lT.nd
 have tO:=Hm (P:=P) (w:=w) (base:=base) T
 have qM:=BZ (P:=P) (w:=w) (base:=base) T
 have jz:=Io (P:=P) (w:=w) (base:=base) T
 refine⟨_,(ag (gk (ak jz hr rfl T.jv T.fV.kp T.ju .nil (qi L) (aa (pv 0) (aa (ak tO hr rfl T.uf T.lZ.kp T.tM .nil aG (aa (pv 0) af)) (aa (aQ qQ rfl T.eQ cA (aa (aw bQ (pv 1) ae (fun _ _=>rfl)) af)) af)))))
  (ai (gk (ak jz hr rfl T.jv T.fV.kp T.ju .nil (qi L) (aa (pv 0) (aa (ak qM hr rfl T.qL T.jy.kp T.qN .nil aG (aa (pv 0) af)) (aa (aQ qQ rfl T.eQ cA (aa (aw bQ (pv 1) ae (fun _ _=>rfl)) af)) af))))))),?_⟩
 walk_at "rd"
 refine⟨d,v,rfl,hd,fun p1 H1 S1 e1=>?_⟩
 try (walk_at "rd")
 have lb:=db.length
 have ls:=ds.length
 refine⟨_,aj (S1 _ _ ep),_,aP,_,rfl,_,aN (S1 _ _ eb),?_⟩
 refine⟨d,v,p1,d.bn,(B.length:Int),by rw [lb],hd.same S1,e1,uv lB,fun h1=>?_,fun h1=>?_⟩
 · refine⟨d,v,rfl,hd.same S1,fun p2 H2 S2 e2=>?_⟩
   have S02:=S1.trans S2
   refine⟨_,aj (S02 _ _ ep),_,cf,_,rfl,_,aN (S02 _ _ es),?_⟩
   refine⟨d,v,p2,d.sn,(S.length:Int),by rw [ls],hd.same S02,e2,uv lS,fun h2=>q ⟨h1,h2⟩ H2 S02,fun h2=>?_⟩
   obtain⟨h3,h4,h5⟩:=qe fun h=>h2 h.2
   exact⟨h3,fun i hi=>h4 i (List.mem_append.mpr (.inr hi)),h5 _ S02⟩
 · obtain⟨h3,h4,h5⟩:=qe fun h=>h1 h.1
   exact⟨h3,fun i hi=>h4 i (List.mem_append.mpr (.inl hi)),h5 _ S1⟩
noncomputable def HH:Sp:=fun vs H Q _=>∃(d:L2.ar) (B S:List D) (v u:V),vs=[v,u]∧Dt H (cD d) v∧Dt H (.tup [.lst B,.lst S]) u∧d.ok B.length S.length∧(match d with | .put _ _=>True | .fetch _ _=>True|_=>False)∧∀x,Dt H (d.val D.non (fun _=>.non) (fun _ _ _=>.non) (B,S)) x→Q x H
theorem EK (T:Txt K mg):bg P w K mg base CX0 1 T.iD T.ir ["deed","state"] HH:=by
 refine T.lL.ok (k:=0) jV (fun vs H Q E h=>?_) (fun bt A outer s H vs Q E hr h=>?_)
 · obtain⟨d,B,S,v,u,rfl,_⟩:=h
   rfl
 obtain⟨d,B,S,v,u,rfl,hd,hu,ok,hm,q⟩:=h
 obtain⟨a,rfl,ea⟩:=fF hd
 obtain⟨p,b,s',vs,us,rfl,ep,eb,es,db,ds⟩:=xN hu
 have nd:=jV.nd
 refine⟨_,(ag (aW (aC bj (aw bQ (pv 0) ae (fun _ _=>rfl)) az (aB _)) (ai (ax (aw bQ (aw bQ (pv 1) ae (fun _ _=>rfl)) (aw bQ (pv 0) ae (fun _ _=>rfl)) (fun _ _=>rfl)))) aE)
  (ai (ax (aw bQ (aw bQ (pv 1) ae (fun _ _=>rfl)) (aw bQ (pv 0) ae (fun _ _=>rfl)) (fun _ _=>rfl))))),?_⟩
 walk_at "rd"
 cases d with
 | take=>exact hm.elim
 | join=>exact hm.elim
 | put i j=>
  obtain⟨y,hy,dy⟩:=getD_at db (ok.1 i (by simp [M.ar.bn]))
  refine⟨_,aj ea,_,aP,rfl,wT ?_⟩
  exact⟨_,aj ep,_,aP,_,aj ea,_,cf,b,rfl,vs,i,rfl,aN eb,y,hy,q y dy⟩
 | fetch j i=>
  obtain⟨y,hy,dy⟩:=getD_at ds (ok.2 j (by simp [M.ar.sn]))
  exact⟨_,aj ea,_,aP,rfl,wF C2 ⟨_,aj ep,_,cf,_,aj ea,_,cf,s',rfl,us,j,rfl,aN es,y,hy,q y dy⟩⟩
noncomputable def Er:Sp:=fun vs H Q _=>∃(d:L2.ar) (B S:List D) (x:D) (v u y:V),vs=[v,u,y]∧Dt H (cD d) v∧Dt H (.tup [.lst B,.lst S]) u∧d.ok B.length S.length∧D.my B=true∧D.my S=true∧x.nl=true∧Dt H x y∧FP H (d.set x (B,S)) Q
theorem Ci (T:Txt K mg):bg P w K mg base CX0 1 T.gO T.gN ["deed","state","value"] Er:=by
 refine T.kI.ok (k:=0) jt (fun vs H Q E h=>?_) (fun bt A outer s H vs Q E hr h=>?_)
 · obtain⟨d,B,S,x,v,u,y,rfl,_⟩:=h
   rfl
 obtain⟨d,B,S,x,v,u,y,rfl,hd,hu,ok,nB,nS,nx,hy,q⟩:=h
 obtain⟨a,rfl,ea⟩:=fF hd
 obtain⟨p,b,s',vs,us,rfl,ep,eb,es,db,ds⟩:=xN hu
 have nd:=jt.nd
 refine⟨_,(ag (aA (i:=3) nd rfl (Or.inl rfl) (cB sF rfl T.Fn BQ (aa (aw bQ (pv 1) ae (fun _ _=>rfl)) af)))
  (ag (aA (i:=4) nd rfl (Or.inl rfl) (cB sF rfl T.Fn BQ (aa (aw bQ (pv 1) ae (fun _ _=>rfl)) af)))
  (ag (aW (aC bj (aw bQ (pv 0) ae (fun _ _=>rfl)) az (aB _)) (ai (zN (pv 2) (zM (pv 4) (aw bQ (pv 0) (wW rQ ae) (fun _ _=>rfl)) set_list))) (ai (zN (pv 2) (zM (pv 3) (aw bQ (pv 0) (wW rQ ae) (fun _ _=>rfl)) set_list))))
  (ai (ax (bN (aa (pv 3) (aa (pv 4) af)))))))),?_⟩
 walk_at "rd"
 refine⟨_,aj ep,_,aP,_,rfl,_,aN eb,aM.mk fun p1 H1 S1 n1 e1=>?_⟩
 refine⟨_,aj (S1 _ _ ep),_,cf,_,rfl,_,aN (S1 _ _ es),aM.mk fun p2 H2 S2 n2 e2=>?_⟩
 have S12:=S1.trans S2
 have N0:=S12 _ _ ea
 have put:∀(l:Addr) (X:List D) (zs:List V) (i:Int),M.oo X.length i→H2 l=some (.lst zs)→aR H X zs→D.my X=true→H l=none→∀R:Hp→Prop,(∀H3,ay H H3→H3 l=some (.lst (zs.set i.toNat y))→aR H3 (X.set i.toNat x) (zs.set i.toNat y)→(∀c,c≠l→H3 c=H2 c)→R H3)→
  ∃p,V.ref l=V.ref p∧∃xs k,V.int i=V.int k∧H2 p=some (.lst xs)∧∃j,Az xs.length k=some j∧ny H2 p (.lst (xs.set j y)) R:=by
  intro l X zs i hi el dz nX nl R hR
  have ll:=dz.length
  refine⟨l,rfl,zs,i,rfl,el,_,BK hi.1 (by have:=hi.2;omega),ny.mk fun H3 k3 e3=>hR H3 (ay.mV S12 nl k3) e3 ?_ k3⟩
  exact(aR.set (hy.same S12) i.toNat (dz.same S12)).sg el k3 (Bz nx _ _ nX)
 have Kz:p1≠p2:=aF e1 n2
 cases d
 all_goals
  simp only [bp] at N0
  refine⟨_,aj N0,_,aP,rfl,?_⟩
 · exact wF GW ⟨_,aj N0,_,rfl,put p1 B vs _ (ok.1 _ (by simp [M.ar.bn])) (S2 _ _ e1) db nB n1 _ fun H3 S3 e3 D3 k3=>⟨by decide,aM.mk fun p4 H4 S4 n4 e4=>q p4 p1 p2 _ _ H4 (S3.trans S4) e4 n1 (S1.free n2) Kz (S4 _ _ e3) (S4 _ _ (by rw [k3 _ Kz.symm];exact e2)) (D3.same S4) (ds.same (S3.trans S4))⟩⟩
 · exact wF ID ⟨_,aj N0,_,rfl,put p1 B vs _ (ok.1 _ (by simp [M.ar.bn])) (S2 _ _ e1) db nB n1 _ fun H3 S3 e3 D3 k3=>⟨by decide,aM.mk fun p4 H4 S4 n4 e4=>q p4 p1 p2 _ _ H4 (S3.trans S4) e4 n1 (S1.free n2) Kz (S4 _ _ e3) (S4 _ _ (by rw [k3 _ Kz.symm];exact e2)) (D3.same S4) (ds.same (S3.trans S4))⟩⟩
 · exact wT ⟨_,aj N0,_,rfl,put p2 S us _ (ok.2 _ (by simp [M.ar.sn])) e2 ds nS (S1.free n2) _ fun H3 S3 e3 D3 k3=>⟨by decide,aM.mk fun p4 H4 S4 n4 e4=>q p4 p1 p2 _ _ H4 (S3.trans S4) e4 n1 (S1.free n2) Kz (S4 _ _ (by rw [k3 _ Kz];exact S2 _ _ e1)) (S4 _ _ e3) (db.same (S3.trans S4)) (D3.same S4)⟩⟩
 · exact wF C2 ⟨_,aj N0,_,rfl,put p1 B vs _ (ok.1 _ (by simp [M.ar.bn])) (S2 _ _ e1) db nB n1 _ fun H3 S3 e3 D3 k3=>⟨by decide,aM.mk fun p4 H4 S4 n4 e4=>q p4 p1 p2 _ _ H4 (S3.trans S4) e4 n1 (S1.free n2) Kz (S4 _ _ e3) (S4 _ _ (by rw [k3 _ Kz.symm];exact e2)) (D3.same S4) (ds.same (S3.trans S4))⟩⟩
noncomputable abbrev MS:=List (Option (List Nat))×List (Option (List Nat))
theorem Ge (xs:List V):(iB xs none (some (-1))=xs.dropLast)∧(HT.cM xs.length xs.length (some (-1))=xs.length↔xs=[]):=by
 have e:HT.cM xs.length xs.length (some (-1))=xs.length - 1:=by
  show (if (-1:Int)<0 then ((-1:Int)+(xs.length:Int)).toNat else min (-1:Int).toNat xs.length)=_
  rw [if_pos (by decide)];lia
 refine⟨?_,?_⟩
 · unfold iB
   rw [e]
   show (xs.drop 0).take (xs.length - 1 - 0)=_
   rw [List.drop_zero,List.dropLast_eq_take];rfl
 · rw [e]
   cases xs with
   | nil=>simp
   | cons a l=>simp
theorem A6 (p:List Nat):(vP p).dropLast=vP p.dropLast:=by
 unfold vP;rw [List.map_dropLast]
theorem AW (a b:Option (List Nat)):D.eq (dO a) (dO b)=decide (a=b):=D.NJ (Kv a) (Kv b) ⟨LZ,fun h=>by rw [h]⟩
theorem vY {H:Hp} (d:D) (v:V) (h:Dt H d v):∀n,aR H (List.replicate n d) (List.replicate n v)
 | 0=>.nil
 | n+1=>.cons h (vY d v h n)
theorem EM {β:Type} (x:β) (n:Nat):(List.replicate n [x]).flatten=List.replicate n x:=by
 induction n with
 | zero=>rfl
 | succ n ih=>simp only [List.replicate_succ,List.flatten_cons,ih];rfl
noncomputable def IE:Sp:=fun vs H Q _=>∃(k m:Nat),vs=[.int k,.int m]∧k≤1000∧m≤1000∧FP H (List.replicate k .non,List.replicate m .non) Q
theorem DC (T:Txt K mg):bg P w K mg base CX0 1 T.vj T.vX ["k","many"] IE:=by
 refine T.Bp.ok (k:=0) yJ (fun vs H Q E h=>?_) (fun bt A outer s H vs Q E hr h=>?_)
 · obtain⟨k,m,rfl,_⟩:=h
   rfl
 obtain⟨k,m,rfl,hk,hm,q⟩:=h
 have nd:=yJ.nd
 refine⟨_,(ai (ax (bN (aa (ao wH (br (aa mL af)) (pv 0)) (aa (ao wH (br (aa mL af)) (pv 1)) af))))),?_⟩
 walk_at "rd"
 have hn:∀n:Nat,n≤1000→-(2^63)≤(n:Int)∧(n:Int)<2^63∧[V.non].length*(n:Int).toNat≤sizeLine:=fun n h=>⟨by (clear hk hm h;lia),by omega,aZ (by simp;lia)⟩
 refine⟨by decide,aM.mk fun p1 H1 S1 n1 e1=>⟨p1,rfl,_,e1,(hn k hk).1,(hn k hk).2.1,(hn k hk).2.2,aM.mk fun p2 H2 S2 n2 e2=>⟨by decide,aM.mk fun p3 H3 S3 n3 e3=>⟨p3,rfl,_,e3,(hn m hm).1,(hn m hm).2.1,(hn m hm).2.2,aM.mk fun p4 H4 S4 n4 e4=>⟨by decide,aM.mk fun p5 H5 S5 n5 e5=>?_⟩⟩⟩⟩⟩
 rw [EM,Int.toNat_natCast] at e2 e4
 have S24:=S3.trans S4
 have S25:=S24.trans S5
 have n4':H2 p4=none:=S3.free n4
 refine q p5 p2 p4 _ _ H5 ((S1.trans S2).trans S25) e5 (S1.free n2) ((S1.trans S2).free n4') (aF e2 n4') (S25 _ _ e2) (S5 _ _ e4) (vY _ _ (eW.mpr rfl) k) (vY _ _ (eW.mpr rfl) m)
noncomputable def NH:Sp:=fun vs H Q _=>∃(t:L2.Tree) (f:Str) (a b:Option (List Nat)) (v va vb:V),vs=[v,.str f,va,vb]∧Dt H (dT t) v∧t.dp≤1000∧M.DS t a∧Dt H (dO a) va∧Dt H (dO b) vb∧xo H (dO (M.over t f a b)) Q
theorem HK (T:Txt K mg):bg P w K mg base CX0 2 T.jG T.jX ["tree","f","left","right"] NH:=by
 refine T.qr.ok (k:=1) nM (fun vs H Q E h=>?_) (fun bt A outer s H vs Q E hr h=>?_)
 · obtain⟨t,f,a,b,v,va,vb,rfl,_⟩:=h
   rfl
 obtain⟨t,f,a,b,v,va,vb,rfl,ht,uc,hv,ha,hb,q⟩:=h
 have nd:=nM.nd
 have dN:=nP (P:=P) (w:=w) (base:=base) T
 refine⟨_,(ag (aW (PW.pt (tu (wy (Ef (pv 2))) (mF (wy (Ef (pv 3)))))) (ai (ax mL)) aE)
  (ag (aA (i:=4) nd rfl (Or.inl rfl) (fg vQ (pv 2) lF (d6 (wW rQ ae))))
  (ag (aW (PW.pt (tu (aC (EY hr) (pv 2) (ao nF (pv 4) (bN (aa ae af))) (aB _)) (mF (aC (EY hr) (pv 3) (ao nF (pv 4) (bN (aa ae af))) (aB _))))) (ai (ax mL)) aE)
  (ai (ax (FA (aC bj (aw bQ (ak dN hr rfl T.iE T.gq.kp T.iR .nil aG (aa (pv 0) (aa (pv 4) af))) ae (fun _ _=>rfl)) (pv 1) (aB _)) (pv 4) mL)))))),?_⟩
 walk_at "rd"
 cases a with
 | none=>
  cases eW.mp ha
  exact fT (q _ _ (ay.refl _) (eW.mpr rfl))
 | some p=>
 obtain⟨x1,rfl,Q0⟩:=Bk ha
 cases b with
 | none=>
  cases eW.mp hb
  exact eR (fT (q _ _ (ay.refl _) (eW.mpr rfl)))
 | some r=>
 obtain⟨x2,rfl,ex2⟩:=Bk hb
 have wK:=M.JU (hv p rfl)
 have lvP:∀l:List Nat,(vP l).length=l.length:=fun l=>by simp [vP]
 obtain⟨Nt,Pa⟩:=Ge (vP p)
 refine eR (eR ⟨x1,rfl,_,Q0,fun h=>?_,fun h=>?_⟩)
 · have NT:p=[]:=by have:=Pa.mp h.2;simpa [vP] using this
   subst NT
   refine⟨by decide,aM.mk fun p1 H1 S1 n1 e1=>⟨_,rfl,_,S1 _ _ Q0,_,e1,aZ (by simp [vP]),fun p2 H2 S2 e2=>⟨dO (some []),ha.same (S1.trans S2),dO (some [0]),qh (by rw [e2];simp [vP]),by have:=A1 (some []);(clear uc ex2 Q0 wK Nt Pa h n1 e1 e2;lia),?_⟩⟩⟩
   rw [AW,decide_eq_false (by decide)]
   exact fT (q _ _ (S1.trans S2) (eW.mpr rfl))
 · refine aM.mk fun p0 H0 S0 n0 e0=>⟨by decide,aM.mk fun p1 H1 S1 n1 e1=>⟨p0,rfl,_,rfl,_,S1 _ _ e0,_,e1,aZ ?_,fun p2 H2 S2 e2=>⟨dO (some p),ha.same ((S0.trans S1).trans S2),dO (some (p.dropLast++[0])),qh ?_,by have:=A1 (some p);lia,?_⟩⟩⟩
   · rw [Nt];simp [vP];lia
   · rw [e2,Nt,A6];simp [vP]
   rw [Nt,A6] at e0
   have S02:=(S0.trans S1).trans S2
   have S12:=S1.trans S2
   rw [AW]
   by_cases c1:some p=some (p.dropLast++[0])
   · rw [decide_eq_true c1]
     have c1:=Option.some.inj c1
     refine eR ⟨by decide,aM.mk fun p3 H3 S3 n3 e3=>⟨p0,rfl,_,rfl,_,S3 _ _ (S12 _ _ e0),_,e3,aZ (by simp [vP];lia),fun p4 H4 S4 e4=>⟨dO (some r),hb.same ((S02.trans S3).trans S4),dO (some (p.dropLast++[1])),qh (by rw [e4];simp [vP]),by have:=A1 (some r);(clear uc Q0 ex2 wK Nt Pa h n0 e0 n1 e1 e2 c1 n3 e3 e4;lia),?_⟩⟩⟩
     have S04:=(S02.trans S3).trans S4
     rw [AW]
     by_cases c2:some r=some (p.dropLast++[1])
     · rw [decide_eq_true c2]
       have c2:=Option.some.inj c2
       obtain⟨s0,hs0,_⟩:=M.wa (hv p rfl)
       rw [c1,M.Tr.Hr] at hs0
       obtain⟨u,hu,hu2⟩:=Option.bind_eq_some_iff.mp hs0
       cases u with
       | leaf x=>simp [M.Tr.sub] at hu2
       | knot g l r'=>
       have ep0:H4 p0=some (.tup (vP p.dropLast)):=S4 _ _ (S3 _ _ (S12 _ _ e0))
       refine eR ⟨t,_,p.dropLast,v,.ref p0,rfl,ht.same S04,qh ep0,hu,fun v' tL=>?_⟩
       obtain⟨a',vl,vr,rfl,CB,wq,B3⟩:=gm tL
       refine⟨a',rfl,_,aj CB,_,cf,?_⟩
       rw [show M.over t f (some p) (some r)=if g=f then some p.dropLast else none from ?_] at q
       · refine⟨rfl,bO (fun c3=>?_) (fun c3=>?_)⟩
         · rw [if_pos (V.str.inj (of_decide_eq_true c3))] at q
           exact q _ _ S04 (qh ep0)
         · rw [if_neg fun z=>c3 (by rw [z];exact decide_eq_true rfl)] at q
           exact q _ _ S04 (eW.mpr rfl)
       · show (if p=p.dropLast++[0]∧r=p.dropLast++[1]∧M.mn t f p.dropLast=true then some p.dropLast else none)=_
         have hk:M.mn t f p.dropLast=decide (g=f):=by unfold M.mn;rw [hu]
         rw [hk]
         by_cases c3:g=f
         · rw [if_pos ⟨c1,c2,decide_eq_true c3⟩,if_pos c3]
         · rw [if_neg fun z=>c3 (of_decide_eq_true z.2.2),if_neg c3]
     · rw [decide_eq_false c2]
       rw [show M.over t f (some p) (some r)=none from if_neg fun z=>c2 (congrArg some z.2.1)] at q
       exact fT (q _ _ S04 (eW.mpr rfl))
   · rw [decide_eq_false c1]
     rw [show M.over t f (some p) (some r)=none from if_neg fun z=>c1 (congrArg some z.1)] at q
     exact fT (q _ _ S02 (eW.mpr rfl))
noncomputable def P6 (t:L2.Tree) (d:L2.ar) (st:MS):Option (List Nat):=d.val none (fun x=>M.firstOf x (t.wk [])) (M.over t) st
noncomputable def Oo:Sp:=fun vs H Q _=>∃(t:L2.Tree) (d:L2.ar) (st:MS) (v vd u:V),vs=[v,vd,u]∧Dt H (dT t) v∧t.dp≤24∧t.lv.length≤32∧Dt H (cD d) vd∧Dt H (.tup [.lst (st.1.map dO),.lst (st.2.map dO)]) u∧d.ok st.1.length st.2.length∧M.ar.tT (M.DS t) st∧xo H (dO (P6 t d st)) Q
theorem Ma (T:Txt K mg):bg P w K mg base CX0 29 T.gI T.gQ ["tree","deed","state"] Oo:=by
 refine T.ku.ok (k:=28) jx (fun vs H Q E h=>?_) (fun bt A outer s H vs Q E hr h=>?_)
 · obtain⟨t,d,st,v,vd,u,rfl,_⟩:=h
   rfl
 obtain⟨t,d,st,v,vd,u,rfl,ht,uc,G5,hd,hu,ok,Np,q⟩:=h
 obtain⟨a,rfl,ea⟩:=fF hd
 obtain⟨p,b,s',ws,us,rfl,ep,eb,es,db,ds⟩:=xN hu
 have nd:=jx.nd
 have zb:=(y8 (P:=P) (w:=w) (base:=base) T 24).mono (k:=28) (by omega)
 have xE:=(HK (P:=P) (w:=w) (base:=base) T).mono (k:=28) (by omega)
 have tY:=(EK (P:=P) (w:=w) (base:=base) T).mono (k:=28) (by omega)
 refine⟨_,(ag (aW (aC bj (aw bQ (pv 1) ae (fun _ _=>rfl)) az (aB _)) (ai (ax (ak zb hr rfl T.ze T.rM.kp T.zV .nil aG (aa (pv 0) (aa (aw bQ (pv 1) ae (fun _ _=>rfl)) af))))) aE)
  (ag (aW (aC bj (aw bQ (pv 1) ae (fun _ _=>rfl)) az (aB _)) (ai (ax (ak xE hr rfl T.wR T.qr.kp T.yD .nil aG (aa (pv 0) (aa (aw bQ (pv 1) ae (fun _ _=>rfl)) (aa (aw bQ (aw bQ (pv 2) ae (fun _ _=>rfl)) (aw bQ (pv 1) ae (fun _ _=>rfl)) (fun _ _=>rfl)) (aa (aw bQ (aw bQ (pv 2) ae (fun _ _=>rfl)) (aw bQ (pv 1) ae (fun _ _=>rfl)) (fun _ _=>rfl)) af))))))) aE)
  (ai (ax (ak tY hr rfl T.tV T.lL.kp T.tS .nil aG (aa (pv 1) (aa (pv 2) af))))))),?_⟩
 walk_at "rd"
 cases d with
 | take x i=>
  simp only [bp] at ea
  refine⟨_,aj ea,_,aP,rfl,wT ⟨_,aj ea,_,cf,?_⟩⟩
  exact⟨t,x,v,rfl,ht,uc,by lia,fun v' H' S' d'=>q v' H' S' d'⟩
 | join f i j h=>
  simp only [bp] at ea
  obtain⟨y1,hy1,dy1⟩:=getD_at db (by rw [List.length_map];exact ok.1 i (by simp [M.ar.bn]))
  obtain⟨y2,hy2,dy2⟩:=getD_at db (by rw [List.length_map];exact ok.1 j (by simp [M.ar.bn]))
  rw [show D.non=dO none from rfl,getD_map] at dy1 dy2
  refine⟨_,aj ea,_,aP,rfl,wF ZT ⟨_,aj ea,_,aP,rfl,wT ?_⟩⟩
  exact⟨_,aj ea,_,cf,_,aj ep,_,aP,_,aj ea,_,gM,b,rfl,_,i,rfl,aN eb,y1,hy1,_,aj ep,_,aP,_,aj ea,_,mY,b,rfl,_,j,rfl,aN eb,y2,hy2,t,f,_,_,v,y1,y2,rfl,ht,by lia,M.ar.kG (C:=M.DS t) (show M.DS t none from fun _ z=>nomatch z) Np.1 _,dy1,dy2,q⟩
 | put i j=>
  simp only [bp] at ea
  refine⟨_,aj ea,_,aP,rfl,wF Ua ⟨_,aj ea,_,aP,rfl,wF Qm ?_⟩⟩
  refine⟨.put i j,_,_,_,_,rfl,hd,hu,by simpa using ok,trivial,fun x hx=>q x H (ay.refl _) ?_⟩
  change Dt H ((st.1.map dO).getD i.toNat D.non) x at hx
  rw [show D.non=dO none from rfl,getD_map] at hx
  exact hx
 | fetch j i=>
  simp only [bp] at ea
  refine⟨_,aj ea,_,aP,rfl,wF aaf ⟨_,aj ea,_,aP,rfl,wF OF ?_⟩⟩
  refine⟨.fetch j i,_,_,_,_,rfl,hd,hu,by simpa using ok,trivial,fun x hx=>q x H (ay.refl _) ?_⟩
  change Dt H ((st.2.map dO).getD j.toNat D.non) x at hx
  rw [show D.non=dO none from rfl,getD_map] at hx
  exact hx
noncomputable def dS (st:MS):D:=.tup [.lst (st.1.map dO),.lst (st.2.map dO)]
noncomputable def GK (T:Txt K mg):Sp:=fun vs H Q E=>∃(t:L2.Tree) (d:L2.ar) (st:MS) (v vd u:V),vs=[v,vd,u]∧Dt H (dT t) v∧t.dp≤24∧t.lv.length≤32∧Dt H (cD d) vd∧Dt H (dS st) u∧st.1.length≤1000∧st.2.length≤1000∧M.ar.tT (M.DS t) st∧
 (d.ok st.1.length st.2.length→FP H ((M.mark t st d).1.map dO,(M.mark t st d).2.map dO) Q)∧(¬d.ok st.1.length st.2.length→vT d∧(∀i∈d.bn++d.sn,i.natAbs.log2<1900)∧∀H',ay H H'→E (.ref T.aH) none H')
theorem jh {α:Type} (g:α→D) (hg:∀x,(g x).nl=true):∀l:List α,D.my (l.map g)=true
 | []=>rfl
 | x::l=>by simp only [List.map_cons,D.my,hg x,jh g hg l,Bool.and_self]
theorem B5 (T:Txt K mg):bg P w K mg base (CXE P w) 30 T.sX T.rB ["tree","deed","state"] (GK T):=by
 refine T.yy.G2 (k:=29) uI (fun vs H Q E h=>?_) (fun bt A outer s H vs Q E hr h L=>?_)
 · obtain⟨t,d,st,v,vd,u,rfl,_⟩:=h
   rfl
 obtain⟨t,d,st,v,vd,u,rfl,ht,uc,G5,hd,hu,l1,l2,Np,q,qe⟩:=h
 have nd:=uI.nd
 have vq:=(Lf (P:=P) (w:=w) (base:=base) T).mono (k:=29) (by omega)
 have sU:=(Ma (P:=P) (w:=w) (base:=base) T).mono (k:=29) (by omega)
 have sM:=(Ci (P:=P) (w:=w) (base:=base) T).mono (k:=29) (by omega)
 refine⟨_,(ag (gk (ak vq hr rfl T.vN T.nq.kp T.vz .nil (qi L) (aa (pv 1) (aa (pv 2) af))))
  (ai (ax (ak sM hr rfl T.sP T.kI.kp T.sQ .nil aG (aa (pv 1) (aa (pv 2) (aa (ak sU hr rfl T.sH T.ku.kp T.sk .nil aG (aa (pv 0) (aa (pv 1) (aa (pv 2) af)))) af))))))),?_⟩
 walk_at "rd"
 refine⟨d,_,_,vd,u,rfl,hd,hu,by simpa using l1,by simpa using l2,fun ok H1 S1=>?_,fun ok=>?_⟩
 · simp only [List.length_map] at ok
   refine⟨t,d,st,v,vd,u,rfl,ht.same S1,uc,G5,hd.same S1,hu.same S1,ok,Np,fun x H2 S2 dx=>?_⟩
   have S12:=S1.trans S2
   refine⟨d,_,_,_,vd,u,x,rfl,hd.same S12,hu.same S12,by simpa using ok,jh _ xB _,jh _ xB _,xB _,dx,?_⟩
   have e:=M.ar.A8 d dO (P6 t d st) st
   rw [e]
   intro p b s vs us H' S e n1 n2 ne e1 e2 d1 d2
   exact q ok p b s vs us H' (S12.trans S) e (S12.free n1) (S12.free n2) ne e1 e2 d1 d2
 · simp only [List.length_map] at ok
   exact qe ok
noncomputable def lH (t:L2.Tree) (st:MS):List L2.ar→List MS
 | []=>[st]
 | d::r=>st::lH t (M.mark t st d) r
noncomputable def yk (k m:Nat):MS:=(List.replicate k none,List.replicate m none)
noncomputable def qA (k m:Nat) (row:List L2.ar):Prop:=∀d∈row,d.ok k m
noncomputable def Vp (H:Hp) (sts:List MS) (Q:VK):Prop:=∀p vs l b s ws us G H' (st:MS) (pre:List MS),sts=pre++[st]→ay H G→ay G H'→G p=none→H' p=some (.lst (vs++[.ref l]))→aR G (pre.map dS) vs→H' l=some (.tup [.ref b,.ref s])→
 G b=none→G s=none→b≠s→b≠p→s≠p→H' b=some (.lst ws)→H' s=some (.lst us)→aR H' (st.1.map dO) ws→aR H' (st.2.map dO) us→Q (.ref p) H'
theorem IP (t:L2.Tree) (st:MS) (r:List L2.ar):lH t st r≠[]:=by cases r<;>simp [lH]
theorem uy (t:L2.Tree) (d:L2.ar):∀(r:List L2.ar) (RU:MS) (pre:List MS) (st:MS),lH t RU r=pre++[st]→lH t RU (r++[d])=(pre++[st])++[M.mark t st d]
 | [],RU,pre,st,h=>by
  cases pre with
  | nil=>simp only [lH,List.nil_append,List.cons.injEq,and_true] at h;simp [lH,h]
  | cons a pre=>simp [lH] at h
 | e::r,RU,pre,st,h=>by
  cases pre with
  | nil=>simp only [lH,List.nil_append,List.cons.injEq] at h;exact absurd h.2 (IP _ _ _)
  | cons a pre=>
   simp only [lH,List.cons_append,List.cons.injEq] at h
   have:=uy t d r _ pre st h.2
   rw [List.cons_append,lH,this,h.1];rfl
theorem ve (st:MS):D.my (st.1.map dO)=true∧D.my (st.2.map dO)=true:=⟨jh _ xB _,jh _ xB _⟩
theorem sE {β:Type} (xs:List β) (x:β):kT (xs++[x]) (-1)=some x:=by
 unfold kT Az
 rw [if_neg (by decide),if_pos (by simp;lia)]
 have:((-1:Int)+((xs++[x]).length:Nat)).toNat=xs.length:=by simp;lia
 show (xs++[x])[((-1:Int)+((xs++[x]).length:Nat)).toNat]? = some x
 rw [this];simp
noncomputable def QW (T:Txt K mg):Sp:=fun vs H Q E=>∃(t:L2.Tree) (k m:Nat) (row:List L2.ar) (v:V) (pr:Addr) (rs:List V),vs=[v,.int k,.int m,.ref pr]∧Dt H (dT t) v∧t.dp≤24∧t.lv.length≤32∧k≤1000∧m≤1000∧row.length≤5000∧H pr=some (.lst rs)∧aR H (row.map cD) rs∧
 (qA k m row→Vp H (lH t (yk k m) row) Q)∧(¬qA k m row→(∀d∈row,vT d∧(∀i∈d.bn++d.sn,i.natAbs.log2<1900))∧∀H',ay H H'→E (.ref T.aH) none H')
theorem LR (T:Txt K mg):bg P w K mg base (CXE P w) 31 T.ot T.pk ["tree","k","many","row"] (QW T):=by
 refine T.uu.G2 (k:=30) sN (fun vs H Q E h=>?_) (fun bt A outer s H vs Q E hr h L=>?_)
 · obtain⟨t,k,m,row,v,pr,rs,rfl,_⟩:=h
   rfl
 obtain⟨t,k,m,row,v,pr,rs,rfl,ht,uc,G5,hk,hm,dC,er,dr,q,qe⟩:=h
 have nd:=sN.nd
 have IA:=(DC (P:=P) (w:=w) (base:=base) T).mono (k:=30) (by omega)
 have EL:=(B5 (P:=P) (w:=w) (base:=base) T).mono (k:=30) (by omega)
 refine⟨_,(ag (aA (i:=4) nd rfl (Or.inl rfl) (br (aa (ak IA hr rfl T.Jp T.Bp.kp T.Hn .nil aG (aa (pv 1) (aa (pv 2) af))) af)))
  (ag (jF PassesOwn.leaving rfl (AE (pv 3)) (dA (i:=5) nd rfl (Or.inl rfl)) (ai (gk (lV PySem.F.plainAttrs_list PySem.F.slot_list_append PySem.F.type_list_append oO (pv 4) (aa (ak EL hr rfl T.Eb T.yy.kp T.DO .nil (qi L) (aa (pv 0) (aa (pv 5) (aa (aw bQ (pv 4) (wW rQ ae) (fun _ _=>rfl)) af)))) af)))))
  (ai (ax (pv 4))))),?_⟩
 walk_at "rd"
 refine⟨k,m,rfl,hk,hm,fun l0 b0 s0 ws0 us0 H1 S1 Mu Mq Mx h0 JP JQ db0 ds0=>⟨by decide,aM.mk fun p H2 S2 n2 e2=>?_⟩⟩
 have np:H p=none:=S1.free n2
 have S12:=S1.trans S2
 obtain⟨Pv,gW⟩:∃Pv:Nat→St→Hp→Prop,∀i σ H',Pv i σ H'↔(∀d∈row.take i,d.ok k m)∧(∃vs l b s ws us G st pre,lH t (yk k m) (row.take i)=pre++[st]∧st.1.length=k∧st.2.length=m∧M.ar.tT (M.DS t) st∧ay H G∧ay G H'∧G p=none∧H' p=some (.lst (vs++[.ref l]))∧aR G (pre.map dS) vs∧H' l=some (.tup [.ref b,.ref s])∧
  G b=none∧G s=none∧b≠s∧b≠p∧s≠p∧H' b=some (.lst ws)∧H' s=some (.lst us)∧aR H' (st.1.map dO) ws∧aR H' (st.2.map dO) us)∧∃o5:Option V,σ=[some v,some (.int k),some (.int m),some (.ref pr),some (.ref p),o5]:=⟨_,fun _ _ _=>Iff.rfl⟩
 have cut:∀{H' G:Hp},ay H G→ay G H'→ay H H':=fun a b=>a.trans b
 refine WalkL.DF (S12 _ _ er) Pv ((gW _ _ _).mpr ⟨by simp,⟨[],l0,b0,s0,ws0,us0,H,yk k m,[],rfl,by simp [yk],by simp [yk],M.ar.Ie (show M.DS t none from fun _ z=>nomatch z) k m,ay.refl _,S12,np,e2,.nil,S2 _ _ Mu,Mq,Mx,h0,?_,?_,S2 _ _ JP,S2 _ _ JQ,?_,?_⟩,none,rfl⟩) (fun i σ H' _ h=>?_) ?_ ?_
 · exact aF JP n2
 · exact aF JQ n2
 · simp only [yk,List.map_replicate];exact db0.same S2
 · simp only [yk,List.map_replicate];exact ds0.same S2
 · obtain⟨_,⟨vs,l,b,s,ws,us,G,st,pre,_,_,_,_,h1,h2,_⟩,_⟩:=(gW _ _ _).mp h
   exact h2 _ _ (h1 _ _ er)
 · intro i y σ H' ey h
   obtain⟨aO,⟨vs,l,b,s1,ws,us,G,st,pre,Gu,IZ,GD,Np,SG,SGH,gp,ep,dpre,el,gb,gs,qW,uU,lK,eb,es,db,ds⟩,o5,rfl⟩:=(gW _ _ _).mp h
   have lr:=dr.length
   rw [List.length_map] at lr
   have hi:i<row.length:=by have:=(List.getElem?_eq_some_iff.mp ey).1;(clear uc G5 hk hm dC er q qe Mu Mq Mx h0 JP JQ n2 e2 np ey Gu IZ GD gp ep el gb gs qW uU lK eb es;lia)
   obtain⟨y',hy',dy⟩:=aR.fY dr (List.getElem?_eq_getElem hi)
   rw [ey] at hy';cases hy'
   have e0:row[i]? = some row[i]:=List.getElem?_eq_getElem hi
   generalize row[i]=d at dy e0
   have S0:=SG.trans SGH
   have dst:Dt H' (dS st) (.ref l):=BL el eb es db ds
   walk_at "rd"
   refine⟨o1 ep,_,aN ep,_,sE vs _,?_⟩
   refine⟨t,d,st,v,y,_,rfl,ht.same S0,uc,G5,dy.same S0,dst,by (clear Mq Mx h0 JP JQ n2 e2 np ey uU lK eb es lr hi e0 er q qe Mu Gu gb gs qW GD gp ep el uc G5 hm dC;lia),by (clear Mq Mx h0 JP JQ n2 e2 np ey uU lK eb es lr hi e0 er q qe Mu Gu gb gs qW uc G5 hk el gp ep dC IZ;lia),Np,fun ok=>?_,fun ok=>?_⟩
   · rw [IZ,GD] at ok
     intro l' b' s' ws' us' H1 S1' Qk NM NZ Hb Ha J2 db' ds'
     have JG:vs.length≤5000:=by
      have h1:=dpre.length
      have h2:(lH t (yk k m) (row.take i)).length=i+1:=by
       have:∀(r:List L2.ar) (st:MS),(lH t st r).length=r.length+1:=by
        intro r;induction r with
        | nil=>intro st;rfl
        | cons e r ih=>intro st;simp [lH,ih]
       rw [this,List.length_take];(clear uc G5 hk hm dC er q qe Mu Mq Mx h0 JP JQ n2 e2 np ey Gu IZ GD gp ep el gb gs qW uU lK eb es lr Ha J2 h1 NM NZ Hb Qk e0;lia)
      rw [Gu,List.length_append] at h2
      rw [List.length_map] at h1
      simp at h2;(clear h0 JP JQ n2 e2 np ey Gu IZ GD gp q qe Mu Mq Mx ep el gb gs qW uU lK uc G5 hk eb es lr NM NZ Hb e0 Qk Ha J2 hm er;lia)
     refine⟨_,S1' _ _ ep,cP (by simp;(clear uc G5 hk hm dC er q qe Mu Mq Mx h0 JP JQ n2 e2 np ey Gu IZ GD gp ep el gb gs qW uU lK eb es lr hi e0 Qk NM NZ Hb Ha J2;lia)),ny.mk fun H3 k3 e3=>(gW _ _ _).mpr ⟨?_,⟨vs++[.ref l],l',b',s',ws',us',fun a=>if a=p then none else H' a,M.mark t st d,pre++[st],?_,?_,?_,M.DJ Np d,?_,?_,by simp,e3,?_,?_,?_,?_,Hb,?_,?_,?_,?_,?_,?_⟩,_,rfl⟩⟩
     · intro e he
       rw [List.take_add_one,e0] at he
       rcases List.mem_append.mp he with he|he
       · exact aO e he
       · simp at he
         rw [he];exact ok
     · rw [List.take_add_one,e0]
       exact uy t d _ _ _ _ Gu
     · exact(M.ar.Ey st d).1.trans IZ
     · exact(M.ar.Ey st d).2.trans GD
     · intro a o e
       show (if a=p then none else H' a)=some o
       rw [if_neg (aF e np)];exact S0 _ _ e
     · intro a o e
       change (if a=p then none else H' a)=some o at e
       by_cases c:a=p
       · rw [if_pos c] at e;cases e
       · rw [if_neg c] at e
         rw [k3 a c];exact S1' _ _ e
     · have GG:ay G (fun a=>if a=p then none else H' a):=fun a o e=>by
        show (if a=p then none else H' a)=some o
        rw [if_neg (aF e gp)];exact SGH _ _ e
       have TT:nc H' (fun a=>if a=p then none else H' a):=fun a xs e=>by
        show (if a=p then none else H' a)=_
        rw [if_neg (lM e ep (by intro z;cases z))];exact e
       rw [List.map_append]
       refine (dpre.same GG).append (.one (BL (b:=b) (s:=s1) (TT _ _ el) ?_ ?_ (db.bU TT (ve st).1) (ds.bU TT (ve st).2)))
       · show (if b=p then none else H' b)=_
         rw [if_neg uU];exact eb
       · show (if s1=p then none else H' s1)=_
         rw [if_neg lK];exact es
     · rw [k3 l' (lM Qk (S1' _ _ ep) (by intro z;cases z))];exact Qk
     · show (if b'=p then none else H' b')=none
       rw [NM];simp
     · show (if s'=p then none else H' s')=none
       rw [NZ];simp
     · exact(aF ep NM).symm
     · exact(aF ep NZ).symm
     · rw [k3 _ (aF ep NM).symm];exact Ha
     · rw [k3 _ (aF ep NZ).symm];exact J2
     · exact db'.sg (S1' _ _ ep) k3 (ve _).1
     · exact ds'.sg (S1' _ _ ep) k3 (ve _).2
   · rw [IZ,GD] at ok
     obtain⟨h1,h2⟩:=qe fun h=>ok (h d (List.mem_of_getElem? e0))
     exact⟨(h1 d (List.mem_of_getElem? e0)).1,(h1 d (List.mem_of_getElem? e0)).2,fun H1 S1=>h2 H1 (S0.trans S1)⟩
 · intro σ H' h
   obtain⟨aO,⟨vs,l,b,s1,ws,us,G,st,pre,Gu,IZ,GD,Np,SG,SGH,gp,ep,dpre,el,gb,gs,qW,uU,lK,eb,es,db,ds⟩,o5,rfl⟩:=(gW _ _ _).mp h
   have lr:=dr.length
   rw [List.length_map] at lr
   rw [lr,List.take_length] at aO Gu
   walk_at "rd"
   exact q aO p vs l b s1 ws us G H' st pre Gu SG SGH gp ep dpre el gb gs qW uU lK eb es db ds
noncomputable def Ax:L2.ar→Str
 | .take _ _=>Str.ofString "take"
 | .join _ _ _ _=>Str.ofString "join"
 | .put _ _=>Str.ofString "put"
 | .fetch _ _=>Str.ofString "fetch"
theorem sO (t:L2.Tree):t.lv.length=nK t+1:=(J4 t).symm
noncomputable def cnt (x:Str) (row:List L2.ar):Nat:=row.countP fun d=>decide (Ax d=x)
theorem HP (d:L2.ar):∃r,bp d = .str (Ax d)::r:=by cases d<;>exact⟨_,rfl⟩
theorem abp (hs:List (Option (List Nat))) (p:List Nat):((hs.map dO).any fun d=>D.eq d (dP p))=M.held hs p:=by
 unfold M.held
 rw [List.any_map]
 congr 1
 funext o
 show D.eq (dO o) (dO (some p))=_
 rw [AW]
 cases o<;>(rw [Bool.eq_iff_iff];simp)
theorem Ol:∀l:List (Option (List Nat)),D.tK (l.map dO)≤1
 | []=>Nat.zero_le _
 | o::l=>by
  have:=Ol l
  have:=A1 o
  simp only [List.map_cons,D.tK]
  lia
noncomputable def Ja:Sp:=fun vs H Q _=>∃(st:MS) (v:V),vs=[v]∧Dt H (dS st) v∧∀H',ay H H'→Q (.bl (M.held st.1 [])) H'
seal nz PS PE PT PA PI fe in
theorem Et (T:Txt K mg):bg P w K mg base CX0 1 T.gF T.gK ["state"] Ja:=by
 refine T.jT.ok (k:=0) jB (fun vs H Q E h=>?_) (fun bt A outer s H vs Q E hr h=>?_)
 · obtain⟨st,v,rfl,_⟩:=h
   rfl
 obtain⟨st,v,rfl,dv,q⟩:=h
 obtain⟨p,b,s',ws,us,rfl,ep,eb,es,db,ds⟩:=xN dv
 have nd:=jB.nd
 refine⟨_,(ai (ax (bu (MW hr) (bN af) (aw bQ (pv 0) ae (fun _ _=>rfl)) (by with_unfolding_all rfl)))),?_⟩
 walk_at "rd"
 refine⟨Nat.zero_le _,aM.mk fun p1 H1 S1 n1 e1=>⟨_,aj (S1 _ _ ep),_,aP,b,rfl,_,.inl (S1 _ _ eb),_,db.same S1,dP [],qh e1,Nat.le_trans (Ol _) (by decide),?_⟩⟩
 have:=q H1 S1
 rw [←abp] at this
 exact this
noncomputable def kR (t1 t2 t3 t4:Addr):List (Key×V):=[(.inr (Str.ofString "take"),.ref t1),(.inr (Str.ofString "join"),.ref t2),(.inr (Str.ofString "put"),.ref t3),(.inr (Str.ofString "fetch"),.ref t4)]
structure FT (P:Program) (w:World) (K:PySem.W.Frag) (mg:Str→Option Value) where
 a:Addr
 t1:Addr
 t2:Addr
 t3:Addr
 t4:Addr
 m:mg "PARTS"=some (.ref a)
 d:KD P w K a (kR t1 t2 t3 t4)
 k1:vv K t1 [.str (Str.ofString "name"),.str (Str.ofString "number")]
 k2:vv K t2 [.str (Str.ofString "name"),.str (Str.ofString "number"),.str (Str.ofString "number"),.str (Str.ofString "number")]
 k3:vv K t3 [.str (Str.ofString "number"),.str (Str.ofString "number")]
 k4:vv K t4 [.str (Str.ofString "number"),.str (Str.ofString "number")]
noncomputable def cL:L2.ar→List Str
 | .take x i=>[Str.ofString "take",x,df i]
 | .join f i j l=>[Str.ofString "join",f,df i,df j,df l]
 | .put i s=>[Str.ofString "put",df i,df s]
 | .fetch s i=>[Str.ofString "fetch",df s,df i]
noncomputable def bT (d:L2.ar):Str:=Txt.join (Str.ofString " ") (cL d)
noncomputable def d9 (r:List L2.ar):Str:=Txt.join (Str.ofString "; ") (r.map bT)
noncomputable def Od:L2.ar→Option Str
 | .take x _=>some x
 | .join f _ _ _=>some f
 | _=>none
noncomputable def yW (d:L2.ar):Prop:=(∀i∈d.bn++d.sn,0≤i∧i<10000)∧∀x,Od d=some x→bb x=true
noncomputable def vJ:V→Str
 | .str x=>x
 | .int i=>df i
 | _=>Str.ofString ""
theorem words_of (d:L2.ar):(bp d).map vJ=cL d:=by cases d<;>rfl
theorem DI {i:Int} (h:0≤i∧i<10000):(df i).length≤4∧(df i).cps.toList=gY i.toNat:=by
 obtain⟨n,rfl⟩:∃n:Nat,i=n:=⟨i.toNat,by lia⟩
 have:=kZ (n:=n) (by omega)
 rw [rW]
 refine⟨?_,by simp [fU]⟩
 have e:(fU n).length=(gY n).length:=by simp [fU,Str.length]
 rw [e];exact this.2.1
theorem gD {x:Str} (h:bb x=true):1≤x.length∧x.length≤8∧∀c∈x.cps.toList,97≤c∧c≤122:=by
 unfold bb isName at h
 simp only [Bool.and_eq_true,decide_eq_true_eq,List.all_eq_true] at h
 have el:x.cps.toList.length=x.length:=by simp [Str.length]
 rw [el] at h
 exact⟨h.1,h.2.1,fun c hc=>h.2.2 c hc⟩
theorem Fu:∀z∈[Str.ofString "take",Str.ofString "join",Str.ofString "put",Str.ofString "fetch"],z.length≤8∧∀c∈z.cps.toList,97≤c∧c≤122:=by decide +kernel
theorem qV {d:L2.ar} (h:yW d):∀z∈cL d,z.length≤8∧∀c∈z.cps.toList,48≤c∧c≤122∧c≠59:=by
 have w0:∀z∈[Str.ofString "take",Str.ofString "join",Str.ofString "put",Str.ofString "fetch"],z.length≤8∧∀c∈z.cps.toList,48≤c∧c≤122∧c≠59:=fun z hz=>by
  obtain⟨h1,h2⟩:=Fu z hz
  exact⟨h1,fun c hc=>by have:=h2 c hc;(clear h1;lia)⟩
 have wn:∀x,Od d=some x→x.length≤8∧∀c∈x.cps.toList,48≤c∧c≤122∧c≠59:=fun x hx=>by
  obtain⟨_,h1,h2⟩:=gD (h.2 x hx)
  exact⟨h1,fun c hc=>by have:=h2 c hc;lia⟩
 have wi:∀i∈d.bn++d.sn,(df i).length≤8∧∀c∈(df i).cps.toList,48≤c∧c≤122∧c≠59:=fun i hi=>by
  have hb:=h.1 i hi
  obtain⟨h1,h2⟩:=DI hb
  refine⟨by lia,fun c hc=>?_⟩
  rw [h2] at hc
  have:=(kZ (n:=i.toNat) (by lia)).2.2.1 c hc
  (clear hb h1 h2;lia)
 intro z hz
 cases d with
 | take x i=>
  simp only [cL,List.mem_cons,List.not_mem_nil,or_false] at hz
  rcases hz with rfl|rfl|rfl
  · exact w0 _ (by simp)
  · exact wn _ rfl
  · exact wi _ (by simp [M.ar.bn])
 | join f i j l=>
  simp only [cL,List.mem_cons,List.not_mem_nil,or_false] at hz
  rcases hz with rfl|rfl|rfl|rfl|rfl
  · exact w0 _ (by simp)
  · exact wn _ rfl
  · exact wi _ (by simp [M.ar.bn])
  · exact wi _ (by simp [M.ar.bn])
  · exact wi _ (by simp [M.ar.bn])
 | put i s=>
  simp only [cL,List.mem_cons,List.not_mem_nil,or_false] at hz
  rcases hz with rfl|rfl|rfl
  · exact w0 _ (by simp)
  · exact wi _ (by simp [M.ar.bn])
  · exact wi _ (by simp [M.ar.sn])
 | fetch s i=>
  simp only [cL,List.mem_cons,List.not_mem_nil,or_false] at hz
  rcases hz with rfl|rfl|rfl
  · exact w0 _ (by simp)
  · exact wi _ (by simp [M.ar.sn])
  · exact wi _ (by simp [M.ar.bn])
theorem ph (d:L2.ar):3≤(cL d).length∧(cL d).length≤5:=by cases d<;>simp [cL]
theorem Ca:(Str.ofString " ")=⟨([32]:List Nat).toArray⟩:=by decide +kernel
theorem HZ:(Str.ofString "; ")=⟨([59,32]:List Nat).toArray⟩:=by decide +kernel
theorem vU:∀l:List Str,(∀z∈l,z.length≤8)→(l.map (·.length)).sum≤8*l.length
 | [],_=>by simp
 | a::l,h=>by
  have h1:=h a (by simp)
  have h2:=vU l fun z hz=>h z (by simp [hz])
  simp only [List.map_cons,List.sum_cons,List.length_cons]
  lia
theorem oy {d:L2.ar} (h:yW d):(bT d).length≤50∧∀c∈(bT d).cps.toList,c≠59:=by
 have e:(bT d).cps.toList=jn [32] ((cL d).map fun z=>z.cps.toList):=by
  unfold bT Txt.join
  rw [StrLaws.glued_eq_join,gR,Ca]
 have hw:=qV h
 have l5:=(ph d).2
 constructor
 · have h1:=vf [32] ((cL d).map fun z=>z.cps.toList)
   rw [←e] at h1
   have h2:=vU (cL d) fun z hz=>(hw z hz).1
   have h3:(((cL d).map fun z=>z.cps.toList).map List.length)=(cL d).map (·.length):=by rw [List.map_map];rfl
   rw [h3] at h1
   simp only [List.length_map,List.length_cons,List.length_nil] at h1
   have h4:(bT d).cps.toList.length=(bT d).length:=by simp [Str.length]
   lia
 · rw [e]
   have go:∀l:List (List Nat),(∀z∈l,∀c∈z,c≠59)→∀c∈jn [32] l,c≠59:=by
    intro l
    induction l with
    | nil=>intro _ c hc;simp [jn] at hc
    | cons a l ih=>
     intro hl c hc
     cases l with
     | nil=>exact hl a (by simp) c hc
     | cons b l=>
      simp only [jn,List.mem_append,List.mem_singleton] at hc
      rcases hc with (hc|hc)|hc
      · exact hl a (by simp) c hc
      · lia
      · exact ih (fun z hz=>hl z (by simp [List.mem_cons.mp hz])) c hc
   refine go _ fun z hz c hc=>?_
   obtain⟨y,hy,rfl⟩:=List.mem_map.mp hz
   exact((hw y hy).2 c hc).2.2
theorem zH {d:L2.ar} (h:yW d):Txt.split (bT d) (Str.ofString " ")=cL d:=by
 unfold bT
 rw [Ca]
 refine rL (c:=32) (r:=[]) (cL d) (by simp) (by decide +kernel) (fun e=>by have:=(ph d).1;rw [e] at this;simp at this) fun z hz hc=>?_
 have:=(qV h z hz).2 32 hc
 omega
theorem Ck {r:List L2.ar} (h0:r≠[]) (h:∀d∈r,yW d):Txt.split (d9 r) (Str.ofString "; ")=r.map bT:=by
 unfold d9
 rw [HZ]
 refine rL (c:=59) (r:=[32]) (r.map bT) (by simp) (by decide +kernel) (by simpa using h0) fun z hz hc=>?_
 obtain⟨d,hd,rfl⟩:=List.mem_map.mp hz
 exact(oy (h d hd)).2 59 hc rfl
theorem yn {r:List L2.ar} (h:∀d∈r,yW d):(d9 r).length≤60*r.length:=by
 have e:(d9 r).cps.toList=jn [59,32] ((r.map bT).map fun z=>z.cps.toList):=by
  unfold d9 Txt.join
  rw [StrLaws.glued_eq_join,gR,HZ]
 have h1:=vf [59,32] ((r.map bT).map fun z=>z.cps.toList)
 rw [←e] at h1
 have h2:∀r:List L2.ar,(∀d∈r,yW d)→((((r.map bT).map fun z:Str=>z.cps.toList)).map List.length).sum≤50*r.length:=by
  intro r
  induction r with
  | nil=>intro _;simp
  | cons d r ih=>
   intro h
   have a1:=(oy (h d (by simp))).1
   have a2:=ih fun d hd=>h d (by simp [hd])
   have a3:(bT d).cps.toList.length=(bT d).length:=by simp [Str.length]
   simp only [List.map_cons,List.sum_cons,List.length_cons] at a2 ⊢
   (clear e h1 ih;lia)
 have h3:=h2 r h
 simp only [List.length_map,List.length_cons,List.length_nil] at h1
 have h4:(d9 r).cps.toList.length=(d9 r).length:=by simp [Str.length]
 lia
theorem CL (d:L2.ar):∀x∈bp d,(∃z,x=V.str z)∨∃i∈d.bn++d.sn,x=V.int i:=by
 intro x hx
 cases d with
 | take y i=>
  simp only [bp,List.mem_cons,List.not_mem_nil,or_false] at hx
  rcases hx with rfl|rfl|rfl
  · exact .inl ⟨_,rfl⟩
  · exact .inl ⟨_,rfl⟩
  · exact .inr ⟨_,by simp [M.ar.bn],rfl⟩
 | join f i j l=>
  simp only [bp,List.mem_cons,List.not_mem_nil,or_false] at hx
  rcases hx with rfl|rfl|rfl|rfl|rfl
  · exact .inl ⟨_,rfl⟩
  · exact .inl ⟨_,rfl⟩
  · exact .inr ⟨_,by simp [M.ar.bn],rfl⟩
  · exact .inr ⟨_,by simp [M.ar.bn],rfl⟩
  · exact .inr ⟨_,by simp [M.ar.bn],rfl⟩
 | put i s=>
  simp only [bp,List.mem_cons,List.not_mem_nil,or_false] at hx
  rcases hx with rfl|rfl|rfl
  · exact .inl ⟨_,rfl⟩
  · exact .inr ⟨_,by simp [M.ar.bn],rfl⟩
  · exact .inr ⟨_,by simp [M.ar.sn],rfl⟩
 | fetch s i=>
  simp only [bp,List.mem_cons,List.not_mem_nil,or_false] at hx
  rcases hx with rfl|rfl|rfl
  · exact .inl ⟨_,rfl⟩
  · exact .inr ⟨_,by simp [M.ar.sn],rfl⟩
  · exact .inr ⟨_,by simp [M.ar.bn],rfl⟩
theorem RQ {n:Nat} (h:n<10000):n.log2<1900:=by
 by_cases z:n=0
 · rw [z];decide
 · exact(Nat.log2_lt z).mpr (Nat.lt_of_lt_of_le (show n<2^14 by lia) (Nat.pow_le_pow_right (by decide) (by decide)))
noncomputable def jA (x:Str):Bool:=(decide (1≤x.length)&&(decide (x.length≤4)&&x.cps.toList.all fun c=>decide (48≤c)&&decide (c≤57)))&&(decide (x=Str.ofString "0")||decide (x.cps.toList.head? ≠ some 48))
noncomputable def N6:Sp:=fun vs H Q _=>∃(x:Str),vs=[.str x]∧x.length≤1000000∧∀H',ay H H'→Q (.bl (jA x)) H'
seal nz PS PE PT PA PI fe in
theorem M7 (T:Txt K mg):bg P w K mg base CX0 1 T.jL T.kF ["word"] N6:=by
 refine T.qy.ok (k:=0) nG (fun vs H Q E h=>?_) (fun bt A outer s H vs Q E hr h=>?_)
 · obtain⟨x,rfl,_⟩:=h
   rfl
 obtain⟨x,rfl,hx,q⟩:=h
 have nd:=nG.nd
 refine⟨_,(ag (aW (PW.pt (tu (mJ (wZ uS uS ae (aQ gf rfl T.eQ cA (aa (pv 0) af)) (fG (v:=.int 4) rfl T.tj ⟨_,rfl⟩))) (mF (mJ (dD (aQ (w6 rfl) rfl T.JM EV (aa (fB (N:=["sign"]) (caps:=[]) rfl ⟨rfl,rfl,rfl,rfl,by decide +kernel,rfl,rfl,rfl,rfl⟩ (Fy (pv 0)) (fun _ _ _ _=>dB) (fun _ _ _ _=>(sd kY kY az (pv 0) az))) af))))))) (ai (ax uT)) aE)
  (ai (ax (xm (bu bj (pv 0) az (aB _)) (kM (bu xp (aw oP (pv 0) ae (fun _ _=>rfl)) az (aB _))))))),?_⟩
 refine iI fun C hC=>?_
 walk_at "rd"
 have hz:x.length≤sizeLine:=Nat.le_trans hx (by decide)
 have el:x.cps.toList.length=x.length:=by simp [Str.length]
 have no:∀b:Bool,jA x=(false&&b)→∀H',ay H H'→Q (.bl false) H':=fun b e H' S'=>by
  have:=q H' S'
  rw [e] at this
  exact this
 refine⟨hz,bO (fun c1=>?_) (fun c1=>fT ?_)⟩
 · have c1:1≤x.length:=by have:=of_decide_eq_true c1;(clear hx hC hz el c1;omega)
   refine bO (fun c2=>?_) (fun c2=>?_)
   · have c2:¬x.length≤4:=fun z=>by
      have:decide ((x.length:Int)≤4)=true:=decide_eq_true (by (clear hx hC hz el c1 c2;lia))
      rw [this] at c2;cases c2
     exact no true (by unfold jA;rw [decide_eq_false c2];simp) H (ay.refl _)
   · have c2:x.length≤4:=by
      have:decide ((x.length:Int)≤4)=true:=by simpa using c2
      have:=of_decide_eq_true this
      (clear hx hC hz el c1 c2;omega)
     refine yL (fun i ys H'=>H'=H∧i≤x.cps.size∧ys=(x.cps.toList.take i).map (fun c=>V.bl (decide (48≤c)&&decide (c≤57)))) ⟨rfl,Nat.zero_le _,rfl⟩ (Nat.lt_of_le_of_lt c2 (by decide)) (fun i ys H' h=>?_) (fun i c ys H' ec h=>?_) (fun ys H' h p hp=>?_)
     · rw [h.2.2];simp;(clear hx hC hz el c1 c2 h;lia)
     · obtain⟨rfl,hi,rfl⟩:=h
       walk_at "rd"
       have dY:i<x.cps.size:=(Array.getElem?_eq_some_iff.mp ec).1
       have Wl:x.cps.toList[i]? = some c:=by simpa using ec
       have e:(x.cps.toList.take (i+1)).map (fun c=>V.bl (decide (48≤c)&&decide (c≤57)))=(x.cps.toList.take i).map (fun c=>V.bl (decide (48≤c)&&decide (c≤57)))++[V.bl (decide (48≤c)&&decide (c≤57))]:=by
        rw [List.take_add_one,Wl];simp
       have l1:(!decide ((Str.mk #[c]).cps.toList<(Str.ofString "0").cps.toList))=decide (48≤c):=by
        have:(Str.ofString "0").cps.toList=[48]:=by decide +kernel
        rw [this];exact wu c 48
       have l2:(!decide ((Str.ofString "9").cps.toList<(Str.mk #[c]).cps.toList))=decide (c≤57):=by
        have:(Str.ofString "9").cps.toList=[57]:=by decide +kernel
        rw [this];exact wu 57 c
       rw [l1,l2]
       refine bO (fun d=>?_) (fun d=>?_)
       · refine⟨dY,?_⟩
         rw [e,d];simp
       · refine⟨dY,?_⟩
         have d:decide (48≤c)=false:=by simpa using d
         rw [e,d];simp
     · obtain⟨rfl,_,rfl⟩:=h
       have ew:x.cps.toList.take x.cps.size=x.cps.toList:=List.take_of_length_le (by simp)
       refine⟨p,rfl,x.cps.toList.map (fun c=>decide (48≤c)&&decide (c≤57)),fD.of ?_,?_⟩
       · rw [aT,ew,List.map_map];rfl
       have S1:=bP hp (.lst ((x.cps.toList.take x.cps.size).map (fun c=>V.bl (decide (48≤c)&&decide (c≤57)))))
       refine bO (fun c3=>?_) (fun c3=>?_)
       · refine no true ?_ _ S1
         have c3:(x.cps.toList.all fun c=>decide (48≤c)&&decide (c≤57))=false:=by
          rw [List.all_map] at c3
          simpa using c3
         unfold jA
         rw [c3];simp
       · rw [hC]
         clear hC C
         walk_at "rd"
         have c3:(x.cps.toList.all fun c=>decide (48≤c)&&decide (c≤57))=true:=by
          rw [List.all_map] at c3
          simpa using c3
         have:=q _ S1
         unfold jA at this
         rw [c3,decide_eq_true c1,decide_eq_true c2] at this
         refine bO (fun c4=>?_) (fun c4=>?_)
         · rw [c4] at this;simpa using this
         · have c4:decide (x=Str.ofString "0")=false:=by simpa using c4
           rw [c4] at this
           obtain⟨c0,rest,e0⟩:∃c0 rest,x.cps.toList=c0::rest:=by
            cases hh:x.cps.toList with
            | nil=>rw [hh] at el;simp at el;omega
            | cons a r=>exact⟨a,r,rfl⟩
           rw [e0] at this ⊢
           refine⟨hz,c0,aP,?_⟩
           have e48:decide ((Str.mk #[c0])=Str.ofString "0")=decide (c0=48):=by
            have:Str.ofString "0"=⟨#[48]⟩:=by decide +kernel
            rw [this,Bool.eq_iff_iff];simp
           rw [e48]
           simpa using this
 · have c1:¬1≤x.length:=fun z=>c1 (decide_eq_true (by (clear hx hC hz el c1;lia)))
   exact no true (by unfold jA;rw [decide_eq_false c1];simp) H (ay.refl _)
theorem uW {n:Nat} (h:n<10000):jA (fU n)=true:=by
 obtain⟨f1,f2,f3,f4,_⟩:=kZ h
 have e:(fU n).length=(gY n).length:=by simp [fU,Str.length]
 have e2:(fU n).cps.toList=gY n:=by simp [fU]
 have e3:decide (fU n=Str.ofString "0")=decide (gY n=[48]):=by
  have:Str.ofString "0"=⟨([48]:List Nat).toArray⟩:=by decide +kernel
  rw [this]
  refine decide_eq_decide.mpr ⟨fun h=>?_,fun h=>?_⟩
  · have:=congrArg (fun z:Str=>z.cps.toList) h
    simpa [fU] using this
  · unfold fU;rw [h]
 unfold jA
 rw [e,e2,e3,decide_eq_true f1,decide_eq_true f2]
 have a:(gY n).all (fun c=>decide (48≤c)&&decide (c≤57))=true:=by
  rw [List.all_eq_true]
  intro c hc
  have:=f3 c hc
  simp;omega
 rw [a]
 rcases f4 with f4|f4
 · rw [decide_eq_true f4];rfl
 · rw [decide_eq_true f4];simp
noncomputable def O8 (k w:Str) (v:V):Prop:=(k=Str.ofString "name"∧bb w=true∧v = .str w)∨∃n:Nat,k=Str.ofString "number"∧w=fU n∧n<10000∧v = .int n
inductive rE:List Str→List Str→List V→Prop
 | nil:rE [] [] []
 | cons {k w:Str}{v:V}{ks ws:List Str}{vs:List V}:O8 k w v→rE ks ws vs→rE (k::ks) (w::ws) (v::vs)
theorem rE.at {ks ws:List Str}{vs:List V} (h:rE ks ws vs):∀{i:Nat}{k w:Str},ks[i]? = some k→ws[i]? = some w→∃v,vs[i]? = some v∧O8 k w v:=by
 induction h with
 | nil=>intro i k w h;simp at h
 | cons r _ ih=>
  intro i k w h1 h2
  cases i with
  | zero=>
   simp only [List.getElem?_cons_zero,Option.some.injEq] at h1 h2
   subst h1 h2
   exact⟨_,rfl,r⟩
  | succ i=>
   simp only [List.getElem?_cons_succ] at h1 h2
   obtain⟨v,e,r⟩:=ih h1 h2
   exact⟨v,by rw [List.getElem?_cons_succ];exact e,r⟩
theorem rE.len {ks ws:List Str}{vs:List V} (h:rE ks ws vs):ks.length=ws.length∧vs.length=ws.length:=by
 induction h with
 | nil=>exact⟨rfl,rfl⟩
 | cons _ _ ih=>exact⟨by simp [ih.1],by simp [ih.2]⟩
theorem xR {x:Str} (h:jA x=true):∃n,n<10000∧x=fU n:=by
 unfold jA at h
 simp only [Bool.and_eq_true,Bool.or_eq_true,decide_eq_true_eq,List.all_eq_true] at h
 have el:x.cps.toList.length=x.length:=by simp [Str.length]
 refine Hd (l:=x.cps.toList) rfl (by lia) (by lia) (fun c hc=>h.1.2.2 c hc) ?_
 rcases h.2 with z|z
 · left;rw [z];decide +kernel
 · exact .inr z
open Classical in
noncomputable def B9 (x:Str):Nat:=if h:∃n,n<10000∧x=fU n then h.choose else 0
theorem A9 {x:Str} (h:jA x=true):B9 x<10000∧x=fU (B9 x):=by
 have h':=xR h
 unfold B9
 rw [dif_pos h']
 exact h'.choose_spec
noncomputable def cQ (k x:Str):Option V:=if k=Str.ofString "name"∧bb x=true then some (.str x) else if k=Str.ofString "number"∧jA x=true then some (.int (B9 x)) else none
noncomputable def yH (n:Nat) (x:Str):Prop:=x.length≤n∧∀c∈x.cps.toList,c<16^8
theorem yH.part {n:Nat}{x y p:Str} (h:yH n x) (hp:p∈Txt.split x y):yH n p:=⟨Nat.le_trans (split_len x y p hp).1 h.1,fun c hc=>h.2 c ((split_len x y p hp).2 c hc)⟩
theorem len_app (a b:Str):(a++b).length=a.length+b.length:=by simp only [Str.length,Str.cps_append,Array.size_append]
theorem gi {n:Nat} (h:n≤1000000):n≤sizeLine:=Nat.le_trans h (by decide)
noncomputable def IF (C:Addr):Sp:=fun vs H Q E=>∃(k x:Str),vs=[.str k,.str x]∧(k.length≤10∧yH 10000 x)∧(∀v,cQ k x=some v→∀H',ay H H'→Q v H')∧(cQ k x=none→∀H',ay H H'→E (.ref C) none H')
seal nz PS PE PT PA PI fe in
theorem EG (T:Txt K mg):bg P w K mg base (CXE P w) 2 T.kl T.ka ["kind","word"] (IF T.aI):=by
 refine T.qd.G2 (k:=1) nU (fun vs H Q E h=>?_) (fun bt A outer s H vs Q E hr h L=>?_)
 · obtain⟨k,x,rfl,_⟩:=h;rfl
 have nd:=nU.nd
 have pF:=(BH (P:=P) (w:=w) (base:=base) T).mono (k:=1) (by omega)
 have xZ:=(M7 (P:=P) (w:=w) (base:=base) T).mono (k:=1) (by omega)
 obtain⟨k,x,rfl,hx,q,qE⟩:=h
 refine⟨_,(ag (aW (PW.pt (jM (aC bj (pv 0) az (aB _)) (ib (dD (ak pF hr rfl T.uL T.pj.kp T.uz .nil aG (aa (pv 1) af)))))) (ai (ax (pv 1))) aE)
  (ag (aW (PW.pt (jM (aC bj (pv 0) az (aB _)) (ib (dD (ak xZ hr rfl T.xl T.qy.kp T.yP .nil aG (aa (pv 1) af)))))) (ai (ax (cB CN rfl T.yl qZ (aa (pv 1) af)))) aE)
  (ai (iO L rfl T.kr T.kN rfl (aa (r9 (.cons az (.cons (By (pv 0)) (.cons az (.cons (qR (pv 1)) .nil))))) af))))),?_⟩
 walk_at "rd"
 have l0:(Str.empty++Str.ofString "no ").length=3:=by decide +kernel
 have l2:(Str.ofString ": ").length=2:=by decide +kernel
 obtain⟨hk,hx,Dq⟩:=hx
 have b1:(Str.empty++Str.ofString "no ").length≤sizeLine:=gi (by lia)
 have b2:k.length≤sizeLine:=gi (by (clear qE l0 l2 b1 hx;lia))
 have b3:(Str.empty++Str.ofString "no "++k).length≤sizeLine:=gi (by rw [len_app];lia)
 have b4:(Str.empty++Str.ofString "no "++k++Str.ofString ": ").length≤sizeLine:=gi (by rw [len_app,len_app];lia)
 have b5:∀z:Str,z.length≤10*x.length+2→(Str.empty++Str.ofString "no "++k++Str.ofString ": "++z).length≤sizeLine:=fun z hz=>gi (by rw [len_app,len_app,len_app];(clear b2 b3 b4 qE b1;lia))
 have nn:¬Str.ofString "number"=Str.ofString "name":=by decide +kernel
 refine bO (fun c1=>?_) (fun c1=>?_)
 · have c1:k=Str.ofString "name":=of_decide_eq_true c1
   have Rw:¬k=Str.ofString "number":=fun z=>nn (by rw [←z,c1])
   refine⟨x,rfl,by (clear b2 b3 b4 nn c1 Rw qE l0 l2 b1 hk;lia),fun H1 S1=>⟨_,rfl,?_⟩⟩
   refine bO (fun c2=>?_) (fun c2=>?_)
   · exact q _ (by unfold cQ;rw [if_pos ⟨c1,c2⟩]) H1 S1
   · rw [decide_eq_false Rw]
     exact eR ⟨b1,b2,b3,b4,Dq,by (clear b3 b4 nn c1 Rw c2 qE l0 l2 hk b2 b1;lia),fun z hz=>⟨b5 z hz,b5 z hz,by decide,qE (by unfold cQ;rw [if_neg (fun z=>c2 z.2),if_neg (fun z=>Rw z.1)]) H1 S1⟩⟩
 · have c1:¬k=Str.ofString "name":=fun z=>c1 (decide_eq_true z)
   refine bO (fun c2=>?_) (fun c2=>?_)
   · have c2:k=Str.ofString "number":=of_decide_eq_true c2
     refine⟨x,rfl,by (clear b2 b3 b4 nn c1 c2 qE l0 l2 b1 hk;lia),fun H1 S1=>⟨_,rfl,?_⟩⟩
     refine bO (fun c3=>?_) (fun c3=>?_)
     · obtain⟨n1,n2⟩:=A9 c3
       exact⟨B9 x,n2,n1,q _ (by unfold cQ;rw [if_neg (fun z=>c1 z.1),if_pos ⟨c2,c3⟩]) H1 S1⟩
     · exact⟨b1,b2,b3,b4,Dq,by (clear b3 b4 nn c1 c2 c3 qE l0 l2 hk b2 b1;lia),fun z hz=>⟨b5 z hz,b5 z hz,by decide,qE (by unfold cQ;rw [if_neg (fun z=>c1 z.1),if_neg (fun z=>c3 z.2)]) H1 S1⟩⟩
   · have c2:¬k=Str.ofString "number":=fun z=>c2 (decide_eq_true z)
     exact⟨b1,b2,b3,b4,Dq,by (clear b2 b3 b4 nn c1 c2 qE l0 l2 b1 hk;lia),fun z hz=>⟨b5 z hz,b5 z hz,by decide,qE (by unfold cQ;rw [if_neg (fun z=>c1 z.1),if_neg (fun z=>c2 z.1)]) H (ay.refl _)⟩⟩
noncomputable def fP (x:Str):Option (List Str):=
 if x=Str.ofString "take" then some [Str.ofString "name",Str.ofString "number"]
 else if x=Str.ofString "join" then some [Str.ofString "name",Str.ofString "number",Str.ofString "number",Str.ofString "number"]
 else if x=Str.ofString "put" then some [Str.ofString "number",Str.ofString "number"]
 else if x=Str.ofString "fetch" then some [Str.ofString "number",Str.ofString "number"]
 else none
theorem C4 (R:FT P w K mg) (x:Str):(∀ks,fP x=some ks→(∃t,dc (kR R.t1 R.t2 R.t3 R.t4) (.inr x)=some (.ref t)∧vv K t (ks.map V.str))∧2≤ks.length∧ks.length≤4∧∀k∈ks,k.length≤10)∧(fP x=none→dc (kR R.t1 R.t2 R.t3 R.t4) (.inr x)=none):=by
 have ln:(Str.ofString "name").length≤10:=by decide +kernel
 have lm:(Str.ofString "number").length≤10:=by decide +kernel
 have n1:¬Str.ofString "take"=Str.ofString "join":=by decide +kernel
 have n2:¬Str.ofString "take"=Str.ofString "put":=by decide +kernel
 have n3:¬Str.ofString "take"=Str.ofString "fetch":=by decide +kernel
 have n4:¬Str.ofString "join"=Str.ofString "put":=by decide +kernel
 have n5:¬Str.ofString "join"=Str.ofString "fetch":=by decide +kernel
 have n6:¬Str.ofString "put"=Str.ofString "fetch":=by decide +kernel
 unfold fP
 by_cases h1:x=Str.ofString "take"
 · subst h1
   rw [if_pos rfl]
   refine⟨fun ks e=>?_,fun e=>by cases e⟩
   cases e
   exact⟨⟨R.t1,by simp [kR,dc],R.k1⟩,by decide,by decide,by simp [ln,lm]⟩
 rw [if_neg h1]
 by_cases h2:x=Str.ofString "join"
 · subst h2
   rw [if_pos rfl]
   refine⟨fun ks e=>?_,fun e=>by cases e⟩
   cases e
   exact⟨⟨R.t2,by simp [kR,dc,n1],R.k2⟩,by decide,by decide,by simp [ln,lm]⟩
 rw [if_neg h2]
 by_cases h3:x=Str.ofString "put"
 · subst h3
   rw [if_pos rfl]
   refine⟨fun ks e=>?_,fun e=>by cases e⟩
   cases e
   exact⟨⟨R.t3,by simp [kR,dc,n2,n4],R.k3⟩,by decide,by decide,by simp [lm]⟩
 rw [if_neg h3]
 by_cases h4:x=Str.ofString "fetch"
 · subst h4
   rw [if_pos rfl]
   refine⟨fun ks e=>?_,fun e=>by cases e⟩
   cases e
   exact⟨⟨R.t4,by simp [kR,dc,n3,n5,n6],R.k4⟩,by decide,by decide,by simp [lm]⟩
 rw [if_neg h4]
 refine⟨fun ks e=>(by cases e),fun _=>?_⟩
 have m1:¬Str.ofString "take"=x:=fun z=>h1 z.symm
 have m2:¬Str.ofString "join"=x:=fun z=>h2 z.symm
 have m3:¬Str.ofString "put"=x:=fun z=>h3 z.symm
 have m4:¬Str.ofString "fetch"=x:=fun z=>h4 z.symm
 simp [kR,dc,m1,m2,m3,m4]
noncomputable def d5 (x:Str) (ws:List Str):Option (List V):=match fP x with
 | none=>none
 | some ks=>if ws.length=ks.length then (eS (fun p:Str×Str=>cQ p.1 p.2) (ks.zip ws)).map (V.str x :: ·) else none
noncomputable def eX (t:Str):Option (List V):=match Txt.split t (Str.ofString " ") with
 | []=>none
 | x::ws=>d5 x ws
noncomputable def FG (C:Addr):Sp:=fun vs H Q E=>∃(t:Str),vs=[.str t]∧yH 10000 t∧(∀us,eX t=some us→∀p H',ay H H'→H' p=some (.tup us)→Q (.ref p) H')∧(eX t=none→∀H',ay H H'→E (.ref C) none H')
seal nz PS PE PT PA PI fe in
theorem CQ (T:Txt K mg) (R:FT P w K mg):bg P w K mg base (CXE P w) 3 T.kB T.kh ["text"] (FG T.aI):=by
 refine T.ql.G2 (k:=2) ng (fun vs H Q E h=>?_) (fun bt A outer s H vs Q E hr h L=>?_)
 · obtain⟨t,rfl,_⟩:=h;rfl
 have nd:=ng.nd
 have xw:=EG (P:=P) (w:=w) (base:=base) T
 obtain⟨t,rfl,lt,q,qE⟩:=h
 refine⟨_,(ag (aA (i:=1) nd rfl (Or.inl rfl) (lV PySem.F.plainAttrs_str PySem.F.slot_str_split PySem.F.type_str_split wU (pv 0) (aa az af)))
  (ag (aW (wy (Cm R.d rfl R.m (aw bQ (pv 1) ae (fun _ _=>rfl)))) (ai (iO L rfl T.kr T.kN rfl (aa (r9 (.cons az (.cons (qR (pv 0)) .nil))) af))) aE)
  (ag (aA (i:=2) nd rfl (Or.inl rfl) (Hz R.d rfl R.m (aw bQ (pv 1) ae (fun _ _=>rfl)) (fun _ _=>rfl)))
  (ag (aW (aC xp (aQ qQ rfl T.eQ cA (aa (pv 1) af)) (ao bI ae (aQ eT rfl T.eQ cA (aa (pv 2) af))) (aB _)) (ai (iO L rfl T.kr T.kN rfl (aa (r9 (.cons az (.cons (qR (pv 0)) .nil))) af))) aE)
  (ai (ax (ao nF (bN (aa (aw bQ (pv 1) ae (fun _ _=>rfl)) af)) (cB um rfl T.A3 xP (aa (Cy L (K:=K) (N:=["kind","word"]) (caps:=[]) rfl rfl ⟨rfl,rfl,rfl,rfl,rfl,by decide +kernel,rfl,rfl,rfl,rfl,rfl⟩ (Ay (K:=K) rfl rfl T.J7 (aa (pv 2) (aa (fg LF (pv 1) (d6 ae) lF) af))) (fun _ _ _ _=>dB) (fun _ _ _ _=>(ak xw hr rfl T.wN T.qd.kp T.ym .nil JS (aa (pv 0) (aa (pv 1) af))))) af))))))))),?_⟩
 walk_at "rd"
 obtain⟨x,ws,es⟩:∃x ws,Txt.split t (Str.ofString " ")=x::ws:=by
  cases e:Txt.split t (Str.ofString " ") with
  | nil=>exact absurd e (rz _ _)
  | cons x ws=>exact⟨x,ws,rfl⟩
 have er:eX t=d5 x ws:=by unfold eX;rw [es]
 rw [er] at qE
 rw [er] at q
 have lw:∀z∈ws,yH 10000 z:=fun z hz=>lt.part (y:=Str.ofString " ") (by rw [es];exact List.mem_cons_of_mem _ hz)
 have qH:=uC t (Str.ofString " ")
 rw [es,List.length_cons] at qH
 rw [es]
 obtain⟨hx,Dq⟩:=lt
 obtain⟨ksS,G6⟩:=C4 R x
 have el:(Str.ofString " ").length≠0:=by decide +kernel
 have l0:(Str.empty++Str.ofString "no deed: ").length=9:=by decide +kernel
 have l1:(Str.empty++Str.ofString "too many parts or too few: ").length=27:=by decide +kernel
 have b0:∀z:Str,z.length≤10*t.length+2→(Str.empty++Str.ofString "no deed: "++z).length≤sizeLine:=fun z hz=>gi (by rw [len_app];(clear qE es er G6 el qH l1;lia))
 have b1:∀z:Str,z.length≤10*t.length+2→(Str.empty++Str.ofString "too many parts or too few: "++z).length≤sizeLine:=fun z hz=>gi (by rw [len_app];(clear qE es er G6 el qH l0;lia))
 refine⟨el,by lia,aM.mk fun p1 H1 S1 n1 e1=>?_⟩
 rw [List.map_cons] at e1
 refine⟨p1,rfl,_,aN e1,_,aP,.inr x,rfl,?_⟩
 cases hk:fP x with
 | none=>
  rw [G6 hk]
  exact fT ⟨gi (by lia),Dq,by lia,fun z hz=>⟨b0 z hz,b0 z hz,by decide,qE (by unfold d5;rw [hk]) H1 S1⟩⟩
 | some ks=>
  obtain⟨⟨tk,ht,kt⟩,k2,k4,PB⟩:=ksS ks hk
  rw [ht]
  refine eR ⟨p1,rfl,_,aN e1,_,aP,.inr x,rfl,_,ht,p1,rfl,_,aN e1,tk,rfl,_,.inr (kt.sq H1),?_⟩
  by_cases hl:ws.length=ks.length
  · have lk:(((V.str x::List.map V.str ws).length:Nat):Int)=1+(((ks.map V.str).length:Nat):Int):=by rw [List.length_cons,List.length_map,List.length_map];(clear qE es er qH hx G6 el l0 l1 n1 e1 hk ht k2 k4;lia)
    rw [decide_eq_true lk]
    have CM:iB (V.str x::List.map V.str ws) (some 1) none=List.map V.str ws:=pT (xs:=V.str x::List.map V.str ws) (p:=1) (by simp)
    have K1:d5 x ws=(eS (fun p:Str×Str=>cQ p.1 p.2) (ks.zip ws)).map (V.str x :: ·):=by unfold d5;rw [hk];simp only;rw [if_pos hl]
    have lz:(ks.zip ws).length=ks.length:=by rw [List.length_zip];(clear qE es er qH hx G6 el l0 l1 n1 e1 hk ht k2 k4 K1 CM lk;lia)
    refine eR ⟨p1,rfl,_,aN e1,_,aP,by decide,aM.mk fun p2 H2 S2 n2 e2=>⟨p1,rfl,_,S2 _ _ e1,aM.mk fun p3 H3 S3 n3 e3=>⟨_,_,⟨rfl,rfl⟩,?_⟩⟩⟩
    rw [CM] at e3
    refine qf.comp (p:=.t tk) (q:=.l p3) (kt.sq H3) (fD.of e3) (by rw [List.length_map,List.length_map];(clear qE es er qH hx G6 el l0 l1 n1 e1 hk K1 lz n2 e2 n3 e3 ht k2 k4 CM lk;lia)) (fun i ys H'=>eS (fun p:Str×Str=>cQ p.1 p.2) ((ks.zip ws).take i)=some ys) rfl (by rw [List.length_map];(clear qE es er qH hx G6 el l0 l1 n1 e1 hk K1 lz n2 e2 n3 e3 hl lk CM ht k2;lia)) (fun i ys H' h=>by have:=ki h;rw [List.length_take] at this;(clear qE es er qH hx G6 el l0 l1 n1 e1 hk ht k2 k4 hl lk CM K1 lz n2 e2 n3 e3 h;lia)) (fun i y z ys H' ex ez S' h=>?_) (fun p4 ys H4 H5 S4 S5 h n5 e5=>?_)
    · obtain⟨Hx,_,_,h⟩:=h
      rw [List.getElem?_map] at ex ez
      obtain⟨k,ek,rfl⟩:=Option.map_eq_some_iff.mp ex
      obtain⟨z,ew,rfl⟩:=Option.map_eq_some_iff.mp ez
      have ei:(ks.zip ws)[i]? = some (k,z):=List.getElem?_zip_eq_some.mpr ⟨ek,ew⟩
      walk_at "rd"
      refine⟨_,rfl,_,rfl,k,z,rfl,⟨PB k (List.mem_of_getElem? ek),lw z (List.mem_of_getElem? ew)⟩,fun v hv H6 S6=>⟨S'.trans S6,uY h ei hv⟩,fun hn H6 S6=>qE (by rw [K1,oX ei hn];rfl) H6 ?_⟩
      exact(((S1.trans S2).trans S3).trans S').trans S6
    · rw [List.length_map,←lz,List.take_length] at h
      have l5:=ki h
      refine⟨p4,rfl,_,e5,aM.mk fun p6 H6 S6 n6 e7=>⟨p2,rfl,p6,rfl,_,S6 _ _ (S5 _ _ (S4 _ _ (S3 _ _ e2))),_,e7,aZ (by rw [List.length_singleton];(clear hx G6 el l0 l1 n1 e1 hk n2 e2 n3 e3 n6 e7 qE es ht k2 lk CM h n5 er hl K1 e5;lia)),fun p7 H7 S7 e8=>?_⟩⟩
      exact q _ (by rw [K1,h];rfl) p7 H7 ((((((S1.trans S2).trans S3).trans S4).trans S5).trans S6).trans S7) e8
  · have lk:¬(((V.str x::List.map V.str ws).length:Nat):Int)=1+(((ks.map V.str).length:Nat):Int):=by rw [List.length_cons,List.length_map,List.length_map];(clear qE es er qH hx G6 el l0 l1 n1 e1 hk ht k2 k4;lia)
    rw [decide_eq_false lk]
    exact fT ⟨gi (by lia),Dq,by lia,fun z hz=>⟨b1 z hz,b1 z hz,by decide,qE (by unfold d5;rw [hk];simp only;rw [if_neg hl]) H1 S1⟩⟩
noncomputable def Bd (t:Str):Option (List (List V)):=eS eX (Txt.split t (Str.ofString "; "))
noncomputable def dV:V→D
 | .str x=>.str x
 | .int i=>.int i
 | _=>.non
noncomputable def DV (us:List V):D:=.tup (us.map dV)
noncomputable def iY (t:Str):Option (List (List V)):=if t=Str.ofString "" then some [] else Bd t
noncomputable def Gb (C:Addr):Sp:=fun vs H Q E=>∃(t:Str),vs=[.str t]∧yH 10000 t∧(∀rows,iY t=some rows→∀p rs H',ay H H'→H' p=some (.lst rs)→aR H' (rows.map DV) rs→Q (.ref p) H')∧(iY t=none→∀H',ay H H'→E (.ref C) none H')
noncomputable def KW (us:List V):Prop:=∀u∈us,(∃x,u = .str x)∨∃i,u = .int i
theorem Hw {H:Hp}{us:List V}{p:Addr} (h:KW us) (e:H p=some (.tup us)):Dt H (DV us) (.ref p):=by
 refine Dt.tup e ?_
 clear e
 induction us with
 | nil=>exact .nil
 | cons u us ih=>
  refine .cons ?_ (ih fun v hv=>h v (by simp [hv]))
  rcases h u (by simp) with ⟨x,rfl⟩|⟨i,rfl⟩
  · exact bh.mpr rfl
  · exact aV.mpr rfl
theorem xq {k x:Str}{v:V} (h:cQ k x=some v):(∃x,v = .str x)∨∃i,v = .int i:=by
 unfold cQ at h
 split at h
 · cases h;exact .inl ⟨_,rfl⟩
 · split at h
   · cases h;exact .inr ⟨_,rfl⟩
   · cases h
theorem xT {α β:Type}{f:α→Option β}{Pp:β→Prop}:∀{l:List α}{ys:List β},eS f l=some ys→(∀a b,f a=some b→Pp b)→∀y∈ys,Pp y
 | [],ys,h,_,y,hy=>by cases h;simp at hy
 | a::l,ys,h,hf,y,hy=>by
  simp only [eS] at h
  split at h
  · rename_i b bs e1 e2
    cases h
    rcases List.mem_cons.mp hy with rfl|hy
    · exact hf _ _ e1
    · exact xT e2 hf y hy
  · cases h
theorem xy {t:Str}{us:List V} (h:eX t=some us):KW us∧us.length≤5:=by
 unfold eX at h
 split at h
 · cases h
 · rename_i x ws _
   unfold d5 at h
   split at h
   · cases h
   · rename_i ks hk
     split at h
     · rename_i hl
       obtain⟨vs,hv,rfl⟩:=Option.map_eq_some_iff.mp h
       have l4:ks.length≤4:=by
        unfold fP at hk
        split at hk
        · cases hk;decide
        · split at hk
          · cases hk;decide
          · split at hk
            · cases hk;decide
            · split at hk
              · cases hk;decide
              · cases hk
       have ll:=ki hv
       rw [List.length_zip] at ll
       refine⟨fun u hu=>?_,by rw [List.length_cons];lia⟩
       rcases List.mem_cons.mp hu with rfl|hu
       · exact .inl ⟨_,rfl⟩
       · exact xT hv (fun a b e=>xq e) u hu
     · cases h
seal nz PS PE PT PA PI fe in
theorem Dm (T:Txt K mg) (R:FT P w K mg):bg P w K mg base (CXE P w) 4 T.ml T.mS ["text"] (Gb T.aI):=by
 refine T.sf.G2 (k:=3) pZ (fun vs H Q E h=>?_) (fun bt A outer s H vs Q E hr h L=>?_)
 · obtain⟨t,rfl,_⟩:=h;rfl
 have nd:=pZ.nd
 have yd:=CQ (P:=P) (w:=w) (base:=base) T R
 obtain⟨t,rfl,lt,q,qE⟩:=h
 refine⟨_,(ag (aW (aC bj (pv 0) az (aB _)) (ai (ax (br af))) aE)
  (ai (ax (Fe L (N:=["deed"]) (caps:=[]) rfl ⟨rfl,rfl,rfl,rfl,by decide +kernel,rfl,rfl,rfl,rfl⟩ (AE (lV PySem.F.plainAttrs_str PySem.F.slot_str_split PySem.F.type_str_split wU (pv 0) (aa az af))) (fun _ _ _ _=>dB) (fun _ _ _ _=>(ak yd hr rfl T.yw T.ql.kp T.xV .nil JS (aa (pv 0) af))))))),?_⟩
 walk_at "rd"
 refine bO (fun c=>?_) (fun c=>?_)
 · have c:t=Str.ofString "":=of_decide_eq_true c
   exact⟨Nat.zero_le _,aM.mk fun p1 H1 S1 n1 e1=>q [] (by unfold iY;rw [if_pos c]) p1 [] H1 S1 e1 .nil⟩
 · have c:¬t=Str.ofString "":=fun z=>c (decide_eq_true z)
   have er:iY t=Bd t:=by unfold iY;rw [if_neg c]
   rw [er] at q
   rw [er] at qE
   have el:(Str.ofString "; ").length≠0:=by decide +kernel
   have qH:=uC t (Str.ofString "; ")
   have hx:=lt.1
   refine⟨el,by lia,aM.mk fun p1 H1 S1 n1 e1=>?_⟩
   refine WalkL.comp e1 (fun i ys H'=>∃rows,eS eX ((Txt.split t (Str.ofString "; ")).take i)=some rows∧aR H' (rows.map DV) ys) ⟨[],rfl,.nil⟩ (by rw [List.length_map];lia) (fun i ys H' h=>?_) (fun i y ys H' ex S' h=>?_) (fun p2 ys H2 H3 S2 S3 h n3 e3=>?_)
   · obtain⟨rows,h1,h2⟩:=h
     have a1:=ki h1
     have a2:=h2.length
     rw [List.length_map] at a2
     rw [List.length_take] at a1
     (clear qE c er el qH hx n1 e1 h1;lia)
   · rw [List.getElem?_map] at ex
     obtain⟨z,ez,rfl⟩:=Option.map_eq_some_iff.mp ex
     obtain⟨rows,h1,h2⟩:=h
     walk_at "rd"
     refine⟨z,rfl,lt.part (y:=Str.ofString "; ") (List.mem_of_getElem? ez),fun us hu p H4 S4 e4=>⟨S'.trans S4,rows++[us],uY h1 ez hu,?_⟩,fun hn H4 S4=>qE (oX ez hn) H4 ((S1.trans S').trans S4)⟩
     rw [List.map_append]
     exact(h2.same S4).append (.one (Hw (xy hu).1 e4))
   · obtain⟨rows,h1,h2⟩:=h
     rw [List.length_map,List.take_length] at h1
     exact q rows h1 p2 ys H3 ((S1.trans S2).trans S3) e3 (h2.same S3)
noncomputable def Jl (row:List L2.ar):List V:=[.int (cnt (Str.ofString "take") row),.int (cnt (Str.ofString "join") row),.int (cnt (Str.ofString "put") row),.int (cnt (Str.ofString "fetch") row)]
noncomputable def QP:Sp:=fun vs H Q _=>∃(row:List L2.ar) (pr:Addr) (rs:List V),vs=[.ref pr]∧H pr=some (.lst rs)∧aR H (row.map cD) rs∧row.length≤1400∧∀p H',ay H H'→H' p=some (.tup (Jl row))→Q (.ref p) H'
seal nz PS PE PT PA PI fe in
theorem MI (T:Txt K mg):bg P w K mg base CX0 1 T.pL T.oF ["row"] QP:=by
 refine T.uA.ok (k:=0) tq (fun vs H Q E h=>?_) (fun bt A outer s H vs Q E hr h=>?_)
 · obtain⟨row,pr,rs,rfl,_⟩:=h
   rfl
 obtain⟨row,pr,rs,rfl,er,dr,hl,q⟩:=h
 have nd:=tq.nd
 refine⟨_,(ag (aA (i:=1) nd rfl (Or.inr rfl) (fB (N:=["deed"]) (caps:=[]) rfl ⟨rfl,rfl,rfl,rfl,by decide +kernel,rfl,rfl,rfl,rfl⟩ (AE (pv 0)) (fun _ _ _ _=>dB) (fun _ _ _ _=>(aw bQ (pv 0) ae (fun _ _=>rfl)))))
  (ai (ax (cB um rfl T.A3 xP (aa (fB (N:=["kind","kinds"]) (caps:=[1]) rfl ⟨rfl,rfl,rfl,rfl,by decide +kernel,rfl,rfl,rfl,rfl⟩ (RF (bN (aa az (aa az (aa az (aa az af)))))) (fun _ _ _ _=>dB) (fun _ _ _ _=>(FK (K:=K) rfl PySem.F.plainAttrs_list PySem.F.slot_list_count PySem.F.type_list_count C8 (pv 1) (aa (pv 0) af)))) af))))),?_⟩
 refine iI fun C hC=>?_
 walk_at "rd"
 have lr:=dr.length
 rw [List.length_map] at lr
 refine WalkL.comp er (fun i ys H'=>ys=((row.take i).map Ax).map V.str) rfl (by lia) (fun i ys H' h=>by rw [h];simp;(clear er hl hC lr h;lia)) (fun i x ys H' ex S' h=>?_) (fun p1 ys H1 H2 S1 S2 h n2 e2=>?_)
 · have hi:i<row.length:=by have:=(List.getElem?_eq_some_iff.mp ex).1;lia
   have e0:row[i]? = some row[i]:=List.getElem?_eq_getElem hi
   obtain⟨y,hy,dy⟩:=aR.fY dr e0
   rw [ex] at hy;cases hy
   generalize row[i]=d at e0 dy
   obtain⟨b,rfl,eb⟩:=fF (dy.same S')
   obtain⟨r0,ev⟩:=HP d
   rw [ev] at eb
   walk_at "rd"
   refine⟨_,aj eb,_,aP,S',?_⟩
   rw [h,List.take_add_one,e0];simp
 · rw [lr,List.take_length] at h
   rw [h] at e2
   rw [hC]
   clear hC C
   walk_at "rd"
   have cw:∀x:Str,((row.map Ax).countP fun y=>decide (y=x))=cnt x row:=fun x=>by rw [List.countP_map];rfl
   refine⟨by decide,aM.mk fun p3 H3 S3 n3 e3=>?_⟩
   refine lX.comp e3 (fun i ys H'=>ys=(Jl row).take i) rfl (by decide) (fun i ys H' h=>by rw [h,List.length_take];(clear er hl lr n2 e2 n3 e3 h;lia)) (fun i x ys H' ex S' h=>?_) (fun p4 ys H4 H5 S4 S5 h n5 e5=>?_)
   · have Am:=S' _ _ (S3 _ _ e2)
     have hi:i<4:=by have:=(List.getElem?_eq_some_iff.mp ex).1;simpa using this
     walk_at "rd"
     rcases (show i=0∨i=1∨i=2∨i=3 by (clear er hl lr n2 e2 n3 h Am ex;lia)) with rfl|rfl|rfl|rfl
     all_goals
      cases ex
      refine⟨o1 Am,_,_,rfl,Am,S',?_⟩
      rw [cw,h];rfl
   · have h:ys=Jl row:=h
     rw [h] at e5
     exact⟨p4,rfl,_,e5,aM.mk fun p6 H6 S6 n6 e6=>q p6 H6 (((((S1.trans S2).trans S3).trans S4).trans S5).trans S6) e6⟩
theorem B6 {H:Hp}{a b c d:Int}{v:V} (h:Dt H (Ks a b c d) v):∃p,v = .ref p∧H p=some (.tup [.int a,.int b,.int c,.int d]):=by
 obtain⟨p,vs,rfl,e,h⟩:=fZ.mp h
 obtain⟨v1,r,rfl,h1,h⟩:=aY.mp h
 obtain⟨v2,r,rfl,h2,h⟩:=aY.mp h
 obtain⟨v3,r,rfl,h3,h⟩:=aY.mp h
 obtain⟨v4,r,rfl,h4,h⟩:=aY.mp h
 rw [fJ.mp h,aV.mp h1,aV.mp h2,aV.mp h3,aV.mp h4] at e
 exact⟨p,rfl,e⟩
noncomputable def iP (t:L2.Tree) (k:Nat) (row:List L2.ar):List Int:=[(cnt (Str.ofString "take") row:Int) - (nK t+1:Nat),(cnt (Str.ofString "join") row:Int) - nK t,(cnt (Str.ofString "put") row:Int) - (nu t k).length,(cnt (Str.ofString "fetch") row:Int) - (nu t k).length]
theorem HV {t:L2.Tree}{k:Nat}{row:List L2.ar} (hlen:t.lv.length≤32) (dC:row.length≤1400):∀j∈iP t k row,j.natAbs<10000:=fun j hj=>by
 have cl:∀x,cnt x row≤1400:=fun x=>Nat.le_trans List.countP_le_length dC
 have nk:=sO t
 have mk:(nu t k).length≤1000:=by
  have:=List.length_filter_le (Fl k) (t.wk [])
  have w:=t.vk []
  have e:(nu t k).length=((t.wk []).filter (Fl k)).length:=List.length_map ..
  (clear dC nk;lia)
 simp only [iP,List.mem_cons,List.not_mem_nil,or_false] at hj
 have c1:=cl (Str.ofString "take")
 have c2:=cl (Str.ofString "join")
 have c3:=cl (Str.ofString "put")
 have c4:=cl (Str.ofString "fetch")
 rcases hj with rfl|rfl|rfl|rfl<;>(clear dC;omega)
theorem IB {l:List Int} (l4:l.length=4) (bd:∀j∈l,j.natAbs<10000):((l.map df).map (·.length)).sum≤8000∧(Txt.join (Str.ofString " ") (l.map df)).length≤9000:=by
 have il:∀j∈l,(df j).length≤2000:=fun j hj=>by
  have:=RQ (bd j hj)
  have:=PyProof.Rows.int_text_len_1921 (i:=j) (by lia)
  unfold df;lia
 have BX:((l.map df).map (·.length)).sum≤8000:=by
  have h4:∀l:List Int,(∀j∈l,(df j).length≤2000)→((l.map df).map (·.length)).sum≤2000*l.length:=by
   intro l
   induction l with
   | nil=>intro _;simp
   | cons a l ih=>
    intro h
    have a1:=h a (by simp)
    have a2:=ih fun j hj=>h j (by simp [hj])
    simp only [List.map_cons,List.sum_cons,List.length_cons] at a2 ⊢
    (clear l4 ih;lia)
  have:=h4 _ il
  lia
 refine⟨BX,?_⟩
 have e:(Txt.join (Str.ofString " ") (l.map df)).cps.toList=jn [32] ((l.map df).map fun z=>z.cps.toList):=by
  unfold Txt.join
  rw [StrLaws.glued_eq_join,gR,Ca]
 have h1:=vf [32] ((l.map df).map fun z=>z.cps.toList)
 rw [←e] at h1
 have h3:(((l.map df).map fun z=>z.cps.toList).map List.length)=(l.map df).map (·.length):=by rw [List.map_map];rfl
 rw [h3] at h1
 have h5:(Txt.join (Str.ofString " ") (l.map df)).cps.toList.length=(Txt.join (Str.ofString " ") (l.map df)).length:=by simp [Str.length]
 simp only [List.length_cons,List.length_nil,List.length_map,l4] at h1
 (clear l4 e h3;lia)
theorem xb (n:Nat):1≤(gY n).length:=by
 by_cases c:n<10
 · rw [dU c];simp
 · rw [bZ (by omega)];simp
theorem EW:∀(n m:Nat),gY n=gY m→n=m:=by
 intro n
 induction n using Nat.strongRecOn with
 | ind n ih=>
  intro m h
  by_cases c1:n<10
  · by_cases c2:m<10
    · rw [dU c1,dU c2] at h
      simp at h;omega
    · rw [dU c1,bZ (by omega)] at h
      have h2:=congrArg List.length h
      have:=xb (m / 10)
      simp only [List.length_singleton,List.length_append] at h2;lia
  · by_cases c2:m<10
    · rw [dU c2,bZ (by omega)] at h
      have h2:=congrArg List.length h
      have:=xb (n / 10)
      simp only [List.length_singleton,List.length_append] at h2;lia
    · rw [bZ (by omega),bZ (n:=m) (by omega)] at h
      obtain⟨h1,h2⟩:=List.append_inj' h rfl
      have h3:=ih (n / 10) (by lia) (m / 10) h1
      simp at h2
      lia
theorem Gg {n m:Nat} (h:fU n=fU m):n=m:=by
 have:=congrArg (fun z:Str=>z.cps.toList) h
 exact EW n m (by simpa [fU] using this)
theorem FC {n:Nat} (h:n<10000):B9 (fU n)=n:=by
 have:=(A9 (uW h)).2
 exact(Gg this).symm
theorem uG {x:Str} (h:bb x=true):cQ (Str.ofString "name") x=some (.str x):=by unfold cQ;rw [if_pos ⟨rfl,h⟩]
theorem Pu:Str.ofString "number"≠Str.ofString "name":=by decide +kernel
theorem eg {i:Int} (h:0≤i∧i<10000):cQ (Str.ofString "number") (df i)=some (.int i):=by
 obtain⟨n,rfl⟩:∃n:Nat,i=n:=⟨i.toNat,by lia⟩
 have hn:n<10000:=by omega
 rw [rW]
 unfold cQ
 rw [if_neg (fun z=>Pu z.1),if_pos ⟨rfl,uW hn⟩,FC hn]
theorem Jy {d:L2.ar} (h:yW d):eX (bT d)=some (bp d):=by
 unfold eX
 rw [zH h]
 have b:=h.1
 have n:=h.2
 cases d with
 | take x i=>
  have e1:=uG (n x rfl)
  have e2:=eg (b i (by simp [M.ar.bn]))
  have ek:fP (Str.ofString "take")=some [Str.ofString "name",Str.ofString "number"]:=by decide +kernel
  simp only [cL,d5,ek]
  simp [eS,e1,e2,bp]
 | join f i j l=>
  have e1:=uG (n f rfl)
  have e2:=eg (b i (by simp [M.ar.bn]))
  have e3:=eg (b j (by simp [M.ar.bn]))
  have e4:=eg (b l (by simp [M.ar.bn]))
  have ek:fP (Str.ofString "join")=some [Str.ofString "name",Str.ofString "number",Str.ofString "number",Str.ofString "number"]:=by decide +kernel
  simp only [cL,d5,ek]
  simp [eS,e1,e2,e3,e4,bp]
 | put i s=>
  have e2:=eg (b i (by simp [M.ar.bn]))
  have e3:=eg (b s (by simp [M.ar.sn]))
  have ek:fP (Str.ofString "put")=some [Str.ofString "number",Str.ofString "number"]:=by decide +kernel
  simp only [cL,d5,ek]
  simp [eS,e2,e3,bp]
 | fetch s i=>
  have e2:=eg (b i (by simp [M.ar.bn]))
  have e3:=eg (b s (by simp [M.ar.sn]))
  have ek:fP (Str.ofString "fetch")=some [Str.ofString "number",Str.ofString "number"]:=by decide +kernel
  simp only [cL,d5,ek]
  simp [eS,e2,e3,bp]
theorem An {row:List L2.ar} (h:row≠[]):d9 row≠Str.ofString "":=fun e=>by
 obtain⟨d,r,rfl⟩:∃d r,row=d::r:=by
  cases row with
  | nil=>exact absurd rfl h
  | cons d r=>exact⟨d,r,rfl⟩
 have e1:(d9 (d::r)).cps.toList=[]:=by rw [e];decide +kernel
 have e2:(d9 (d::r)).cps.toList=jn [59,32] (((d::r).map bT).map fun z=>z.cps.toList):=by
  unfold d9 Txt.join
  rw [StrLaws.glued_eq_join,gR,HZ]
 have e3:(bT d).cps.toList=jn [32] ((cL d).map fun z=>z.cps.toList):=by
  unfold bT Txt.join
  rw [StrLaws.glued_eq_join,gR,Ca]
 have e4:(bT d).cps.toList≠[]:=by
  rw [e3]
  cases d<;>simp [cL,jn]
 rw [e2] at e1
 cases r with
 | nil=>exact e4 e1
 | cons a r=>simp only [List.map_cons,jn,List.append_eq_nil_iff] at e1;exact e4 e1.1.1
theorem Fd {row:List L2.ar} (h:∀d∈row,yW d):eS eX (row.map bT)=some (row.map bp):=by
 induction row with
 | nil=>rfl
 | cons d r ih=>
  have h1:=Jy (h d (by simp))
  have h2:=ih fun d hd=>h d (by simp [hd])
  simp only [List.map_cons,eS,h1,h2]
theorem E5 {row:List L2.ar} (h:∀d∈row,yW d):iY (d9 row)=some (row.map bp):=by
 unfold iY
 by_cases h0:row=[]
 · subst h0
   rw [if_pos (by decide +kernel)];rfl
 · rw [if_neg (An h0)]
   unfold Bd
   rw [Ck h0 h,Fd h]
theorem vO {s:List Nat}:∀{l:List (List Nat)}{c:Nat},c∈jn s l→c∈s∨∃z∈l,c∈z
 | [],c,h=>by simp [jn] at h
 | [a],c,h=>.inr ⟨a,by simp,h⟩
 | a::b::l,c,h=>by
  simp only [jn,List.mem_append] at h
  rcases h with (h|h)|h
  · exact .inr ⟨a,by simp,h⟩
  · exact .inl h
  · rcases vO h with h|⟨z,hz,h⟩
    · exact .inl h
    · exact .inr ⟨z,List.mem_cons_of_mem _ hz,h⟩
theorem om {α β:Type}{f:α→Option β}:∀{l:List α}{ys:List β},eS f l=some ys→∀a∈l,∃b,f a=some b
 | [],_,_,a,ha=>by simp at ha
 | x::l,ys,h,a,ha=>by
  unfold eS at h
  split at h
  · rename_i b bs e1 e2
    rcases List.mem_cons.mp ha with rfl|ha
    · exact⟨b,e1⟩
    · exact om e2 a ha
  · cases h
theorem C1 {k x:Str}{v:V} (h:cQ k x=some v):∀c∈x.cps.toList,c≠59:=by
 unfold cQ at h
 split at h
 · rename_i c;intro z hz;have:=(gD c.2).2.2 z hz;lia
 · split at h
   · rename_i c
     obtain⟨n,hn,rfl⟩:=xR c.2
     intro z hz
     have:=(kZ hn).2.2.1 z (by simpa [fU] using hz)
     lia
   · cases h
theorem AR (x y:Str):x.cps.toList=jn y.cps.toList ((Txt.split x y).map fun z=>z.cps.toList):=by
 have:=StrLaws.join_split x y
 rw [←gR,this]
theorem Ih {p:Str}{us:List V} (h:eX p=some us):p.cps.toList≠[]∧∀c∈p.cps.toList,c≠59:=by
 have hc:=AR p (Str.ofString " ")
 unfold eX at h
 cases e:Txt.split p (Str.ofString " ") with
 | nil=>rw [e] at h;cases h
 | cons x ws=>
  rw [e] at h hc
  simp only [d5] at h
  cases hk:fP x with
  | none=>rw [hk] at h;cases h
  | some ks=>
   rw [hk] at h
   simp only at h
   by_cases hl:ws.length=ks.length
   · rw [if_pos hl] at h
     cases ho:eS (fun p:Str×Str=>cQ p.1 p.2) (ks.zip ws) with
     | none=>rw [ho] at h;cases h
     | some ys=>
      have hx:x.cps.toList≠[]∧∀c∈x.cps.toList,c≠59:=by
       have:x=Str.ofString "take"∨x=Str.ofString "join"∨x=Str.ofString "put"∨x=Str.ofString "fetch":=by
        unfold fP at hk
        split at hk
        · exact .inl ‹_›
        · split at hk
          · exact .inr (.inl ‹_›)
          · split at hk
            · exact .inr (.inr (.inl ‹_›))
            · split at hk
              · exact .inr (.inr (.inr ‹_›))
              · cases hk
       rcases this with rfl|rfl|rfl|rfl<;>decide +kernel
      have hw:∀w∈ws,∀c∈w.cps.toList,c≠59:=fun w hw=>by
       obtain⟨i,hi,rfl⟩:=List.mem_iff_getElem.mp hw
       have hz:(ks[i]'(by lia),ws[i])∈ks.zip ws:=List.mem_of_getElem? (i:=i) (List.getElem?_zip_eq_some.mpr ⟨List.getElem?_eq_getElem (by lia),List.getElem?_eq_getElem hi⟩)
       obtain⟨v,hv⟩:=om ho _ hz
       exact C1 hv
      rw [hc]
      refine⟨?_,fun c hc=>?_⟩
      · cases ws with
        | nil=>exact hx.1
        | cons w ws=>simp [jn,hx.1]
      · rcases vO hc with z|⟨z,hz,z2⟩
        · rw [Ca] at z;have:c=32:=by simpa using z
          (clear e h hk hl ho hx;lia)
        · obtain⟨y,hy,rfl⟩:=List.mem_map.mp hz
          rcases List.mem_cons.mp hy with rfl|hy
          · exact hx.2 c z2
          · exact hw y hy c z2
   · rw [if_neg hl] at h;cases h
theorem Ek (row:List L2.ar):iY (d9 row++Str.ofString ";")=none:=by
 have es:(Str.ofString ";").cps.toList=[59]:=by decide +kernel
 have ne:d9 row++Str.ofString ";"≠Str.ofString "":=fun z=>by
  have:=congrArg (fun y:Str=>y.cps.toList) z
  simp only [Str.cps_append,Array.toList_append,es] at this
  have e0:(Str.ofString "").cps.toList=[]:=by decide +kernel
  rw [e0] at this
  simp at this
 unfold iY
 rw [if_neg ne]
 unfold Bd
 have hc:=AR (d9 row++Str.ofString ";") (Str.ofString "; ")
 have hn:=rz (d9 row++Str.ofString ";") (Str.ofString "; ")
 generalize Txt.split (d9 row++Str.ofString ";") (Str.ofString "; ")=ps at hc hn
 cases ho:eS eX ps with
 | none=>rfl
 | some ys=>
  exfalso
  have hp:∀p∈ps,p.cps.toList≠[]∧∀c∈p.cps.toList,c≠59:=fun p hp=>by
   obtain⟨b,hb⟩:=om ho p hp
   exact Ih hb
  have Qh:∀(l:List (List Nat)),l≠[]→(∀z∈l,z≠[]∧∀c∈z,c≠59)→∃c,(jn (Str.ofString "; ").cps.toList l).getLast? = some c∧c≠59:=by
   intro l
   induction l with
   | nil=>intro h;exact absurd rfl h
   | cons a l ih=>
    intro _ hz
    cases l with
    | nil=>
     obtain⟨h1,h2⟩:=hz a (by simp)
     exact⟨a.getLast h1,by simp [jn,List.getLast?_eq_some_getLast h1],h2 _ (List.getLast_mem h1)⟩
    | cons b l=>
     obtain⟨c,h1,h2⟩:=ih (by simp) (fun z h=>hz z (List.mem_cons_of_mem _ h))
     exact⟨c,by simp only [jn];rw [List.getLast?_append,h1];rfl,h2⟩
  obtain⟨c,h1,h2⟩:=Qh (ps.map fun z=>z.cps.toList) (by simpa using hn) (fun z hz=>by
   obtain⟨y,hy,rfl⟩:=List.mem_map.mp hz
   exact hp y hy)
  rw [←hc] at h1
  simp only [Str.cps_append,Array.toList_append,es] at h1
  rw [List.getLast?_append] at h1
  simp at h1
  exact h2 h1.symm
theorem B8 (d:L2.ar):DV (bp d)=cD d:=by cases d<;>rfl
theorem DL {row:List L2.ar} (h:∀d∈row,yW d):∀c∈(d9 row).cps.toList,c<16^8:=fun c hc=>by
 have e:(d9 row).cps.toList=jn [59,32] ((row.map bT).map fun z=>z.cps.toList):=by
  unfold d9 Txt.join
  rw [StrLaws.glued_eq_join,gR,HZ]
 rw [e] at hc
 rcases vO hc with z|⟨z,hz,z2⟩
 · simp at z;omega
 · obtain⟨y,hy,rfl⟩:=List.mem_map.mp hz
   obtain⟨d,hd,rfl⟩:=List.mem_map.mp hy
   have e2:(bT d).cps.toList=jn [32] ((cL d).map fun z=>z.cps.toList):=by
    unfold bT Txt.join
    rw [StrLaws.glued_eq_join,gR,Ca]
   rw [e2] at z2
   rcases vO z2 with z|⟨z,hz,z3⟩
   · simp at z;omega
   · obtain⟨y,hy,rfl⟩:=List.mem_map.mp hz
     have:=((qV (h d hd) y hy).2 c z3).2.1
     omega
noncomputable def E1 (T:Txt K mg):Sp:=fun vs H Q E=>∃(z:Str) (t:L2.Tree) (b:Bool) (k:Int) (row:List L2.ar) (wr:Bool),vs=[.str z,.int k,.str (if wr=true then d9 row++Str.ofString ";" else d9 row)]∧z.length≤10000∧z.cps.toList=dI t++(if b=true then [32] else [])∧t.dp≤24∧t.lv.length≤32∧(∀x∈t.lv,bb x=true)∧(∀x∈t.kn,bb x=true)∧t.lv.Nodup∧k.natAbs≤10∧row.length≤100∧(∀d∈row,yW d∧vT d)∧
 ((b=true∨wr=true)→∀H',ay H H'→E (.ref T.aI) none H')∧(b=false→wr=false→qH t k→∀H',ay H H'→E (.ref T.aJ) none H')∧
 (b=false→wr=false→¬qH t k→¬qA k.toNat 100 row→∀H',ay H H'→E (.ref T.aH) none H')∧(b=false→wr=false→¬qH t k→qA k.toNat 100 row→∀s H',ay H H'→Q (.str s) H')
seal nz PS PE PT PA PI fe in
theorem CP (T:Txt K mg) (R:FT P w K mg):bg P w K mg base (CXE P w) 40 T.vC T.wt ["text","k","rowtext"] (E1 T):=by
 refine T.Bm.G2 (k:=39) yO (fun vs H Q E h=>?_) (fun bt A outer s H vs Q E hr h L=>?_)
 · obtain⟨z,t,b,k,row,wr,rfl,_⟩:=h
   rfl
 obtain⟨z,t,b,k,row,wr,rfl,hz,ez,hd,hlen,Dy,ud,Y3,hk,dC,NV,q0,q1,q2,q3⟩:=h
 have nd:=yO.nd
 have ND:=(E6 (P:=P) (w:=w) (base:=base) T).mono (k:=39) (by omega)
 have Af:=(Dm (P:=P) (w:=w) (base:=base) T R).mono (k:=39) (by omega)
 have Hh:=(FR (P:=P) (w:=w) (base:=base) T).mono (k:=39) (by omega)
 have B4:=(LR (P:=P) (w:=w) (base:=base) T).mono (k:=39) (by omega)
 have tD:=(Et (P:=P) (w:=w) (base:=base) T).mono (k:=39) (by omega)
 have BY:=(MI (P:=P) (w:=w) (base:=base) T).mono (k:=39) (by omega)
 have yq:∀d∈row,yW d:=fun d hd=>(NV d hd).1
 refine⟨_,(ag (aA (i:=3) nd rfl (Or.inl rfl) (ak ND hr rfl T.LB T.EH.kp T.Lq .nil (qi L) (aa (pv 0) af)))
  (ag (aA (i:=4) nd rfl (Or.inl rfl) (ak Af hr rfl T.yZ T.sf.kp T.yX .nil (qi L) (aa (pv 2) af)))
  (ag (aA (i:=5) nd rfl (Or.inl rfl) (ak Hh hr rfl T.IV T.BB.kp T.Ju .nil (qi L) (aa (pv 3) (aa (pv 1) af))))
  (ag (aA (i:=6) nd rfl (Or.inl rfl) (ak B4 hr rfl T.CT T.uu.kp T.Cq .nil (qi L) (aa (pv 3) (aa (aQ (BW rfl) rfl T.Pw Lr (aa (pv 1) (aa (fG (v:=.int 10000) rfl T.wo ⟨_,rfl⟩) af))) (aa (fG (v:=.int 100) rfl T.sY ⟨_,rfl⟩) (aa (pv 4) af))))))
  (ag (aW (mJ (dD (ak tD hr rfl T.rV T.jT.kp T.qY .nil aG (aa (aw bQ (pv 6) (wW rQ ae) (fun _ _=>rfl)) af)))) (ai (ax az)) aE)
  (ag (FO (K:=K) (i:=7) (N:=["has","need"]) (caps:=[]) rfl rfl ⟨rfl,rfl,rfl,rfl,rfl,by decide +kernel,rfl,rfl,rfl,rfl,rfl⟩ (Ay (K:=K) rfl rfl T.J7 (aa (ak BY hr rfl T.CA T.uA.kp T.CD .nil aG (aa (pv 4) af)) (aa (pv 5) af))) (fun _ _ _ _=>dB) (fun _ _ _ _=>(ao ff (pv 0) (pv 1))) nd rfl rfl rfl)
  (ag (aW (mJ (dD (aQ (Cp rfl) rfl T.Qp MZ (aa (pv 7) af)))) (ai (ax az)) aE)
  (ag (aA (i:=8) nd rfl (Or.inl rfl) (lV PySem.F.plainAttrs_str PySem.F.slot_str_join PySem.F.type_str_join qU az (aa (fB (N:=["number"]) (caps:=[]) rfl ⟨rfl,rfl,rfl,rfl,by decide +kernel,rfl,rfl,rfl,rfl⟩ (AE (pv 7)) (fun _ _ _ _=>dB) (fun _ _ _ _=>(cB u6 rfl T.Gn y6 (aa (pv 0) af)))) af)))
  (ai (ax (r9 (.cons az (.cons (By (pv 8)) .nil))))))))))))),?_⟩
 refine Kr fun C hC=>?_
 walk_at "rd"
 refine⟨z,t,b,rfl,hz,ez,hd,hlen,Dy,ud,Y3,fun hb v H1 S1 dv=>?_,fun hb H1 S1=>q0 (.inl hb) H1 S1⟩
 have low:yH 10000 (if wr=true then d9 row++Str.ofString ";" else d9 row):=by
  have l1:=yn yq
  have l2:=DL yq
  have es:(Str.ofString ";").cps.toList=[59]:=by decide +kernel
  cases wr with
  | false=>rw [if_neg (by simp)];exact⟨by (clear hz ez hd hlen q2 q3 hC hb q0 q1 hk es;lia),l2⟩
  | true=>
   rw [if_pos rfl]
   have l9:(Str.ofString ";").length=1:=by decide +kernel
   refine⟨by rw [len_app];(clear hz ez hd hlen hC hb q0 q1 q2 q3 hk es;lia),fun c hc=>?_⟩
   simp only [Str.cps_append,Array.toList_append,es,List.mem_append,List.mem_singleton] at hc
   rcases hc with hc|rfl
   · exact l2 c hc
   · decide
 refine⟨_,rfl,low,fun rows BP pr rs H2 S2 er dr=>?_,fun hn H2 S2=>?_⟩
 · cases wr with
   | true=>rw [if_pos rfl,Ek] at BP;cases BP
   | false=>
   rw [if_neg (by simp),E5 yq] at BP
   cases BP
   rw [List.map_map,show (DV∘bp)=cD from funext B8] at dr
   refine⟨t,k,v,rfl,dv.same S2,hd,hlen,Nat.lt_of_le_of_lt (Nat.log2_le_self _) (by (clear hb er q0 q1 q2 q3 hz ez hd hlen hC dC;omega)),fun hf H3 S3=>q1 hb rfl hf H3 ((S1.trans S2).trans S3),fun nf v4 H3 S3 d4=>⟨_,_,⟨rfl,rfl⟩,?_⟩⟩
   rw [if_neg (show ¬(10000:Int)<k by (clear hb er q0 q1 q2 q3 nf hz ez hd hlen hC dC;omega))]
   obtain⟨k,rfl⟩:∃n:Nat,k=n:=⟨k.toNat,by unfold qH at nf;(clear hz ez hd hlen hk dC hC hb er q0 q1 q2 q3;lia)⟩
   rw [Int.toNat_natCast] at q2 q3
   refine⟨t,k,100,row,v,pr,rs,rfl,(dv.same S2).same S3,hd,hlen,by (clear hz ez hd hlen dC hC hb q2 q3 nf er q0 q1;omega),by omega,by (clear er q0 hk q1 q2 q3 nf hz ez hd hlen hb hC;lia),S3 _ _ er,dr.same S3,fun N1=>?_,fun nok=>⟨fun d hd=>⟨(NV d hd).2,fun i hi=>RQ (by have:=(yq d hd).1 i hi;(clear hz ez hlen dC hC hb er q0 hk q1 q2 q3 nf nok;lia))⟩,fun H4 S4=>q2 hb rfl nf nok H4 (((S1.trans S2).trans S3).trans S4)⟩⟩
   intro p vs l b' s1 ws us G H4 st pre tR SG SG4 gp ep dpre el gb gs qW uU lK eb es db ds
   have S34:=SG.trans SG4
   have S04:=((S1.trans S2).trans S3).trans S34
   have Ep:=S34 _ _ (S3 _ _ er)
   have dr4:=(dr.same S3).same S34
   obtain⟨pf,rfl,ef⟩:=B6 (d4.same S34)
   have q3:=q3 hb rfl nf N1
   rw [hC]
   clear hC C
   refine iI fun C hC=>?_
   walk_at "rd"
   refine⟨_,aN ep,_,sE vs _,st,_,rfl,BL el eb es db ds,fun H5 S5=>⟨_,rfl,?_⟩⟩
   cases hh:M.held st.1 [] with
   | false=>exact fT (q3 _ _ (S04.trans S5))
   | true=>
   refine eR ?_
   rw [hC]
   clear hC C
   refine iI fun C hC=>?_
   walk_at "rd"
   refine⟨row,pr,rs,rfl,S5 _ _ Ep,dr4.same S5,by (clear ep el gb gs qW uU lK eb es Ep ef hh hC q0 hk q1 q2 nf tR gp hz ez hd hlen er hb;lia),fun p6 H6 S6 e6=>⟨_,_,⟨rfl,rfl⟩,?_⟩⟩
   have G9:=S6 _ _ (S5 _ _ ef)
   refine qf.comp (p:=.t p6) (q:=.t pf) (jr.of e6) (jr.of G9) rfl (fun i ys H'=>ys=((iP t k row).map V.int).take i) rfl (show 4≤100000 by decide) (fun i ys H' h=>by rw [h,List.length_take];(clear hz ez hd hlen dC hb er q0 hk q1 q2 nf tR gp ep el gb gs qW uU lK eb es Ep ef hh hC e6 G9 h;lia)) (fun i x y ys H' ex ey S' h=>?_) (fun p7 ys H7 H8 S7 S8 h n8 e8=>?_)
   · obtain⟨Hx,_,_,h⟩:=h
     have hi:i<4:=by have:=(List.getElem?_eq_some_iff.mp ex).1;simpa [Jl] using this
     walk_at "rd"
     refine⟨_,rfl,_,rfl,?_⟩
     rcases (show i=0∨i=1∨i=2∨i=3 by (clear hz ez hd hlen dC hb er q0 hk q1 q2 nf tR gp ep el gb es Ep ef hh hC e6 G9 ex ey h uU lK qW eb;lia)) with rfl|rfl|rfl|rfl
     all_goals
      cases ex
      cases ey
      refine⟨_,rfl,_,rfl,S',?_⟩
      rw [h];rfl
   · have h:ys=(iP t k row).map V.int:=h
     rw [h] at e8
     rw [hC]
     clear hC C
     refine iI fun C hC=>?_
     walk_at "rd"
     have S48:=((S5.trans S6).trans S7).trans S8
     refine⟨_,fD.of e8,?_⟩
     cases ha:(iP t k row).any fun j=>j != 0 with
     | false=>exact fT (q3 _ _ (S04.trans S48))
     | true=>
     refine eR ?_
     rw [hC]
     clear hC C
     walk_at "rd"
     have bd:∀j∈iP t k row,j.natAbs<10000:=HV hlen (by (clear gb gs qW uU lK eb es Ep ef hh e6 G9 n8 e8 h ha hk q1 q2 nf tR gp ep el hz ez hd hlen er q0 hb;lia))
     have sl:∀n:Nat,n≤100000→n≤sizeLine:=fun n h=>Nat.le_trans h (by decide)
     refine WalkL.comp e8 (fun i ys H'=>ys=(((iP t k row).take i).map df).map V.str) rfl (show 4≤100000 by decide) (fun i ys H' h=>by rw [h];simp;(clear hz ez hd hlen dC hb er q0 hk q1 q2 nf tR gp ep el gb gs qW uU lK eb es Ep ef hh e6 G9 n8 e8 ha h;lia)) (fun i x ys H' ex S' h=>?_) (fun p9 ys H9 HA S9 SA h nA eA=>?_)
     · rw [List.getElem?_map] at ex
       obtain⟨j,ej,rfl⟩:=Option.map_eq_some_iff.mp ex
       walk_at "rd"
       refine .inr ⟨RQ (bd j (List.mem_of_getElem? ej)),S',?_⟩
       rw [h,List.take_add_one,ej];simp
     · have h:ys=((iP t k row).map df).map V.str:=h
       rw [h] at eA
       obtain⟨BX,jl⟩:=IB (show (iP t k row).length=4 from rfl) bd
       have e1:(Str.ofString " ").length=1:=by decide +kernel
       have ee:Str.empty++Str.ofString "held "=Str.ofString "held ":=by decide +kernel
       have e5:(Str.ofString "held ").length=5:=by decide +kernel
       have ea:(Str.ofString "held "++Txt.join (Str.ofString " ") ((iP t k row).map df)).length=5+(Txt.join (Str.ofString " ") ((iP t k row).map df)).length:=by rw [←e5];simp only [Str.length,Str.cps_append,Array.size_append]
       refine⟨p9,rfl,(iP t k row).map df,.inl (fD.of eA),by rw [e1];have:((iP t k row).map df).length=4:=rfl;(clear hz ez hd hlen dC hb er q0 hk q1 q2 nf tR gp ep el gb gs qW uU lK eb es Ep ef hh e6 G9 n8 e8 ha nA jl e1 ee eA h e5 ea;lia),?_⟩
       rw [ee,ea]
       exact⟨sl _ (by (clear hz ez hd hlen dC hb er q0 hk q1 q2 nf tR gp ep el gb gs qW uU lK eb es Ep ef hh e6 G9 n8 e8 ha nA eA h BX jl e1 ee;lia)),sl _ (by (clear hz ez hd hlen dC hb er q0 hk q1 q2 nf tR gp ep el gb gs qW uU lK eb es Ep ef hh e6 G9 n8 e8 ha nA eA h BX e5 ea ee e1;lia)),sl _ (by (clear hz ez hd hlen dC hb er q0 hk q1 q2 nf tR gp ep el gb gs qW uU lK eb es Ep ef hh e6 G9 n8 e8 ha nA eA h BX e5 ea ee e1;lia)),sl _ (by (clear hz ez hd hlen dC hb er q0 hk q1 q2 nf tR gp ep el gb gs qW uU lK eb es Ep ef hh e6 G9 n8 e8 ha nA eA h BX e5 ea ee e1;lia)),q3 _ _ ((S04.trans S48).trans (S9.trans SA))⟩
 · cases wr with
   | true=>exact q0 (.inr rfl) H2 (S1.trans S2)
   | false=>rw [if_neg (by simp),E5 yq] at hn;cases hn
noncomputable def NF (n:Nat):Sp:=fun vs H Q _=>∃(t:L2.Tree) (v:V),vs=[v]∧Dt H (dT t) v∧t.dp≤n∧(dI t).length≤50000∧Q (.str ⟨(dI t).toArray⟩) H
theorem AZ (T:Txt K mg):∀n:Nat,bg P w K mg base CX0 (n+1) T.kj T.kE ["tree"] (NF n)
 | 0=>by
  refine T.fK.ok (k:=0) jd (fun vs H Q E h=>?_) (fun bt A outer s H vs Q E hr h=>?_)
  · obtain⟨t,v,rfl,_⟩:=h
    rfl
  · obtain⟨t,v,rfl,_,h,_⟩:=h
    have:=t.sA
    omega
 | n+1=>by
  refine T.fK.ok (k:=n+1) jd (fun vs H Q E h=>?_) (fun bt A outer s H vs Q E hr h=>?_)
  · obtain⟨t,v,rfl,_⟩:=h
    rfl
  obtain⟨t,v,rfl,ht,hd,hl,q⟩:=h
  have nd:=jd.nd
  have h9:=AZ T n
  refine⟨_,(ag (aW (aC bj (aw bQ (pv 0) ae (fun _ _=>rfl)) az (aB _)) (ai (ax (aw bQ (pv 0) ae (fun _ _=>rfl)))) aE)
  (ai (ax (ao d7 (ao d7 (ao d7 (ao d7 (ao d7 (aw bQ (pv 0) ae (fun _ _=>rfl)) az) (ak h9 hr rfl T.kK T.fK.kp T.kJ .nil aG (aa (aw bQ (pv 0) ae (fun _ _=>rfl)) af))) az) (ak h9 hr rfl T.kK T.fK.kp T.kJ .nil aG (aa (aw bQ (pv 0) ae (fun _ _=>rfl)) af))) az)))),?_⟩
  cases t with
  | leaf x=>
   obtain⟨a,rfl,ea⟩:=vt ht
   walk_at "rd"
   refine⟨_,aj ea,_,aP,rfl,?_⟩
   rw [decide_eq_true rfl]
   refine fT ⟨_,aj ea,_,cf,?_⟩
   have:(⟨(dI (.leaf x)).toArray⟩:Str)=x:=kX (by simp [dI])
   rw [this] at q
   exact q
  | knot f l r=>
   obtain⟨a,vl,vr,rfl,ea,wq,B3⟩:=gm ht
   simp only [M.Tr.dp] at hd
   have ln:f.cps.toList.length+(dI l).length+(dI r).length+3≤50000:=by
    have:(dI (.knot f l r)).length=f.cps.toList.length+1+(dI l).length+1+(dI r).length+1:=by simp [dI];(clear hd hl ea;lia)
    (clear hd ea;lia)
   walk_at "rd"
   refine⟨_,aj ea,_,aP,rfl,?_⟩
   rw [decide_eq_false (by simp only [V.str.injEq];decide +kernel)]
   refine eR ⟨_,aj ea,_,cf,?_⟩
   try (walk_at "rd")
   have zl:∀y:Nat,y≤50000→y≤sizeLine:=fun y hy=>aZ (by (clear hd hl ea ln;lia))
   have k1:(Str.ofString "(").cps.toList=[40]:=by decide +kernel
   have k2:(Str.ofString " ").cps.toList=[32]:=by decide +kernel
   have k3:(Str.ofString ")").cps.toList=[41]:=by decide +kernel
   refine⟨zl _ ?_,_,aj ea,_,gM,l,_,rfl,wq,by (clear k1 k2 k3 ea ln hl;lia),by (clear k1 k2 k3 hd hl ea;lia),_,rfl,zl _ ?_,zl _ ?_,_,aj ea,_,mY,r,_,rfl,B3,by (clear k1 k2 k3 ea ln hl;lia),by (clear k1 k2 k3 hd hl ea;lia),_,rfl,zl _ ?_,zl _ ?_,?_⟩
   all_goals try (simp only [cy,cps_append,k1,k2,k3,zA,List.length_append,List.length_cons,List.length_nil];(clear k1 k2 k3 hd hl ea;lia))
   have:(⟨(dI (.knot f l r)).toArray⟩:Str)=f++Str.ofString "("++⟨(dI l).toArray⟩++Str.ofString " "++⟨(dI r).toArray⟩++Str.ofString ")":=kX (by
    simp only [cps_append,k1,k2,k3,zA,dI];simp)
   rw [this] at q
   exact q
theorem K2 {names deeds:List Str}{k m:Int}{d:L2.ar} (h:jP names deeds k m d) (hk:k≤10000) (hm:m≤10000) (nn:∀x∈names,bb x=true) (ne:∀x∈deeds,bb x=true):yW d:=by
 have ok0:=zf h
 refine⟨fun z hz=>?_,fun x hx=>?_⟩
 · rcases List.mem_append.mp hz with hz|hz
   · have:=ok0.1 z hz;have a1:=this.1;have a2:=this.2;lia
   · have:=ok0.2 z hz;have a1:=this.1;have a2:=this.2;lia
 · cases d with
   | take y j=>cases hx;exact nn _ h.1
   | join f j k l=>cases hx;exact ne _ h.1
   | put j k=>cases hx
   | fetch j k=>cases hx
theorem FU (c:Int) (n:Nat):∀x∈(List.range n).map (iJ c n),bb x=true:=fun x hx=>by
 obtain⟨k,hk,rfl⟩:=List.mem_map.mp hx
 exact zz (by simpa using hk)
noncomputable def Nb (x:Str):Prop:=(∀c∈x.cps.toList,c<16^8)∧x.length≤100
theorem GB (c:Int) (many k:Nat):Nb (iJ c many k):=by
 have l1:∀i:Int,M.cn i<16^8:=fun i=>by unfold M.cn;lia
 have sz:=(M.og c many).1
 constructor
 · intro z hz
   have hz:z∈M.nm c many k:=by simpa [iJ] using hz
   unfold M.nm at hz
   split at hz
   · rw [List.eq_of_mem_replicate hz];exact l1 _
   · have go:∀z∈(List.replicate (M.bM c many) (M.cn c)).set (c / 208 % M.bM c many).toNat (M.cn (c+1+(k % 24:Nat))),z<16^8:=fun z hz=>by
      rcases List.mem_or_eq_of_mem_set hz with h|h
      · rw [List.eq_of_mem_replicate h];exact l1 _
      · rw [h];exact l1 _
     dsimp only at hz
     split at hz
     · rcases List.mem_append.mp hz with h|h
       · exact go z h
       · rw [List.mem_singleton.mp h];exact l1 _
     · exact go z hz
 · have:(iJ c many k).length=(M.nm c many k).length:=by simp [iJ,cy]
   rw [this]
   unfold M.nm
   split
   · simp;(clear sz this;lia)
   · dsimp only
     split
     · simp;lia
     · simp;lia
theorem shD {d:L2.ar} (h:(match d with | .take x _=>Nb x | .join f _ _ _=>Nb f|_=>True)) (hi:∀i∈d.bn++d.sn,i.natAbs.log2<1900):vT d∧∀i∈d.bn++d.sn,i.natAbs.log2<1900:=by
 refine⟨?_,hi⟩
 have w1:∀z:Str,z∈[Str.ofString "take",Str.ofString "join",Str.ofString "put",Str.ofString "fetch"]→(∀c∈z.cps.toList,c<16^8)∧z.length≤10:=by decide +kernel
 unfold vT
 cases d with
 | take x i=>
  have a:=w1 (Str.ofString "take") (by simp)
  have b:=hi i (by simp [M.ar.bn])
  simp only [cD,D.wJ,D.rX,D.wd,D.G8]
  refine⟨⟨a.1,h.1,by lia,trivial⟩,?_⟩
  have:=h.2
  lia
 | join f i j l=>
  have a:=w1 (Str.ofString "join") (by simp)
  have b1:=hi i (by simp [M.ar.bn])
  have b2:=hi j (by simp [M.ar.bn])
  have b3:=hi l (by simp [M.ar.bn])
  simp only [cD,D.wJ,D.rX,D.wd,D.G8]
  refine⟨⟨a.1,h.1,by lia,by (clear a b1;lia),by (clear a b1 b2;lia),trivial⟩,?_⟩
  have:=h.2
  (clear b2 b3 b1;lia)
 | put i j=>
  have a:=w1 (Str.ofString "put") (by simp)
  have b1:=hi i (by simp [M.ar.bn])
  have b2:=hi j (by simp [M.ar.sn])
  simp only [cD,D.wJ,D.rX,D.wd,D.G8]
  exact⟨⟨a.1,by lia,by lia,trivial⟩,by lia⟩
 | fetch i j=>
  have a:=w1 (Str.ofString "fetch") (by simp)
  have b1:=hi i (by simp [M.ar.sn])
  have b2:=hi j (by simp [M.ar.bn])
  simp only [cD,D.wJ,D.rX,D.wd,D.G8]
  exact⟨⟨a.1,by lia,by lia,trivial⟩,by lia⟩
theorem K4 {names deeds:List Str}{k m:Int} (hn:∀x∈names,Nb x) (hd:∀x∈deeds,Nb x) (hk:k≤1000) (hm:m≤1000) {d:L2.ar} (h:jP names deeds k m d):vT d∧∀i∈d.bn++d.sn,i.natAbs.log2<1900:=by
 have lg:∀i:Int,-10≤i→i≤1000→i.natAbs.log2<1900:=fun i h1 h2=>Nat.lt_of_le_of_lt (Nat.log2_le_self _) (by (clear hk hm;omega))
 have ok:=zf h
 refine shD ?_ fun i hi=>?_
 · cases d with
   | take x i=>exact hn x h.1
   | join f i j l=>exact hd f h.1
   | put i j=>trivial
   | fetch i j=>trivial
 · rcases List.mem_append.mp hi with hi|hi
   · have:=ok.1 i hi;exact lg i (by have:=this.1;lia) (by have:=this.2;lia)
   · have:=ok.2 i hi;exact lg i (by have:=this.1;lia) (by have:=this.2;(clear hk;lia))
theorem Fv {xs:List V} (h:3≤xs.length):¬(HT.cM xs.length 0 (some 2)=0∧HT.cM xs.length xs.length none=xs.length):=fun z=>by
 have:=z.1
 rw [show ((2:Int))=((2:Nat):Int) from rfl,HT.qS] at this
 (clear z;lia)
theorem Ou {xs:List V} (h:3≤xs.length):¬(HT.cM xs.length 0 none=0∧HT.cM xs.length xs.length (some 2)=xs.length):=fun z=>by
 have:=z.2
 rw [show ((2:Int))=((2:Nat):Int) from rfl,HT.qS] at this
 (clear z;lia)
theorem Bg {xs:List V} (h:3≤xs.length):iB xs (some 2) none=xs.drop 2:=pT (xs:=xs) (p:=2) (by lia)
theorem A2 {xs:List V} (h:3≤xs.length):iB xs none (some 2)=xs.take 2:=AH (xs:=xs) (p:=2) (by lia)
noncomputable def MG:Sp:=fun vs H Q _=>∃(d:L2.ar) (v:V) (c m k:Int) (names deeds:List Str),vs=[v,.int c,.int m]∧Dt H (cD d) v∧jP names deeds k m d∧10≤m∧m≤1000∧∀d' v' H',ay H H'→Dt H' (cD d') v'→jP names deeds k m d'→Q v' H'
seal nz PS PE PT PA PI fe in
theorem Jq (T:Txt K mg):bg P w K mg base CX0 1 T.kL T.ke ["deed","cell","many"] MG:=by
 refine T.pY.ok (k:=0) m8 (fun vs H Q E h=>?_) (fun bt A outer s H vs Q E hr h=>?_)
 · obtain⟨d,v,c,m,k,names,deeds,rfl,_⟩:=h
   rfl
 obtain⟨d,v,c,m,k,names,deeds,rfl,hd,ok,m1,m2,q⟩:=h
 have nd:=m8.nd
 obtain⟨a,rfl,ea⟩:=fF hd
 refine⟨_,(ag (aW (PW.pt (jM (aC bj (aw bQ (pv 0) ae (fun _ _=>rfl)) az (aB _)) (ib (aC bj (ao aU (pv 1) ae) ae (aB _))))) (ai (ax (ao nF (fg vQ (pv 0) lF (d6 ae)) (bN (aa (ao ff (ao ff (pv 2) ae) (ao aU (ao bz (pv 1) ae) ae)) af))))) aE)
  (ag (aW (PW.pt (jM (aC bj (aw bQ (pv 0) ae (fun _ _=>rfl)) az (aB _)) (ib (aC bj (ao aU (pv 1) ae) ae (aB _))))) (ai (ax (bN (aa (aw bQ (pv 0) ae (fun _ _=>rfl)) (aa (ao ff (ao ff (pv 2) ae) (ao aU (ao bz (pv 1) ae) ae)) (aa (aw bQ (pv 0) ae (fun _ _=>rfl)) af)))))) aE)
  (ai (ax (pv 0))))),?_⟩
 walk_at "rd"
 cases d with
 | take x i=>exact⟨_,aj ea,_,aP,rfl,wF GW ⟨_,aj ea,_,aP,rfl,wF L9 (q _ _ _ (ay.refl _) (lu ea) ok)⟩⟩
 | join f i j l=>exact⟨_,aj ea,_,aP,rfl,wF ID ⟨_,aj ea,_,aP,rfl,wF LO (q _ _ _ (ay.refl _) (lu ea) ok)⟩⟩
 | put i j=>
  refine⟨_,aj ea,_,aP,rfl,wT ⟨by decide,bO (fun g=>⟨_,ea,fun z=>absurd z (Ou (by simp [bp])),fun _=>aM.mk fun p1 H1 S1 n1 e1=>⟨⟨by decide,by decide⟩,by decide,by decide,aM.mk fun p2 H2 S2 n2 e2=>⟨p1,rfl,p2,rfl,_,S2 _ _ e1,_,e2,?_,fun p3 H3 S3 e3=>?_⟩⟩⟩) (fun g=>⟨_,aj ea,_,aP,rfl,wF aa0 (q _ _ _ (ay.refl _) (lu ea) ok)⟩)⟩⟩
  · rw [A2 (by simp [bp])];exact aZ (by simp [bp])
  · rw [A2 (by simp [bp])] at e3
    exact q (.put i (m - 1 - c / 2 % 4)) _ _ ((S1.trans S2).trans S3) (lu e3) ⟨ok.1,by (clear e1 n2 e2 e3 g n1 ea m2;lia),by lia⟩
 | fetch j i=>exact⟨_,aj ea,_,aP,rfl,wF C2 ⟨_,aj ea,_,aP,rfl,wT ⟨by decide,bO (fun g=>⟨_,aj ea,_,aP,⟨by decide,by decide⟩,by decide,_,aj ea,_,gM,by decide,aM.mk fun p1 H1 S1 n1 e1=>q (.fetch (m - 1 - c / 2 % 4) i) _ _ S1 (lu e1) ⟨⟨by lia,by lia⟩,ok.2⟩⟩) (fun g=>q _ _ _ (ay.refl _) (lu ea) ok)⟩⟩⟩
noncomputable def gS (k:Int):L2.ar→Bool
 | .take _ i=>decide (k≤i)
 | .join _ i j l=>decide (k≤i∨k≤j∨k≤l)
 | .put i s=>decide (k≤i∨99<s)
 | .fetch s i=>decide (k≤i∨99<s)
theorem LN {k m:Int}{row:List L2.ar} (k1:1≤k) (ok:∀d∈row,d.ok 5 m):row.any (gS k)=true↔¬qA k.toNat 100 row:=by
 have one:∀d:L2.ar,d.ok 5 m→(d.ok (k.toNat:Int) ((100:Nat):Int)↔¬gS k d=true):=by
  intro d h
  have hk:(k.toNat:Int)=k:=by lia
  rw [hk]
  obtain⟨h1,h2⟩:=h
  cases d with
  | take x i=>
   have:=h1 i (by simp [M.ar.bn])
   simp only [M.ar.ok,M.ar.bn,M.ar.sn,List.mem_cons,List.not_mem_nil,or_false,forall_eq,M.oo,gS,decide_eq_true_eq,forall_const,false_imp_iff,and_true,implies_true] at this ⊢
   (clear k1 hk;omega)
  | join f i j l=>
   have a1:=h1 i (by simp [M.ar.bn])
   have a2:=h1 j (by simp [M.ar.bn])
   have a3:=h1 l (by simp [M.ar.bn])
   simp only [M.ar.ok,M.ar.bn,M.ar.sn,List.mem_cons,List.not_mem_nil,or_false,forall_eq,forall_eq_or_imp,M.oo,gS,decide_eq_true_eq,forall_const,false_imp_iff,and_true,implies_true] at a1 a2 a3 ⊢
   (clear k1 hk;omega)
  | put i s=>
   have a1:=h1 i (by simp [M.ar.bn])
   have a2:=h2 s (by simp [M.ar.sn])
   simp only [M.ar.ok,M.ar.bn,M.ar.sn,List.mem_cons,List.not_mem_nil,or_false,forall_eq,M.oo,gS,decide_eq_true_eq,and_true] at a1 a2 ⊢
   (clear k1 hk;omega)
  | fetch s i=>
   have a1:=h1 i (by simp [M.ar.bn])
   have a2:=h2 s (by simp [M.ar.sn])
   simp only [M.ar.ok,M.ar.bn,M.ar.sn,List.mem_cons,List.not_mem_nil,or_false,forall_eq,M.oo,gS,decide_eq_true_eq,and_true] at a1 a2 ⊢
   (clear k1 hk;omega)
 rw [List.any_eq_true]
 constructor
 · rintro ⟨d,hd,e⟩ z
   exact(one d (ok d hd)).mp (z d hd) e
 · intro h
   by_cases c:∃d∈row,gS k d=true
   · exact c
   · exact absurd (fun d hd=>(one d (ok d hd)).mpr fun e=>c ⟨d,hd,e⟩) h
noncomputable def Ph:Sp:=fun vs H Q _=>∃(d:L2.ar) (v:V) (k:Int),vs=[v,.int k]∧Dt H (cD d) v∧∀H',ay H H'→Q (.bl (gS k d)) H'
seal nz PS PE PT PA PI fe in
theorem Nr (T:Txt K mg):bg P w K mg base CX0 1 T.ix T.ie ["deed","k"] Ph:=by
 refine T.mi.ok (k:=0) kq (fun vs H Q E h=>?_) (fun bt A outer s H vs Q E hr h=>?_)
 · obtain⟨d,v,k,rfl,_⟩:=h
   rfl
 obtain⟨d,v,k,rfl,hd,q⟩:=h
 have nd:=kq.nd
 obtain⟨a,rfl,ea⟩:=fF hd
 refine⟨_,(ag (aW (aC bj (aw bQ (pv 0) ae (fun _ _=>rfl)) az (aB _)) (ai (ax (xm (bu yf (aw bQ (pv 0) ae (fun _ _=>rfl)) (pv 1) (aB _)) (kM (bu lR (aw bQ (pv 0) ae (fun _ _=>rfl)) ae (aB _)))))) aE)
  (ag (aW (aC bj (aw bQ (pv 0) ae (fun _ _=>rfl)) az (aB _)) (ai (ax (xm (bu yf (aw bQ (pv 0) ae (fun _ _=>rfl)) (pv 1) (aB _)) (kM (bu lR (aw bQ (pv 0) ae (fun _ _=>rfl)) ae (aB _)))))) aE)
  (ai (ax (bu yf (aQ (Ce rfl) rfl T.Ko Gv (aa (fg vQ (pv 0) (d6 ae) lF) af)) (pv 1) (aB _)))))),?_⟩
 walk_at "rd"
 cases d with
 | take x i=>
  refine⟨_,aj ea,_,aP,rfl,wF GW ⟨_,aj ea,_,aP,rfl,wF L9 ⟨_,ea,fun z=>absurd z (Fv (by simp [bp])),fun _=>aM.mk fun p1 H1 S1 n1 e1=>⟨p1,rfl,[i],?_,by simp,fun m hm _=>?_⟩⟩⟩⟩
  · rw [Bg (by simp [bp])] at e1;exact aj e1
  · rw [List.mem_singleton.mp hm];exact q _ S1
 | join f i j l=>
  refine⟨_,aj ea,_,aP,rfl,wF ID ⟨_,aj ea,_,aP,rfl,wF LO ⟨_,ea,fun z=>absurd z (Fv (by simp [bp])),fun _=>aM.mk fun p1 H1 S1 n1 e1=>⟨p1,rfl,[i,j,l],?_,by simp,fun m hm hx=>?_⟩⟩⟩⟩
  · rw [Bg (by simp [bp])] at e1;exact aj e1
  · have:decide (k≤m)=gS k (.join f i j l):=by
     show _=decide (k≤i∨k≤j∨k≤l)
     have h1:=hx i (by simp)
     have h2:=hx j (by simp)
     have h3:=hx l (by simp)
     simp only [List.mem_cons,List.not_mem_nil,or_false] at hm
     rw [Bool.eq_iff_iff,decide_eq_true_iff,decide_eq_true_iff]
     omega
    rw [this];exact q _ S1
 | put i j=>
  refine⟨_,aj ea,_,aP,rfl,wT ⟨_,aj ea,_,cf,i,rfl,bO (fun g=>?_) (fun g=>⟨_,aj ea,_,gM,j,rfl,?_⟩)⟩⟩
  · have g:=of_decide_eq_true g
    have:gS k (.put i j)=true:=decide_eq_true (.inl g)
    rw [←this];exact q _ (ay.refl _)
  · have g:¬k≤i:=fun z=>g (decide_eq_true z)
    have:gS k (.put i j)=decide (99<j):=by
     show decide (k≤i∨99<j)=_
     rw [Bool.eq_iff_iff,decide_eq_true_iff,decide_eq_true_iff]
     exact⟨fun z=>z.resolve_left g,.inr⟩
    rw [←this];exact q _ (ay.refl _)
 | fetch j i=>
  refine⟨_,aj ea,_,aP,rfl,wF C2 ⟨_,aj ea,_,aP,rfl,wT ⟨_,aj ea,_,gM,i,rfl,bO (fun g=>?_) (fun g=>⟨_,aj ea,_,cf,j,rfl,?_⟩)⟩⟩⟩
  · have g:=of_decide_eq_true g
    have:gS k (.fetch j i)=true:=decide_eq_true (.inl g)
    rw [←this];exact q _ (ay.refl _)
  · have g:¬k≤i:=fun z=>g (decide_eq_true z)
    have:gS k (.fetch j i)=decide (99<j):=by
     show decide (k≤i∨99<j)=_
     rw [Bool.eq_iff_iff,decide_eq_true_iff,decide_eq_true_iff]
     exact⟨fun z=>z.resolve_left g,.inr⟩
    rw [←this];exact q _ (ay.refl _)
noncomputable def AS (K:PySem.W.Frag):Sp:=fun vs H Q _=>∃(a:Addr) (ns:List Int),vs=[.ref a]∧fD K H a (ns.map V.int)∧ns.length≤63∧∀H',Q (.bl true) H'
seal nz PS PE PT PA PI fe in
theorem L4 (T:Txt K mg) (R:FT P w K mg):bg P w K mg base CX0 60 T.BU T.xn ["script"] (AS K):=by
 refine T.QF.ok (k:=59) Ff (fun vs H Q E h=>?_) (fun bt A outer s H vs Q E hr h=>?_)
 · obtain⟨a,ns,rfl,_⟩:=h
   rfl
 obtain⟨a,ns,rfl,hS,aX,q⟩:=h
 have nd:=Ff.nd
 have ba:=(xG (P:=P) (w:=w) (base:=base) T).mono (k:=59) (by omega)
 have yp:=(He (P:=P) (w:=w) (base:=base) T).mono (k:=59) (by omega)
 have iu:=(uN (P:=P) (w:=w) (base:=base) T).mono (k:=59) (by omega)
 have fh:=(yC (P:=P) (w:=w) (base:=base) T).mono (k:=59) (by omega)
 have wQ:=(Jd (P:=P) (w:=w) (base:=base) T).mono (k:=59) (by omega)
 have yz:=(HR (P:=P) (w:=w) (base:=base) T).mono (k:=59) (by omega)
 have xu:=(Jq (P:=P) (w:=w) (base:=base) T).mono (k:=59) (by omega)
 have tQ:=(Nr (P:=P) (w:=w) (base:=base) T).mono (k:=59) (by omega)
 have h9:=(AZ (P:=P) (w:=w) (base:=base) T 24).mono (k:=59) (by omega)
 have Hc:=(CP (P:=P) (w:=w) (base:=base) T R).mono (k:=59) (by omega)
 refine⟨_,(ag (aA (i:=1) nd rfl (Or.inl rfl) (ak yp hr rfl T.xK T.qv.kp T.yI .nil aG (aa (pv 0) af)))
  (ag (aA (i:=2) nd rfl (Or.inl rfl) (ak wQ hr rfl T.wX T.qx.kp T.w9 .nil aG (aa (pv 0) (aa ae (aa (pv 1) af)))))
  (ag (aA (i:=3) nd rfl (Or.inr rfl) (ak fh hr rfl T.gh T.fi.kp T.gg .nil aG (aa (ak iu hr rfl T.lU T.iy.kp T.lY .nil aG (aa (pv 0) af)) (aa (pv 1) af))))
  (ag (aA (i:=4) nd rfl (Or.inr rfl) (ak fh hr rfl T.gh T.fi.kp T.gg .nil aG (aa (ak ba hr rfl T.bA T.bq.kp T.bw .nil aG (aa (pv 0) (aa ae af))) (aa ae af))))
  (ag (aA (i:=5) nd rfl (Or.inl rfl) (ao ff (ao aU (ak ba hr rfl T.bA T.bq.kp T.bw .nil aG (aa (pv 0) (aa ae af))) ae) ae))
  (ag (aA (i:=6) nd rfl (Or.inr rfl) (aw bQ (br (aa ae (aa ae af))) (ao aU (ao bz (ak ba hr rfl T.bA T.bq.kp T.bw .nil aG (aa (pv 0) (aa ae af))) ae) ae) (fun _ _=>rfl)))
  (ag (vi (i:=7) (N:=["n","script","names","deeds","many"]) (caps:=[0,3,4,6]) rfl ⟨rfl,rfl,rfl,rfl,by decide +kernel,rfl,rfl,rfl,rfl⟩ (uw rfl T.AM (aa (ao aU (ao bz (ak ba hr rfl T.bA T.bq.kp T.bw .nil aG (aa (pv 0) (aa ae af))) ae) ae) af)) (fun _ _ _ _=>dB) (fun _ _ _ _=>(ak yz hr rfl T.yK T.qc.kp T.wY .nil aG (aa (pv 1) (aa (ao bI ae (pv 0)) (aa (pv 2) (aa (pv 3) (aa ae (aa (pv 4) af)))))))) nd rfl rfl rfl)
  (ag (vi (i:=7) (N:=["deed","many","script"]) (caps:=[6,0]) rfl ⟨rfl,rfl,rfl,rfl,by decide +kernel,rfl,rfl,rfl,rfl⟩ (AE (pv 7)) (fun _ _ _ _=>dB) (fun _ _ _ _=>(ak xu hr rfl T.xJ T.pY.kp T.wL .nil aG (aa (pv 0) (aa (ak ba hr rfl T.bA T.bq.kp T.bw .nil aG (aa (pv 2) (aa ae af))) (aa (pv 1) af))))) nd rfl rfl rfl)
  (ag (aA (i:=8) nd rfl (Or.inl rfl) (br (aa (bu bj (ao aU (ak ba hr rfl T.bA T.bq.kp T.bw .nil aG (aa (pv 0) (aa ae af))) ae) ae (aB _)) (aa (bu bj (ao aU (ao bz (ak ba hr rfl T.bA T.bq.kp T.bw .nil aG (aa (pv 0) (aa ae af))) ae) ae) ae (aB _)) af))))
  (ag (aA (i:=9) nd rfl (Or.inl rfl) (ao d7 (ak h9 hr rfl T.kK T.fK.kp T.kJ .nil aG (aa (pv 2) af)) (aw bQ (br (aa az (aa az af))) (cB kW rfl T.yl qZ (aa (aw bQ (pv 8) ae (fun _ _=>rfl)) af)) (fun _ _=>rfl))))
  (ag (aA (i:=10) nd rfl (Or.inl rfl) (ao d7 (lV PySem.F.plainAttrs_str PySem.F.slot_str_join PySem.F.type_str_join qU az (aa (fB (N:=["deed"]) (caps:=[]) rfl ⟨rfl,rfl,rfl,rfl,by decide +kernel,rfl,rfl,rfl,rfl⟩ (AE (pv 7)) (fun _ _ _ _=>dB) (fun _ _ _ _=>by exact(FK (K:=K) rfl PySem.F.plainAttrs_str PySem.F.slot_str_join PySem.F.type_str_join (Gf rfl) az (aa (fB (N:=["one"]) (caps:=[]) rfl ⟨rfl,rfl,rfl,rfl,by decide +kernel,rfl,rfl,rfl,rfl⟩ (Za (K:=K) rfl (pv 0)) (fun _ _ _ _=>dB) (fun _ _ _ _=>(cB u6 rfl T.Gn y6 (aa (pv 0) af)))) af)))) af)) (aw bQ (br (aa az (aa az af))) (cB kW rfl T.yl qZ (aa (aw bQ (pv 8) ae (fun _ _=>rfl)) af)) (fun _ _=>rfl))))
  (ag (aA (i:=11) nd rfl (Or.inl rfl) uT)
  (ag (jF PassesOwn.never rfl (AE (pv 7)) (dA (i:=12) nd rfl (Or.inl rfl)) (ai (aA (i:=11) nd rfl (Or.inl rfl) (xm (pv 11) (kM (ak tQ hr rfl T.tP T.mi.kp T.ub .nil aG (aa (pv 12) (aa (pv 5) af))))))))
  (ag (aA (i:=13) nd rfl (Or.inl rfl) ae)
  (ag (aW (PW.pt (tu (dD (aw bQ (pv 8) ae (fun _ _=>rfl))) (mF (dD (aw bQ (pv 8) ae (fun _ _=>rfl)))))) (ai (aA (i:=13) nd rfl (Or.inl rfl) ae)) (ai (aW (PW.pt (tu (aC yb (pv 5) ae (aB _)) (mF (PW.pt (jM (aC bj (pv 5) ae (aB _)) (ib (aC bj (aw bQ (pv 2) ae (fun _ _=>rfl)) az (aB _)))))))) (ai (aA (i:=13) nd rfl (Or.inl rfl) ae)) (ai (aW (dD (pv 11)) (ai (aA (i:=13) nd rfl (Or.inl rfl) ae)) aE)))))
  (ag (aA (i:=14) nd rfl (Or.inl rfl) (br af))
  (ag (aA (i:=15) nd rfl (Or.inl rfl) mL)
  (ag (HI (i:=16) (J:=fun σ0 σ1=>σ1=σ0) rfl rfl rfl T.zW T.zt nd rfl rfl (fun _ _ _=>(ai (aA (i:=15) nd rfl (Or.inl rfl) (GQ Hc hr rfl T.IT T.Bm.kp T.Jo .nil Qj (aa (pv 9) (aa (pv 5) (aa (pv 10) af))))))) (fun _=>(ai (aA (i:=14) nd rfl (Or.inl rfl) (br (aa (aQ (show ck _ (.builtin "isinstance") (CK K) from nI) rfl T.eZ d3 (aa (pv 16) (aa (fG (v:=.ref T.aI) rfl T.kr rfl) af))) (aa (aQ (show ck _ (.builtin "isinstance") (CK K) from nI) rfl T.eZ d3 (aa (pv 16) (aa (fG (v:=.ref T.aJ) rfl T.yQ rfl) af))) (aa (aQ (show ck _ (.builtin "isinstance") (CK K) from nI) rfl T.eZ d3 (aa (pv 16) (aa (fG (v:=.ref T.aH) rfl T.w8 rfl) af))) (aa (aQ (show ck _ (.builtin "isinstance") (CK K) from nI) rfl T.eZ d3 (aa (pv 16) (aa (Bj (v:=.ty "ValueError") rfl T.vE t8 rfl) af))) af)))))))))
  (ag (aW (aC bj (pv 13) ae (aB _)) (ai (ax (vm (bu (E4 hr) (pv 14) (br af) (aB _)) (kM (aQ Ft rfl T.eZ d3 (aa (pv 15) (aa (Bj (v:=.ty "str") rfl T.Gn y6 rfl) af))))))) aE)
  (ai (ax (bu (E4 hr) (pv 14) (br (aa (bu bj (pv 13) ae (aB _)) (aa (bu bj (pv 13) ae (aB _)) (aa (bu bj (pv 13) ae (aB _)) (aa uT af))))) (aB _))))))))))))))))))))))),?_⟩
 refine Kr fun C hC=>?_
 walk_at "rd"
 refine⟨a,ns,rfl,hS,aX,fun many H1 bC hm S1 dX=>?_⟩
 refine⟨a,ns,1,many,rfl,S1.seq hS,aX,by decide,bC,hm,fun t c c' v H2 S2 ht tr cc=>?_⟩
 have hd:=tr.dp
 have hlen:=tr.len
 have Y3:=tr.nodup hm
 have Dy:=tr.Wm
 have ud:=tr.aa6
 have S02:=S1.trans S2
 refine⟨a,ns,rfl,S02.seq hS,aX,?_⟩
 refine⟨cC ns,many,rfl,hm,fun pn nv H3 S3 n3 e3 D3=>?_⟩
 have S03:=S02.trans S3
 refine⟨a,ns,1,rfl,S03.seq hS,aX,by omega,by omega,?_⟩
 refine⟨_,3,rfl,by decide,fun pD dv H4 S4 n4 e4 D4=>?_⟩
 have S04:=S03.trans S4
 have WO:=D3.strs
 have Z7:=D4.strs
 subst WO Z7
 have OD:=S4 _ _ e3
 have ht4:=ht.same (S3.trans S4)
 have Zv:=S04.seq hS
 have okn:=FU (cC ns) many
 have shn:∀x∈(List.range many).map (iJ (cC ns) many),Nb x:=fun x hx=>by
  obtain⟨k,_,rfl⟩:=List.mem_map.mp hx
  exact GB _ _ _
 have bH:(List.range many).map (iJ (cC ns) many)≠[]:=by simp;(clear hlen n3 n4 e3 e4 OD dX cc hd aX hC hm;lia)
 have cu:((List.range many).map (iJ (cC ns) many)).length≤1000:=by simp;(clear hlen n3 n4 e3 e4 OD bH dX cc hd aX hC bC;lia)
 generalize (List.range many).map (iJ (cC ns) many)=names at *
 have N7:=FU (cq ns (1:Int).toNat) 3
 have shd:∀x∈(List.range 3).map (iJ (cq ns (1:Int).toNat) 3),Nb x:=fun x hx=>by
  obtain⟨k,_,rfl⟩:=List.mem_map.mp hx
  exact GB _ _ _
 have cv:((List.range 3).map (iJ (cq ns (1:Int).toNat) 3)).length=3:=by simp
 generalize (List.range 3).map (iJ (cq ns (1:Int).toNat) 3)=deeds at *
 clear S1 S2 S3 S4 n3 n4 D3 D4 e3 ht S02 S03 S04
 rw [hC]
 clear hC C
 refine uE fun C hC=>?_
 walk_at "rd"
 refine⟨a,ns,20,rfl,Zv,aX,by omega,by omega,_,rfl,by decide,by decide,aM.mk fun p5 H5 S5 n5 e5=>?_⟩
 have P4:=S5.seq Zv
 refine⟨a,ns,19,rfl,P4,aX,by omega,by omega,_,rfl,⟨by decide,by decide⟩,by decide,p5,rfl,_,aN e5,?_⟩
 generalize fE:cq ns (20:Int).toNat=cK
 generalize fL:cq ns (19:Int).toNat=cN
 obtain⟨m,hm,gU⟩:∃m:Int,kT [V.int 100,V.int 103] (cN / 25 % 2)=some (.int m)∧(m=100∨m=103):=by
  rcases (show cN / 25 % 2=0∨cN / 25 % 2=1 by (clear aX bC hm dX cc hd hlen OD bH cu e4 cv hC n5 e5 fE fL;lia)) with h|h<;>rw [h]
  · exact⟨_,aP,.inl rfl⟩
  · exact⟨_,cf,.inr rfl⟩
 refine⟨_,hm,?_⟩
 obtain⟨k,hk⟩:∃k:Int,cK % 6 - 1=k:=⟨_,rfl⟩
 rw [hk]
 have BF:=S5 _ _ OD
 have AD:=S5 _ _ e4
 have RZ:=ht4.same S5
 clear S5 OD e4 ht4 e5 n5 hm
 rw [hC]
 clear hC C
 refine uE fun C hC=>?_
 walk_at "rd"
 refine⟨a,ns,20,rfl,P4,aX,by (clear aX bC hm dX cc hd hlen bH cu cv fE fL gU hk BF AD hC;omega),by omega,_,rfl,⟨by decide,by decide⟩,by decide,?_⟩
 rw [fE]
 generalize dC:cK / 6 % 5=rl
 refine⟨by (clear aX bC hm dX cc hd hlen bH cu cv fE fL gU hk BF AD hC;lia),by (clear aX bC hm dX cc hd hlen bH cu cv fE fL gU hk BF AD hC;lia),?_⟩
 have gZ:rl.toNat≤4:=by (clear aX bC hm dX cc hd hlen bH cu cv fE fL gU hk BF AD hC;lia)
 generalize rl.toNat=rn at gZ
 refine QK (fun i ys H'=>∃row:List L2.ar,row.length=i∧aR H' (row.map cD) ys∧∀d∈row,jP names deeds 5 m d) ⟨[],rfl,.nil,by simp⟩ (by (clear aX bC hm dX cc hd hlen bH cu cv fE fL gU hk BF AD hC dC;lia)) (fun i ys H' h=>?_) (fun i ys H' hi S' h=>?_) (fun pr0 rs0 H6 H7 S6 S7 h n7 e7=>?_)
 · obtain⟨row,h1,h2,_⟩:=h
   have:=h2.length
   rw [List.length_map] at this;(clear aX bC hm dX cc hd hlen bH cu cv fE fL gU hk BF AD hC dC gZ;lia)
 · obtain⟨row,h1,h2,h3⟩:=h
   walk_at "rd"
   refine⟨a,pn,pD,ns,_,5,m,names,deeds,rfl,S'.seq P4,aX,by (clear aX bC hm dX cc hd hlen bH cu cv fE fL gU hk BF AD hC dC gZ hi h1;lia),by (clear aX bC hm dX cc hd hlen bH cu cv fE fL gU hk BF AD hC h1 dC;lia),S' _ _ BF,bH,cu,S' _ _ AD,cv,by (clear aX bC hm dX cc hd hlen bH cu cv fE fL gU hk BF AD hC dC gZ hi h1;omega),by (clear aX bC hm dX cc hd hlen bH cu cv fE fL gU hk BF AD hC dC gZ hi h1;omega),by (clear aX bC hm dX cc hd hlen bH cu cv fE dC gZ hi h1 BF AD hC hk fL;lia),by (clear aX bC hm dX cc hd hlen bH cu cv fE dC gZ hi h1 BF AD hC hk fL;lia),fun d vd HF SF dd K5=>⟨S'.trans SF,row++[d],by simp [h1],?_,?_⟩⟩
   · rw [List.map_append];exact(h2.same SF).append (.one dd)
   · intro e he
     rcases List.mem_append.mp he with he|he
     · exact h3 e he
     · rw [List.mem_singleton.mp he];exact K5
 obtain⟨MR,kO,OK,OB⟩:=h
 have OK:=OK.same S7
 have tX:rs0.length=MR.length:=by have:=OK.length;rw [List.length_map] at this;exact this
 have Tw:=(S6.trans S7).seq P4
 have ht7:=RZ.same (S6.trans S7)
 clear S6 S7 n7 RZ BF AD P4 Zv
 refine WalkL.comp e7 (fun i ys H'=>∃row:List L2.ar,row.length=i∧aR H' (row.map cD) ys∧∀d∈row,jP names deeds 5 m d) ⟨[],rfl,.nil,by simp⟩ (by (clear aX bC hm dX cc hd hlen bH cu cv fE fL gU hk hC dC e7;lia)) (fun i ys H' h=>?_) (fun i x ys H' ex S' h=>?_) (fun pr rs H8 H9 S8 S9 h n9 e9=>?_)
 · obtain⟨row,h1,h2,_⟩:=h
   have:=h2.length
   rw [List.length_map] at this;(clear aX bC hm dX cc hd hlen bH cu cv fE fL gU hk hC dC gZ e7 kO tX;lia)
 · obtain⟨row,h1,h2,h3⟩:=h
   have hi:i<MR.length:=by have:=(List.getElem?_eq_some_iff.mp ex).1;(clear aX bC hm dX cc hd hlen bH cu cv fE fL gU hk hC dC gZ e7 ex h1 kO;lia)
   obtain⟨y,hy,dy⟩:=aR.fY (OK.same S') (List.getElem?_eq_getElem hi)
   rw [ex] at hy;cases hy
   walk_at "rd"
   refine⟨a,ns,18,rfl,S'.seq Tw,aX,by (clear aX bC hm dX cc hd hlen bH cu cv fE fL gU hk hC dC gZ e7 kO tX ex h1;omega),by (clear aX bC hm dX cc hd hlen bH cu cv fE fL gU hk hC dC gZ e7 kO tX ex h1;omega),?_⟩
   refine⟨MR[i],_,_,m,5,names,deeds,rfl,dy,OB _ (List.getElem_mem hi),by (clear aX bC hm dX cc hd hlen bH cu cv fE fL kO tX ex h1 dC gZ e7 hC hk;lia),by (clear aX bC hm dX cc hd hlen bH cu cv fE fL kO tX ex h1 dC gZ e7 hC hk;lia),fun d vd HF SF dd K5=>⟨S'.trans SF,row++[d],by simp [h1],?_,?_⟩⟩
   · rw [List.map_append];exact(h2.same SF).append (.one dd)
   · intro e he
     rcases List.mem_append.mp he with he|he
     · exact h3 e he
     · rw [List.mem_singleton.mp he];exact K5
 obtain⟨row,FJ,dr,N1⟩:=h
 have dr:=dr.same S9
 have lO:rs.length=row.length:=by have:=dr.length;rw [List.length_map] at this;exact this
 have fm:row.length≤4:=by (clear aX bC hm dX cc hd hlen bH cu cv fE fL gU hk hC lO dC e9;lia)
 have Vn:=(S8.trans S9).seq Tw
 have ht9:=ht7.same (S8.trans S9)
 have NV:∀d∈row,yW d∧vT d:=fun d hd=>⟨K2 (N1 d hd) (by (clear aX bC hm dX cc hlen bH cu cv fE fL gU hk hC dC gZ e7 kO tX n9 e9 FJ lO fm;omega)) (by (clear hk hC dC gZ e7 kO tX n9 e9 FJ lO fm aX bC hm dX cc hlen bH cu cv fE fL;lia)) okn N7,(K4 shn shd (by (clear aX bC hm dX cc hlen bH cu cv fE fL gU hk hC dC gZ e7 kO tX n9 e9 FJ lO fm;omega)) (by (clear hk hC dC gZ e7 kO tX n9 e9 FJ lO fm aX bC hm dX cc hlen bH cu cv fE fL;lia)) (N1 d hd)).1⟩
 have okp:∀d∈row,d.ok 5 m:=fun d hd=>zf (N1 d hd)
 clear S8 S9 n9 ht7 Tw N1 OB OK e7 tX FJ kO okn N7 shn shd
 rw [hC]
 clear hC C
 refine iI fun C hC=>?_
 walk_at "rd"
 refine⟨a,ns,19,rfl,Vn,aX,by (clear aX bC hm dX cc hd hlen bH cu cv fE fL gU hk dC gZ e9 lO fm hC;omega),by (clear aX bC hm dX cc hd hlen bH cu cv fE fL gU hk dC gZ e9 lO fm hC;omega),_,rfl,by decide,a,ns,19,rfl,Vn,aX,by (clear aX bC hm dX cc hd hlen bH cu cv fE fL gU hk dC gZ e9 lO fm hC;omega),by (clear aX bC hm dX cc hd hlen bH cu cv fE fL gU hk dC gZ e9 lO fm hC;omega),_,rfl,⟨by decide,by decide⟩,by decide,by decide,aM.mk fun pw HA SA nA eA=>?_⟩
 generalize decide (cq ns (19:Int).toNat % 5=1)=b at *
 generalize decide (cq ns (19:Int).toNat / 5 % 5=1)=wr at *
 have NY:=SA _ _ e9
 have drA:=dr.same SA
 have U3:=ht9.same SA
 clear SA nA e9 dr ht9 Vn
 rw [hC]
 clear hC C
 refine iI fun C hC=>?_
 walk_at "rd"
 have tl:=Hl t (fun x h=>L2.gD (Dy x h)) (fun x h=>L2.gD (ud x h))
 have iM:(dI t).length≤9000:=by (clear gU hk dC gZ lO fm dX cc hd cv fE fL eA NY hC aX bC bH cu;lia)
 refine⟨t,v,rfl,U3,hd,by (clear aX bC hm dX cc hd hlen bH cu cv fE fL gU hk dC gZ lO fm eA NY hC tl;lia),by decide,aM.mk fun p6 HB SB nB eB=>?_⟩
 obtain⟨x1,J5,Hq⟩:∃x:Str,kT [V.str (Str.ofString ""),V.str (Str.ofString " ")] (if b=true then 1 else 0)=some (.str x)∧x.cps.toList=if b=true then [32] else []:=by
  cases b
  · exact⟨_,aP,by decide +kernel⟩
  · exact⟨_,cf,by decide +kernel⟩
 have MC:x1.length≤1:=by rw [cy,Hq];split<;>simp
 have hi1:(⟨(dI t).toArray⟩:Str).length=(dI t).length:=by rw [cy,zA]
 refine⟨_,aN (SB _ _ eA),_,aP,b,rfl,p6,rfl,_,aN eB,_,J5,_,rfl,_,rfl,aZ (by (clear aX bC hm dX cc hd hlen bH cu cv fE fL gU hk dC gZ lO fm eA nB eB J5 Hq NY hC tl;lia)),?_⟩
 obtain⟨z,hz⟩:∃z:Str,(⟨(dI t).toArray⟩:Str)++x1=z:=⟨_,rfl⟩
 rw [hz]
 have nW:z.cps.toList=dI t++if b=true then [32] else []:=by rw [←hz,cps_append,Hq]
 have pO:z.length≤10000:=by rw [←hz,cy,cps_append,List.length_append,←cy,←cy];(clear aX bC hm dX cc hd hlen bH cu cv fE fL gU hk dC gZ lO fm eA NY hC tl eB J5 nB Hq nW;lia)
 have Co:=SB _ _ eA
 have CZ:=SB _ _ NY
 have V4:=drA.same SB
 have htB:=U3.same SB
 clear SB nB eB eA NY drA U3 J5 Hq MC hz hi1 x1
 rw [hC]
 clear hC C
 refine iI fun C hC=>?_
 walk_at "rd"
 refine WalkL.comp CZ (fun i ys H'=>ys=((row.take i).map bT).map V.str) rfl (by (clear aX bC hm dX cc hd hlen bH cu cv fE fL gU nW pO Co CZ hC hk dC iM gZ tl;lia)) (fun i ys H' h=>by rw [h];simp;(clear aX bC hm dX cc hd hlen bH cu cv fE fL gU hk dC gZ lO fm tl iM nW pO Co CZ hC h;lia)) (fun i x ys H'' ex S' h=>?_) (fun p ys HC HD SC SD h nD eD=>?_)
 · have hi:i<row.length:=by have:=(List.getElem?_eq_some_iff.mp ex).1;(clear aX bC hm dX cc hd hlen bH cu cv fE fL gU hk tl iM nW pO Co CZ hC ex dC gZ fm h;lia)
   have e0:row[i]? = some row[i]:=List.getElem?_eq_getElem hi
   obtain⟨y,hy,dy⟩:=aR.fY V4 e0
   rw [ex] at hy;cases hy
   have K5:=(NV _ (List.getElem_mem hi)).1
   generalize row[i]=d at e0 dy K5
   obtain⟨b',rfl,Ha⟩:=fF (dy.same S')
   have hl5:(bp d).length≤5:=by cases d<;>simp [bp]
   walk_at "rd"
   refine lX.comp Ha (fun i ys H'=>ys=((bp d).take i).map fun v=>V.str (vJ v)) rfl (by (clear aX bC hm dX cc hd hlen bH cu cv fE fL gU hk dC gZ lO fm tl iM nW pO Co CZ hC h hi e0 Ha ex;lia)) (fun i ys H' h=>by rw [h];simp;(clear aX bC hm dX cc hd hlen bH cu cv fE fL gU hk dC gZ lO fm tl iM nW pO Co CZ hC hi e0 Ha ex hl5 h;lia)) (fun i x ys H3 ex S3 h=>?_) (fun p ys' H3 H4 S3 S4 h3 n4 e4=>?_)
   · have Fq:((bp d).take (i+1)).map (fun v=>V.str (vJ v))=ys++[V.str (vJ x)]:=by rw [List.take_add_one,ex,h];simp
     walk_at "rd"
     rcases CL d x (List.mem_of_getElem? ex) with ⟨z,rfl⟩|⟨k,hk,rfl⟩
     · exact .inl ⟨z,rfl,S3,Fq.symm⟩
     · have:=K5.1 k hk
       exact .inr ⟨k,rfl,RQ (by (clear aX bC hm dX cc hd hlen bH cu cv fE fL gU dC gZ lO fm tl iM nW pO Co CZ hC hi e0 Ha hl5 h ex Fq;lia)),S3,Fq.symm⟩
   · rw [List.take_length] at h3
     have e:ys'=(cL d).map V.str:=by rw [h3,←words_of d,List.map_map];rfl
     rw [e] at e4
     have hw:=qV K5
     have l5:=(ph d).2
     have s8:=vU (cL d) fun z hz=>(hw z hz).1
     refine⟨p,rfl,cL d,.inl (fD.of e4),?_,(S'.trans S3).trans S4,?_⟩
     · have:(Str.ofString " ").length=1:=by decide +kernel
       rw [this];(clear aX bC hm dX cc hd hlen bH cu cv fE fL gU hk dC gZ lO fm tl iM nW pO Co CZ hC h hi e0 Ha ex hl5 h3 n4 e4 this e;lia)
     · rw [h,List.take_add_one,e0];simp [bT]
 rw [lO,List.take_length] at h
 rw [h] at eD
 have yq:∀d∈row,yW d:=fun d hd=>(NV d hd).1
 have h2:∀r:List L2.ar,(∀d∈r,yW d)→((r.map bT).map fun x=>x.length).sum≤50*r.length:=by
  intro r
  induction r with
  | nil=>intro _;simp
  | cons d r ih=>
   intro h
   have a1:=(oy (h d (by simp))).1
   have a2:=ih fun d hd=>h d (by simp [hd])
   simp only [List.map_cons,List.sum_cons,List.length_cons] at a2 ⊢
   (clear aX bC hm dX cc hd hlen bH cu cv fE fL gU hk dC gZ lO fm tl iM nW pO Co CZ hC nD eD ih;lia)
 have h3:=h2 row yq
 have SCD:=SC.trans SD
 refine⟨p,rfl,row.map bT,.inl (fD.of eD),?_,by decide,aM.mk fun p7 HE SE nE eE=>?_⟩
 · have:(Str.ofString "; ").length=2:=by decide +kernel
   rw [this,List.length_map]
   (clear aX bC hm dX cc hd hlen bH cu cv fE fL gU hk dC iM nW pO Co CZ hC h nD gZ lO this tl eD;lia)
 have hrT:=yn yq
 obtain⟨x1,J5,Hq,MC⟩:∃x:Str,kT [V.str (Str.ofString ""),V.str (Str.ofString ";")] (if wr=true then 1 else 0)=some (.str x)∧x.length≤1∧d9 row++x=if wr=true then d9 row++Str.ofString ";" else d9 row:=by
  cases wr
  · exact⟨_,aP,by decide +kernel,kX (by rw [cps_append];simp;decide +kernel)⟩
  · exact⟨_,cf,by decide +kernel,rfl⟩
 have SBE:=SCD.trans SE
 refine⟨_,aN (SBE _ _ Co),_,cf,wr,rfl,p7,rfl,_,aN eE,_,J5,x1,rfl,aZ (show (d9 row).length+x1.length≤_ by (clear aX bC hm dX cc hd hlen bH cu tl iM nW pO Co CZ hC h nD cv fE fL gU hk dC gZ lO h3 nE MC eD eE J5;lia)),?_⟩
 rw [show Txt.join (Str.ofString "; ") (row.map bT)=d9 row from rfl,MC]
 have W9:=SBE _ _ Co
 have R1:=SBE _ _ CZ
 have drE:=V4.same SBE
 have htE:=htB.same SBE
 clear SBE SCD SC SD SE nE nD eE eD h Co CZ V4 htB J5 Hq MC h2 h3 hrT x1
 rw [hC]
 clear hC C
 refine uE fun C hC=>?_
 walk_at "rd"
 obtain⟨rt,Du⟩:∃rt:Str,(if wr=true then d9 row++Str.ofString ";" else d9 row)=rt:=⟨_,rfl⟩
 rw [Du]
 obtain⟨Pv,gW⟩:∃Pv:Nat→St→Hp→Prop,∀i σ H',Pv i σ H'↔ay HE H'∧∃L6:Option V,σ=[some (V.ref a),some (V.int many),some v,some (V.ref pn),some (V.ref pD),some (V.int k),some (V.int m),some (V.ref pr),some (V.ref pw),some (V.str z),some (V.str rt),some (V.bl ((row.take i).any (gS k))),L6,none,none,none,none]:=⟨_,fun _ _ _=>Iff.rfl⟩
 refine WalkL.DF R1 Pv ((gW _ _ _).mpr ⟨ay.refl _,none,rfl⟩) (fun i σ H' _ h=>((gW _ _ _).mp h).1 _ _ R1) ?_ ?_
 · intro i y σ H' ey h
   obtain⟨U1,L6,rfl⟩:=(gW _ _ _).mp h
   have hi:i<row.length:=by have:=(List.getElem?_eq_some_iff.mp ey).1;(clear aX bC hm dX cc hd hlen bH cu cv fE fL gU hk tl iM nW pO W9 R1 hC Du dC gZ fm ey;lia)
   obtain⟨y0,hy0,dy0⟩:=aR.fY (drE.same U1) (List.getElem?_eq_getElem hi)
   rw [ey] at hy0;cases hy0
   have enx:(row.take (i+1)).any (gS k)=((row.take i).any (gS k)||gS k row[i]):=by rw [List.take_add_one,List.getElem?_eq_getElem hi,List.any_append];simp
   walk_at "rd"
   refine bO (fun g=>(gW _ _ _).mpr ⟨U1,some y,?_⟩) (fun g=>⟨_,_,k,rfl,dy0,fun H2 S2=>(gW _ _ _).mpr ⟨U1.trans S2,some y,?_⟩⟩)
   · rw [enx,g,Bool.true_or]
   · rw [enx,Bool.eq_false_iff.mpr g,Bool.false_or]
 intro σ H' h
 obtain⟨U1,L6,rfl⟩:=(gW _ _ _).mp h
 clear gW h
 rw [lO,List.take_length]
 have FL:=U1 _ _ W9
 have htF:=htE.same U1
 clear U1 W9 htE R1 drE
 dsimp only
 rw [hC]
 clear hC C
 refine uE fun C hC=>?_
 have tail:∀du:Int,((du=0∧(b=true∨wr=true))∨(du=1∧b=false∧wr=false∧qH t k)∨(du=2∧b=false∧wr=false∧¬qH t k∧¬qA k.toNat 100 row)∨(du=3∧b=false∧wr=false∧¬qH t k∧qA k.toNat 100 row))→
  C [some (V.ref a),some (V.int many),some v,some (V.ref pn),some (V.ref pD),some (V.int k),some (V.int m),some (V.ref pr),some (V.ref pw),some (V.str z),some (V.str rt),some (V.bl (row.any (gS k))),L6,some (V.int du),none,none,none] H':=by
  intro du vL
  rw [hC]
  clear hC C
  refine Bi fun C hC=>?_
  have fin:∀(pB:Addr) (bs:List Bool) (UL:V) (o16:Option V) (H5:Hp),H5 pB=some (.lst (bs.map V.bl))→(((du=0∨du=1∨du=2)∧bs=[decide (du=0),decide (du=1),decide (du=2),true])∨(du=3∧bs=[]∧∃s,UL = .str s))→
   C [some (V.ref a),some (V.int many),some v,some (V.ref pn),some (V.ref pD),some (V.int k),some (V.int m),some (V.ref pr),some (V.ref pw),some (V.str z),some (V.str rt),some (V.bl (row.any (gS k))),L6,some (V.int du),some (.ref pB),some UL,o16] H5:=by
   intro pB bs UL o16 H5 eB hb
   rw [hC]
   clear hC C
   walk_at "rd"
   rcases hb with ⟨h,qW⟩|⟨h,qW,s,rfl⟩
   · have eB:H5 pB=some (.lst [V.bl (decide (du=0)),V.bl (decide (du=1)),V.bl (decide (du=2)),V.bl true]):=by rw [eB,qW];rfl
     rw [decide_eq_false (show ¬du=3 by (clear aX bC hm dX cc hd hlen bH cu cv fE fL gU hk dC gZ lO fm tl iM nW pO Du FL vL eB qW;lia))]
     have bl4:∀(h:Hp) (x y z:Bool),aR h [.bl x,.bl y,.bl z,.bl true] [V.bl x,V.bl y,V.bl z,V.bl true]:=fun h x y z=>.cons (wm.mpr rfl) (.cons (wm.mpr rfl) (.cons (wm.mpr rfl) (.cons (wm.mpr rfl) .nil)))
     refine eR ⟨by decide,aM.mk fun py H6 S6 n6 e6=>⟨_,Dt.lst (S6 _ _ eB) (bl4 _ _ _ _),_,Dt.lst e6 (bl4 _ _ _ _),by simp [D.dp,D.tK],?_⟩⟩
     rw [D.lp]
     exact q _
   · have eB:H5 pB=some (.lst []):=by rw [eB,qW];rfl
     rw [decide_eq_true h]
     refine fT ⟨Nat.zero_le _,aM.mk fun py H7 S7 n7 e7=>⟨_,Dt.lst (S7 _ _ eB) .nil,_,Dt.lst e7 .nil,by simp [D.dp,D.tK],?_⟩⟩
     rw [D.lp]
     refine fT ⟨_,_,⟨rfl,rfl⟩,"str",.str _,by decide,?_⟩
     rw [show Gq "str" "str"=true by decide]
     exact q _
  walk_at "rd"
  refine⟨Nat.zero_le _,aM.mk fun p1 H3 S3 n3 e3=>?_⟩
  refine⟨z,t,b,k,row,wr,by rw [Du],pO,nW,hd,by (clear dC gZ lO fm tl iM nW pO Du FL vL hC n3 e3 bH cu cv fE fL gU hk aX bC cc hd dX;lia),Dy,ud,Y3,by (clear dC gZ lO fm tl iM nW pO Du FL vL hC n3 e3 aX bC hm dX cc hd hlen bH cu cv fE fL gU;lia),by (clear aX bC hm dX cc hd hlen bH cu cv fE fL gU hk pO Du FL vL hC n3 e3 tl iM nW dC gZ lO;lia),NV,fun hb H4 S4=>?_,fun hb hw hf H4 S4=>?_,fun hb hw hf ho H4 S4=>?_,fun hb hw hf ho s H4 S4=>?_⟩
  · have vL:du=0:=by
     rcases vL with z|z|z|z
     · exact z.1
     · rw [z.2.1,z.2.2.1] at hb;simp at hb
     · rw [z.2.1,z.2.2.1] at hb;simp at hb
     · rw [z.2.1,z.2.2.1] at hb;simp at hb
    refine⟨T.aI,rfl,T.kN,T.cj,fun σ' e hσ bH=>?_⟩
    subst hσ
    walk_at "rd"
    refine⟨e,T.aI,_,⟨rfl,rfl⟩,_,rfl,aT,T.mT,_,T.cW,e,T.aI,_,⟨rfl,rfl⟩,_,rfl,aT,T.mT,_,T.cU,e,T.aI,_,⟨rfl,rfl⟩,_,rfl,aT,T.mT,_,T.cX,e,T.aI,_,⟨rfl,rfl⟩,_,rfl,aT,T.mT,_,T.bF,by decide,aM.mk fun pB HB SB nB eB=>?_⟩
    simp only [wV]
    walk_at "rd"
    exact fin pB [true,false,false,true] .non _ HB eB (.inl ⟨.inl vL,by rw [vL];rfl⟩)
  · have vL:du=1:=by
     rcases vL with z|z|z|z
     · rcases z.2 with z|z
       · rw [hb] at z;cases z
       · rw [hw] at z;cases z
     · exact z.1
     · exact absurd hf z.2.2.2.1
     · exact absurd hf z.2.2.2.1
    refine⟨T.aJ,rfl,T.xt,T.cg,fun σ' e hσ bH=>?_⟩
    subst hσ
    walk_at "rd"
    refine⟨e,T.aJ,_,⟨rfl,rfl⟩,_,rfl,aT,T.nO,_,T.cV,e,T.aJ,_,⟨rfl,rfl⟩,_,rfl,aT,T.nO,_,T.de,e,T.aJ,_,⟨rfl,rfl⟩,_,rfl,aT,T.nO,_,T.cY,e,T.aJ,_,⟨rfl,rfl⟩,_,rfl,aT,T.nO,_,T.bE,by decide,aM.mk fun pB HB SB nB eB=>?_⟩
    simp only [wV]
    walk_at "rd"
    exact fin pB [false,true,false,true] .non _ HB eB (.inl ⟨.inr (.inl vL),by rw [vL];rfl⟩)
  · have vL:du=2:=by
     rcases vL with z|z|z|z
     · rcases z.2 with z|z
       · rw [hb] at z;cases z
       · rw [hw] at z;cases z
     · exact absurd z.2.2.2 hf
     · exact z.1
     · exact absurd z.2.2.2.2 ho
    refine⟨T.aH,rfl,T.x8,T.cb,fun σ' e hσ bH=>?_⟩
    subst hσ
    walk_at "rd"
    refine⟨e,T.aH,_,⟨rfl,rfl⟩,_,rfl,aT,T.m5,_,T.cT,e,T.aH,_,⟨rfl,rfl⟩,_,rfl,aT,T.m5,_,T.cZ,e,T.aH,_,⟨rfl,rfl⟩,_,rfl,aT,T.m5,_,T.cS,e,T.aH,_,⟨rfl,rfl⟩,_,rfl,aT,T.m5,_,T.bG,by decide,aM.mk fun pB HB SB nB eB=>?_⟩
    simp only [wV]
    walk_at "rd"
    exact fin pB [false,false,true,true] .non _ HB eB (.inl ⟨.inr (.inr vL),by rw [vL];rfl⟩)
  · have vL:du=3:=by
     rcases vL with z|z|z|z
     · rcases z.2 with z|z
       · rw [hb] at z;cases z
       · rw [hw] at z;cases z
     · exact absurd z.2.2.2 hf
     · exact absurd ho z.2.2.2.2
     · exact z.1
    exact fin p1 [] (.str s) _ H4 (S4 _ _ e3) (.inr ⟨vL,rfl,s,rfl⟩)
 have Ac:1≤k→(row.any (gS k)=true↔¬qA k.toNat 100 row):=fun h=>LN h okp
 walk_at "rd"
 refine⟨_,aN FL,_,aP,b,rfl,bO (fun g=>tail 0 (.inl ⟨rfl,.inl g⟩)) (fun g=>?_)⟩
 have g1:b=false:=Bool.eq_false_iff.mpr g
 refine⟨_,aN FL,_,cf,wr,rfl,bO (fun g=>tail 0 (.inl ⟨rfl,.inr g⟩)) (fun g=>?_)⟩
 have g2:wr=false:=Bool.eq_false_iff.mpr g
 refine bO (fun g=>tail 1 (.inr (.inl ⟨rfl,g1,g2,.inl (of_decide_eq_true g)⟩))) (fun g3=>?_)
 have k1:1≤k:=by
  have:¬k<1:=fun z=>g3 (decide_eq_true z)
  (clear aX bC hm dX cc hd hlen bH cu cv fE fL gU hk dC gZ lO fm tl iM nW pO Du FL hC Ac g1 g g2 g3;omega)
 have last:¬qH t k→if row.any (gS k)=true then C [some (V.ref a),some (V.int many),some v,some (V.ref pn),some (V.ref pD),some (V.int k),some (V.int m),some (V.ref pr),some (V.ref pw),some (V.str z),some (V.str rt),some (V.bl (row.any (gS k))),L6,some (V.int 2),none,none,none] H' else C [some (V.ref a),some (V.int many),some v,some (V.ref pn),some (V.ref pD),some (V.int k),some (V.int m),some (V.ref pr),some (V.ref pw),some (V.str z),some (V.str rt),some (V.bl (row.any (gS k))),L6,some (V.int 3),none,none,none] H':=fun nf=>
  bO (fun g=>tail 2 (.inr (.inr (.inl ⟨rfl,g1,g2,nf,(Ac k1).mp g⟩)))) (fun g=>tail 3 (.inr (.inr (.inr ⟨rfl,g1,g2,nf,Classical.byContradiction fun z=>g ((Ac k1).mpr z)⟩))))
 refine bO (fun g4=>?_) (fun g4=>last ?_)
 · have k2:k=1:=of_decide_eq_true g4
   cases t with
   | leaf x=>
    obtain⟨at',rfl,ea⟩:=vt htF
    refine⟨at',rfl,_,aj ea,_,aP,rfl,?_⟩
    rw [decide_eq_false (by simp only [V.str.injEq];decide +kernel)]
    refine eR (last ?_)
    rintro (z|⟨_,z⟩)
    · (clear aX bC hm dX cc bH cu cv fE fL gU hk dC gZ lO fm pO Du FL hC Ac g1 g g2 g3 k1 g4 tl iM nW hlen ea hd last;lia)
    · have:=sO (M.Tr.leaf x)
      simp only [M.Tr.lv,List.length_singleton] at this
      (clear aX bC hm dX cc bH cu cv fE fL gU hk dC gZ lO fm pO Du FL hC Ac g1 g g2 g3 k1 g4 k2 hd hlen tl iM nW ea last;lia)
   | knot f l r=>
    obtain⟨at',vl,vr,rfl,ea,wq,B3⟩:=gm htF
    refine⟨at',rfl,_,aj ea,_,aP,rfl,?_⟩
    rw [decide_eq_true rfl]
    have h0:=sO (M.Tr.knot f l r)
    have h1:=sO l
    have h2:=sO r
    simp only [M.Tr.lv,List.length_append] at h0
    exact fT (tail 1 (.inr (.inl ⟨rfl,g1,g2,.inr ⟨k2,by (clear aX bC hm dX cc bH cu cv fE fL gU hk dC gZ lO fm pO Du FL hC Ac g1 g g2 g3 k1 g4 k2 hd hlen tl iM nW last ea;lia)⟩⟩)))
 · rintro (z|⟨z,_⟩)
   · (clear aX bC hm dX cc hd hlen bH cu cv fE fL gU hk dC gZ lO fm tl iM nW pO Du FL hC Ac g2 g3 g last g4;lia)
   · exact g4 (decide_eq_true z)
end
theorem mP {K:PySem.W.Frag}{C F:Addr}{r:Bool} (h:PySem.W.mroIn K C (.ref F)=some r):ni K C F=r:=by
 obtain⟨cd,a,b⟩:=Option.bind_eq_some_iff.mp h
 unfold PySem.W.clsIn at a
 split at a
 · rename_i lk
   cases a
   unfold ni
   rw [lk]
   split at b
   · cases b
   · exact Option.some.inj b
 · cases a
theorem mw {K:PySem.W.Frag}{C:Addr}{v:Value}{r:Bool} (h:PySem.W.mroIn K C v=some r):(PySem.W.clsIn K C).isSome=true:=by
 obtain⟨cd,a,_⟩:=Option.bind_eq_some_iff.mp h
 rw [a];rfl
theorem all_mk {l:PySem.W.OpenLaw}{w:World}{K:PySem.W.Frag}{h:Heap}{mg:Str→Option Value}{fa:Addr} (X:K.In h) (G:h.Ns mainGlobals mg)
 {f0:Addr}{od0 an0:Option Addr}{sl0:Array (Option Value)}{oc0 kV0 dc0 pm0 cd0 ct0:Value}
 {f1:Addr}{od1 an1:Option Addr}{sl1:Array (Option Value)}{oc1 kV1 dc1 pm1 cd1 Nt:Value}
 {f2:Addr}{od2 an2:Option Addr}{JK:Array (Option Value)}{oc2 kV2 dc2 pm2 cd2 Pa:Value}
 {f3:Addr}{od3 an3:Option Addr}{Mo:Array (Option Value)}{oc3 kV3 dc3 pm3 cd3 ct3:Value}
 {f4:Addr}{od4 an4:Option Addr}{sl4:Array (Option Value)}{oc4 kV4 dc4 pm4 cd4 ct4:Value}
 {f5:Addr}{od5 an5:Option Addr}{sl5:Array (Option Value)}{oc5 kV5 dc5 pm5 cd5 ct5:Value}
 {f6:Addr}{od6 an6:Option Addr}{sl6:Array (Option Value)}{oc6 kV6 dc6 pm6 cd6 ct6:Value}
 {f7:Addr}{od7 an7:Option Addr}{sl7:Array (Option Value)}{oc7 kV7 dc7 pm7 cd7 ct7:Value}
 {f8:Addr}{od8 an8:Option Addr}{sl8:Array (Option Value)}{oc8 kV8 dc8 pm8 cd8 ct8:Value}
 {f9:Addr}{od9 an9:Option Addr}{sl9:Array (Option Value)}{oc9 kV9 dc9 pm9 cd9 ct9:Value}
 {Q9:Addr}{Y8 X4:Option Addr}{aa1:Array (Option Value)}{XQ Zq Wb WH Pj SJ:Value}
 {R4:Addr}{UD abf:Option Addr}{U2:Array (Option Value)}{UC Y5 aam Wn Pe WL:Value}
 {Rl:Addr}{aaA Zx:Option Addr}{ZQ:Array (Option Value)}{Yw Vq ZF Xm QI UR:Value}
 {Rg:Addr}{Td US:Option Addr}{aat:Array (Option Value)}{YD Zy Zm Ys PH ZH:Value}
 {Rc:Addr}{aaI Zu:Option Addr}{VW:Array (Option Value)}{Xo Vm WY Sz Pk YK:Value}
 {Rp:Addr}{Yv SV:Option Addr}{TJ:Array (Option Value)}{XY aac Vb YL Ob Sb:Value}
 {Rq:Addr}{SN YY:Option Addr}{abz:Array (Option Value)}{ZX Yq aaO W2 Ow YZ:Value}
 {Rx:Addr}{UU Vo:Option Addr}{Yy:Array (Option Value)}{UJ Zp Sh YW Qc SK:Value}
 {Rk:Addr}{U5 aaQ:Option Addr}{XS:Array (Option Value)}{W4 Z1 VA Ur PD YO:Value}
 {RP:Addr}{Vh V8:Option Addr}{ZO:Array (Option Value)}{Wf VN abL abM Qf aaZ:Value}
 {Rv:Addr}{YV ZV:Option Addr}{Yl:Array (Option Value)}{abx Xq W5 Ui Qd aaE:Value}
 {R0:Addr}{aba UX:Option Addr}{abJ:Array (Option Value)}{Z6 Xw aal Zw N8 abd:Value}
 {Q4:Addr}{Sy Zs:Option Addr}{abg:Array (Option Value)}{Sw Sx Wi Uu PL Z5:Value}
 {RI:Addr}{We Xr:Option Addr}{WQ:Array (Option Value)}{Xe abD aaU XM O9 TX:Value}
 {Rn:Addr}{UM YS:Option Addr}{VG:Array (Option Value)}{YQ Y6 YI aaB Pb Uj:Value}
 {RS:Addr}{V5 ZY:Option Addr}{Xg:Array (Option Value)}{T5 X5 Up Ue OW WG:Value}
 {RW:Addr}{Wx Wv:Option Addr}{Y4:Array (Option Value)}{Uk aaw V9 ZC OQ ZZ:Value}
 {Rm:Addr}{YU YC:Option Addr}{Ts:Array (Option Value)}{UN Ye VC aa2 PQ TQ:Value}
 {Rb:Addr}{Xp Vv:Option Addr}{W3:Array (Option Value)}{Zg abm aan WR OZ aai:Value}
 {Rj:Addr}{YM abU:Option Addr}{VU:Array (Option Value)}{XG XO ZL aa5 Qt Tq:Value}
 {RA:Addr}{UH UE:Option Addr}{abl:Array (Option Value)}{Ta Yp Wk abW OV aax:Value}
 {Q1:Addr}{abu abr:Option Addr}{XR:Array (Option Value)}{aah UT YB UW QA VL:Value}
 {RL:Addr}{WJ ZA:Option Addr}{VX:Array (Option Value)}{Sj Xj Tx UK Oh TH:Value}
 {Rt:Addr}{W6 Wo:Option Addr}{V0:Array (Option Value)}{T3 aap Yj VY Qg XH:Value}
 {Rr:Addr}{VM Yb:Option Addr}{WM:Array (Option Value)}{UY ZW Xv WB Qz YF:Value}
 {R8:Addr}{Z4 abt:Option Addr}{ZE:Array (Option Value)}{aaG Uw WZ SU Oj Sd:Value}
 {Ru:Addr}{Zz TB:Option Addr}{UZ:Array (Option Value)}{Zb SI Y9 abA QX abQ:Value}
 {RC:Addr}{Yo Th:Option Addr}{aaL:Array (Option Value)}{Zl abP W8 SM OM Vt:Value}
 {RY:Addr}{Sn aaM:Option Addr}{WT:Array (Option Value)}{VT Ww X9 abS QG VZ:Value}
 {RM:Addr}{Zh Tv:Option Addr}{Ux:Array (Option Value)}{WA V1 Tj Vu Om ZR:Value}
 {RH:Addr}{X1 Uq:Option Addr}{Yg:Array (Option Value)}{ZN ZU Uz V2 QE aaV:Value}
 {Q7:Addr}{Va aaF:Option Addr}{Z2:Array (Option Value)}{Tp T6 VD abR PU ZS:Value}
 {Q8:Addr}{VE abv:Option Addr}{aaa:Array (Option Value)}{abI aau Te SX Qq T4:Value}
 {R5:Addr}{abc Um:Option Addr}{abF:Array (Option Value)}{V7 UG aad Y0 P5 Vf:Value}
 {RK:Addr}{aa9 Wd:Option Addr}{WE:Array (Option Value)}{TK ZP Zj abB QO WK:Value}
 {PM:Addr}{aaS Yk:Option Addr}{XU:Array (Option Value)}{Wj XB Xh Z8 P8 SO:Value}
 {tk0:Tok}
 {tk1:Tok}
 {tk2:Tok}
 {tk3:Tok}
 {tk4:Tok}
 {tk5:Tok}
 {bB:Addr}
 {aH:Addr}
 {aI:Addr}
 {aJ:Addr}
 (a0:PySem.W.nsIn K mainGlobals "box_numbers"=some (some (.ref f0))) (l0:K.lookup f0=some ⟨oc0,od0,.func (PySem.W.fnOf "box_numbers" "box_numbers" (av dh) (au dh) (ah dh) .none kV0 dc0 pm0 an0 cd0 ct0),sl0⟩) (c0:PySem.W.codeIn K cd0 "box_numbers"=true) (k0:PySem.W.keepIn K (.ref f0)=true)
 (a1:PySem.W.nsIn K mainGlobals "shelf_numbers"=some (some (.ref f1))) (l1:K.lookup f1=some ⟨oc1,od1,.func (PySem.W.fnOf "shelf_numbers" "shelf_numbers" (av bV) (au bV) (ah bV) .none kV1 dc1 pm1 an1 cd1 Nt),sl1⟩) (c1:PySem.W.codeIn K cd1 "shelf_numbers"=true) (k1:PySem.W.keepIn K (.ref f1)=true)
 (a2:PySem.W.nsIn K mainGlobals "check_numbers"=some (some (.ref f2))) (l2:K.lookup f2=some ⟨oc2,od2,.func (PySem.W.fnOf "check_numbers" "check_numbers" (av bW) (au bW) (ah bW) .none kV2 dc2 pm2 an2 cd2 Pa),JK⟩) (c2:PySem.W.codeIn K cd2 "check_numbers"=true) (k2:PySem.W.keepIn K (.ref f2)=true)
 (a3:PySem.W.nsIn K mainGlobals "check_deed"=some (some (.ref f3))) (l3:K.lookup f3=some ⟨oc3,od3,.func (PySem.W.fnOf "check_deed" "check_deed" (av dW) (au dW) (ah dW) .none kV3 dc3 pm3 an3 cd3 ct3),Mo⟩) (c3:PySem.W.codeIn K cd3 "check_deed"=true) (k3:PySem.W.keepIn K (.ref f3)=true)
 (a4:PySem.W.nsIn K mainGlobals "moved_value"=some (some (.ref f4))) (l4:K.lookup f4=some ⟨oc4,od4,.func (PySem.W.fnOf "moved_value" "moved_value" (av dk) (au dk) (ah dk) .none kV4 dc4 pm4 an4 cd4 ct4),sl4⟩) (c4:PySem.W.codeIn K cd4 "moved_value"=true) (k4:PySem.W.keepIn K (.ref f4)=true)
 (a5:PySem.W.nsIn K mainGlobals "state_behind"=some (some (.ref f5))) (l5:K.lookup f5=some ⟨oc5,od5,.func (PySem.W.fnOf "state_behind" "state_behind" (av cz) (au cz) (ah cz) .none kV5 dc5 pm5 an5 cd5 ct5),sl5⟩) (c5:PySem.W.codeIn K cd5 "state_behind"=true) (k5:PySem.W.keepIn K (.ref f5)=true)
 (a6:PySem.W.nsIn K mainGlobals "is_name"=some (some (.ref f6))) (l6:K.lookup f6=some ⟨oc6,od6,.func (PySem.W.fnOf "is_name" "is_name" (av gz) (au gz) (ah gz) .none kV6 dc6 pm6 an6 cd6 ct6),sl6⟩) (c6:PySem.W.codeIn K cd6 "is_name"=true) (k6:PySem.W.keepIn K (.ref f6)=true)
 (a7:PySem.W.nsIn K mainGlobals "is_leaf"=some (some (.ref f7))) (l7:K.lookup f7=some ⟨oc7,od7,.func (PySem.W.fnOf "is_leaf" "is_leaf" (av gy) (au gy) (ah gy) .none kV7 dc7 pm7 an7 cd7 ct7),sl7⟩) (c7:PySem.W.codeIn K cd7 "is_leaf"=true) (k7:PySem.W.keepIn K (.ref f7)=true)
 (a8:PySem.W.nsIn K mainGlobals "places"=some (some (.ref f8))) (l8:K.lookup f8=some ⟨oc8,od8,.func (PySem.W.fnOf "places" "places" (av iG) (au iG) (ah iG) .none kV8 dc8 pm8 an8 cd8 ct8),sl8⟩) (c8:PySem.W.codeIn K cd8 "places"=true) (k8:PySem.W.keepIn K (.ref f8)=true)
 (a9:PySem.W.nsIn K mainGlobals "leaves"=some (some (.ref f9))) (l9:K.lookup f9=some ⟨oc9,od9,.func (PySem.W.fnOf "leaves" "leaves" (av iS) (au iS) (ah iS) .none kV9 dc9 pm9 an9 cd9 ct9),sl9⟩) (c9:PySem.W.codeIn K cd9 "leaves"=true) (k9:PySem.W.keepIn K (.ref f9)=true)
 (TZ:PySem.W.nsIn K mainGlobals "part_at"=some (some (.ref Q9))) (SQ:K.lookup Q9=some ⟨XQ,Y8,.func (PySem.W.fnOf "part_at" "part_at" (av gw) (au gw) (ah gw) .none Zq Wb WH X4 Pj SJ),aa1⟩) (Z3:PySem.W.codeIn K Pj "part_at"=true) (PB:PySem.W.keepIn K (.ref Q9)=true)
 (a11:PySem.W.nsIn K mainGlobals "place_of"=some (some (.ref R4))) (l11:K.lookup R4=some ⟨UC,UD,.func (PySem.W.fnOf "place_of" "place_of" (av fy) (au fy) (ah fy) .none Y5 aam Wn abf Pe WL),U2⟩) (V3:PySem.W.codeIn K Pe "place_of"=true) (Yd:PySem.W.keepIn K (.ref R4)=true)
 (Uo:PySem.W.nsIn K mainGlobals "deeper_than"=some (some (.ref Rl))) (U7:K.lookup Rl=some ⟨Yw,aaA,.func (PySem.W.fnOf "deeper_than" "deeper_than" (av di) (au di) (ah di) .none Vq ZF Xm Zx QI UR),ZQ⟩) (Uh:PySem.W.codeIn K QI "deeper_than"=true) (Wg:PySem.W.keepIn K (.ref Rl)=true)
 (XZ:PySem.W.nsIn K mainGlobals "check_size"=some (some (.ref Rg))) (XE:K.lookup Rg=some ⟨YD,Td,.func (PySem.W.fnOf "check_size" "check_size" (av dQ) (au dQ) (ah dQ) .none Zy Zm Ys US PH ZH),aat⟩) (VF:PySem.W.codeIn K PH "check_size"=true) (T2:PySem.W.keepIn K (.ref Rg)=true)
 (Si:PySem.W.nsIn K mainGlobals "check_names"=some (some (.ref Rc))) (l14:K.lookup Rc=some ⟨Xo,aaI,.func (PySem.W.fnOf "check_names" "check_names" (av dm) (au dm) (ah dm) .none Vm WY Sz Zu Pk YK),VW⟩) (c14:PySem.W.codeIn K Pk "check_names"=true) (Su:PySem.W.keepIn K (.ref Rc)=true)
 (Sv:PySem.W.nsIn K mainGlobals "formula"=some (some (.ref Rp))) (l15:K.lookup Rp=some ⟨XY,Yv,.func (PySem.W.fnOf "formula" "formula" (av gu) (au gu) (ah gu) .none aac Vb YL SV Ob Sb),TJ⟩) (Ze:PySem.W.codeIn K Ob "formula"=true) (k15:PySem.W.keepIn K (.ref Rp)=true)
 (ZI:PySem.W.nsIn K mainGlobals "fresh"=some (some (.ref Rq))) (Vw:K.lookup Rq=some ⟨ZX,SN,.func (PySem.W.fnOf "fresh" "fresh" (av s_fresh) (au s_fresh) (ah s_fresh) .none Yq aaO W2 YY Ow YZ),abz⟩) (c16:PySem.W.codeIn K Ow "fresh"=true) (Wr:PySem.W.keepIn K (.ref Rq)=true)
 (Wh:PySem.W.nsIn K mainGlobals "knot_over"=some (some (.ref Rx))) (Yr:K.lookup Rx=some ⟨UJ,UU,.func (PySem.W.fnOf "knot_over" "knot_over" (av eI) (au eI) (ah eI) .none Zp Sh YW Vo Qc SK),Yy⟩) (c17:PySem.W.codeIn K Qc "knot_over"=true) (UA:PySem.W.keepIn K (.ref Rx)=true)
 (To:PySem.W.nsIn K mainGlobals "mark_brought"=some (some (.ref Rk))) (Vg:K.lookup Rk=some ⟨W4,U5,.func (PySem.W.fnOf "mark_brought" "mark_brought" (av cG) (au cG) (ah cG) .none Z1 VA Ur aaQ PD YO),XS⟩) (Wq:PySem.W.codeIn K PD "mark_brought"=true) (Xk:PySem.W.keepIn K (.ref Rk)=true)
 (WS:PySem.W.nsIn K mainGlobals "marked"=some (some (.ref RP))) (Sq:K.lookup RP=some ⟨Wf,Vh,.func (PySem.W.fnOf "marked" "marked" (av iV) (au iV) (ah iV) .none VN abL abM V8 Qf aaZ),ZO⟩) (X6:PySem.W.codeIn K Qf "marked"=true) (Ul:PySem.W.keepIn K (.ref RP)=true)
 (YA:PySem.W.nsIn K mainGlobals "moments"=some (some (.ref Rv))) (SW:K.lookup Rv=some ⟨abx,YV,.func (PySem.W.fnOf "moments" "moments" (av gn) (au gn) (ah gn) .none Xq W5 Ui ZV Qd aaE),Yl⟩) (T9:PySem.W.codeIn K Qd "moments"=true) (TV:PySem.W.keepIn K (.ref Rv)=true)
 (a21:PySem.W.nsIn K mainGlobals "formula_held"=some (some (.ref R0))) (VQ:K.lookup R0=some ⟨Z6,aba,.func (PySem.W.fnOf "formula_held" "formula_held" (av cJ) (au cJ) (ah cJ) .none Xw aal Zw UX N8 abd),abJ⟩) (Zt:PySem.W.codeIn K N8 "formula_held"=true) (ZK:PySem.W.keepIn K (.ref R0)=true)
 (VP:PySem.W.nsIn K mainGlobals "rank"=some (some (.ref Q4))) (l22:K.lookup Q4=some ⟨Sw,Sy,.func (PySem.W.fnOf "rank" "rank" (av pM) (au pM) (ah pM) .none Sx Wi Uu Zs PL Z5),abg⟩) (Yx:PySem.W.codeIn K PL "rank"=true) (k22:PySem.W.keepIn K (.ref Q4)=true)
 (X3:PySem.W.nsIn K mainGlobals "puts"=some (some (.ref RI))) (VO:K.lookup RI=some ⟨Xe,We,.func (PySem.W.fnOf "puts" "puts" (av oS) (au oS) (ah oS) .none abD aaU XM Xr O9 TX),WQ⟩) (Zn:PySem.W.codeIn K O9 "puts"=true) (Xf:PySem.W.keepIn K (.ref RI)=true)
 (Xs:PySem.W.nsIn K mainGlobals "must_put"=some (some (.ref Rn))) (Yn:K.lookup Rn=some ⟨YQ,UM,.func (PySem.W.fnOf "must_put" "must_put" (av fz) (au fz) (ah fz) .none Y6 YI aaB YS Pb Uj),VG⟩) (c24:PySem.W.codeIn K Pb "must_put"=true) (TY:PySem.W.keepIn K (.ref Rn)=true)
 (Tn:PySem.W.nsIn K mainGlobals "least"=some (some (.ref RS))) (YH:K.lookup RS=some ⟨T5,V5,.func (PySem.W.fnOf "least" "least" (av kS) (au kS) (ah kS) .none X5 Up Ue ZY OW WG),Xg⟩) (Sr:PySem.W.codeIn K OW "least"=true) (k25:PySem.W.keepIn K (.ref RS)=true)
 (a26:PySem.W.nsIn K mainGlobals "is_number"=some (some (.ref RW))) (X8:K.lookup RW=some ⟨Uk,Wx,.func (PySem.W.fnOf "is_number" "is_number" (av eO) (au eO) (ah eO) .none aaw V9 ZC Wv OQ ZZ),Y4⟩) (Z0:PySem.W.codeIn K OQ "is_number"=true) (Sl:PySem.W.keepIn K (.ref RW)=true)
 (XF:PySem.W.nsIn K mainGlobals "read_part"=some (some (.ref Rm))) (WW:K.lookup Rm=some ⟨UN,YU,.func (PySem.W.fnOf "read_part" "read_part" (av eP) (au eP) (ah eP) .none Ye VC aa2 YC PQ TQ),Ts⟩) (T7:PySem.W.codeIn K PQ "read_part"=true) (k27:PySem.W.keepIn K (.ref Rm)=true)
 (Ss:PySem.W.nsIn K mainGlobals "read_deed"=some (some (.ref Rb))) (Yz:K.lookup Rb=some ⟨Zg,Xp,.func (PySem.W.fnOf "read_deed" "read_deed" (av eF) (au eF) (ah eF) .none abm aan WR Vv OZ aai),W3⟩) (Vj:PySem.W.codeIn K OZ "read_deed"=true) (XD:PySem.W.keepIn K (.ref Rb)=true)
 (a29:PySem.W.nsIn K mainGlobals "read_row"=some (some (.ref Rj))) (Wu:K.lookup Rj=some ⟨XG,YM,.func (PySem.W.fnOf "read_row" "read_row" (av ft) (au ft) (ah ft) .none XO ZL aa5 abU Qt Tq),VU⟩) (X7:PySem.W.codeIn K Qt "read_row"=true) (k29:PySem.W.keepIn K (.ref Rj)=true)
 (XT:PySem.W.nsIn K mainGlobals "name_end"=some (some (.ref RA))) (UB:K.lookup RA=some ⟨Ta,UH,.func (PySem.W.fnOf "name_end" "name_end" (av fw) (au fw) (ah fw) .none Yp Wk abW UE OV aax),abl⟩) (TF:PySem.W.codeIn K OV "name_end"=true) (TN:PySem.W.keepIn K (.ref RA)=true)
 (U0:PySem.W.nsIn K mainGlobals "past"=some (some (.ref Q1))) (Vd:K.lookup Q1=some ⟨aah,abu,.func (PySem.W.fnOf "past" "past" (av pS) (au pS) (ah pS) .none UT YB UW abr QA VL),XR⟩) (Wa:PySem.W.codeIn K QA "past"=true) (Xd:PySem.W.keepIn K (.ref Q1)=true)
 (Yh:PySem.W.nsIn K mainGlobals "tree_from"=some (some (.ref RL))) (Yu:K.lookup RL=some ⟨Sj,WJ,.func (PySem.W.fnOf "tree_from" "tree_from" (av eN) (au eN) (ah eN) .none Xj Tx UK ZA Oh TH),VX⟩) (T8:PySem.W.codeIn K Oh "tree_from"=true) (k32:PySem.W.keepIn K (.ref RL)=true)
 (VS:PySem.W.nsIn K mainGlobals "read"=some (some (.ref Rt))) (X0:K.lookup Rt=some ⟨T3,W6,.func (PySem.W.fnOf "read" "read" (av oW) (au oW) (ah oW) .none aap Yj VY Wo Qg XH),V0⟩) (Zd:PySem.W.codeIn K Qg "read"=true) (SR:PySem.W.keepIn K (.ref Rt)=true)
 (Wy:PySem.W.nsIn K mainGlobals "figures"=some (some (.ref Rr))) (l34:K.lookup Rr=some ⟨UY,VM,.func (PySem.W.fnOf "figures" "figures" (av gv) (au gv) (ah gv) .none ZW Xv WB Yb Qz YF),WM⟩) (W0:PySem.W.codeIn K Qz "figures"=true) (SH:PySem.W.keepIn K (.ref Rr)=true)
 (a35:PySem.W.nsIn K mainGlobals "judge"=some (some (.ref R8))) (SS:K.lookup R8=some ⟨aaG,Z4,.func (PySem.W.fnOf "judge" "judge" (av la) (au la) (ah la) .none Uw WZ SU abt Oj Sd),ZE⟩) (Tu:PySem.W.codeIn K Oj "judge"=true) (k35:PySem.W.keepIn K (.ref R8)=true)
 (a36:PySem.W.nsIn K mainGlobals "_law_at"=some (some (.ref Ru))) (ZG:K.lookup Ru=some ⟨Zb,Zz,.func (PySem.W.fnOf "_law_at" "_law_at" (av gA) (au gA) (ah gA) .none SI Y9 abA TB QX abQ),UZ⟩) (Vr:PySem.W.codeIn K QX "_law_at"=true) (Xy:PySem.W.keepIn K (.ref Ru)=true)
 (a37:PySem.W.nsIn K mainGlobals "_law_names"=some (some (.ref RC))) (Tt:K.lookup RC=some ⟨Zl,Yo,.func (PySem.W.fnOf "_law_names" "_law_names" (av dR) (au dR) (ah dR) .none abP W8 SM Th OM Vt),aaL⟩) (WN:PySem.W.codeIn K OM "_law_names"=true) (Vy:PySem.W.keepIn K (.ref RC)=true)
 (a38:PySem.W.nsIn K mainGlobals "_law_many"=some (some (.ref RY))) (Wc:K.lookup RY=some ⟨VT,Sn,.func (PySem.W.fnOf "_law_many" "_law_many" (av eG) (au eG) (ah eG) .none Ww X9 abS aaM QG VZ),WT⟩) (Zc:PySem.W.codeIn K QG "_law_many"=true) (XX:PySem.W.keepIn K (.ref RY)=true)
 (YT:PySem.W.nsIn K mainGlobals "_law_second"=some (some (.ref RM))) (UP:K.lookup RM=some ⟨WA,Zh,.func (PySem.W.fnOf "_law_second" "_law_second" (av dq) (au dq) (ah dq) .none V1 Tj Vu Tv Om ZR),Ux⟩) (c39:PySem.W.codeIn K Om "_law_second"=true) (Yt:PySem.W.keepIn K (.ref RM)=true)
 (Vz:PySem.W.nsIn K mainGlobals "_law_tree"=some (some (.ref RH))) (Vk:K.lookup RH=some ⟨ZN,X1,.func (PySem.W.fnOf "_law_tree" "_law_tree" (av eM) (au eM) (ah eM) .none ZU Uz V2 Uq QE aaV),Yg⟩) (ZM:PySem.W.codeIn K QE "_law_tree"=true) (Xa:PySem.W.keepIn K (.ref RH)=true)
 (VH:PySem.W.nsIn K mainGlobals "_law_deed"=some (some (.ref Q7))) (YE:K.lookup Q7=some ⟨Tp,Va,.func (PySem.W.fnOf "_law_deed" "_law_deed" (av eh) (au eh) (ah eh) .none T6 VD abR aaF PU ZS),Z2⟩) (U6:PySem.W.codeIn K PU "_law_deed"=true) (XA:PySem.W.keepIn K (.ref Q7)=true)
 (YN:PySem.W.nsIn K mainGlobals "_law_text"=some (some (.ref Q8))) (Tg:K.lookup Q8=some ⟨abI,VE,.func (PySem.W.fnOf "_law_text" "_law_text" (av eK) (au eK) (ah eK) .none aau Te SX abv Qq T4),aaa⟩) (c42:PySem.W.codeIn K Qq "_law_text"=true) (Sk:PySem.W.keepIn K (.ref Q8)=true)
 (a43:PySem.W.nsIn K mainGlobals "_law_high"=some (some (.ref R5))) (XC:K.lookup R5=some ⟨V7,abc,.func (PySem.W.fnOf "_law_high" "_law_high" (av eJ) (au eJ) (ah eJ) .none UG aad Y0 Um P5 Vf),abF⟩) (UQ:PySem.W.codeIn K P5 "_law_high"=true) (Ve:PySem.W.keepIn K (.ref R5)=true)
 (XN:PySem.W.nsIn K mainGlobals "_law_beyond"=some (some (.ref RK))) (Uv:K.lookup RK=some ⟨TK,aa9,.func (PySem.W.fnOf "_law_beyond" "_law_beyond" (av dj) (au dj) (ah dj) .none ZP Zj abB Wd QO WK),WE⟩) (Xl:PySem.W.codeIn K QO "_law_beyond"=true) (Ws:PySem.W.keepIn K (.ref RK)=true)
 (Wt:PySem.W.nsIn K mainGlobals "law"=some (some (.ref PM))) (WD:K.lookup PM=some ⟨Wj,aaS,.func (PySem.W.fnOf "law" "law" (av uM) (au uM) (ah uM) .none XB Xh Z8 Yk P8 SO),XU⟩) (ZD:PySem.W.codeIn K P8 "law"=true) (k45:PySem.W.keepIn K (.ref PM)=true)
 (v0:PySem.W.nsIn K mainGlobals "BOXES_TOLD"=some (some (.int 10000 tk0)))
 (v1:PySem.W.nsIn K mainGlobals "LONGEST_NAME"=some (some (.int 8 tk1)))
 (v2:PySem.W.nsIn K mainGlobals "MOST_DEEP"=some (some (.int 24 tk2)))
 (v3:PySem.W.nsIn K mainGlobals "MOST_FIGURES"=some (some (.int 4 tk3)))
 (v4:PySem.W.nsIn K mainGlobals "MOST_LEAVES"=some (some (.int 32 tk4)))
 (v5:PySem.W.nsIn K mainGlobals "SHELF_PLACES"=some (some (.int 100 tk5)))
 (z0:PySem.W.nsIn K mainGlobals "ValueError"=some none)
 (z1:PySem.W.nsIn K mainGlobals "all"=some none)
 (z2:PySem.W.nsIn K mainGlobals "any"=some none)
 (z3:PySem.W.nsIn K mainGlobals "int"=some none)
 (z4:PySem.W.nsIn K mainGlobals "isinstance"=some none)
 (z5:PySem.W.nsIn K mainGlobals "len"=some none)
 (z6:PySem.W.nsIn K mainGlobals "list"=some none)
 (z7:PySem.W.nsIn K mainGlobals "max"=some none)
 (z8:PySem.W.nsIn K mainGlobals "min"=some none)
 (z9:PySem.W.nsIn K mainGlobals "range"=some none)
 (Zi:PySem.W.nsIn K mainGlobals "str"=some none)
 (UI:PySem.W.nsIn K mainGlobals "tuple"=some none)
 (XI:PySem.W.nsIn K mainGlobals "zip"=some none)
 (ky:PySem.W.nsIn K mainGlobals "FewError"=some (some (.ref bB)))
 (ko:PySem.W.excIn K bB Km "ValueError.__new__"=true)
 (ou:PySem.W.nsIn K mainGlobals "NoDeed"=some (some (.ref aH)))
 (lA:PySem.W.excIn K aH Km "ValueError.__new__"=true)
 (pR:PySem.W.nsIn K mainGlobals "NoText"=some (some (.ref aI)))
 (lC:PySem.W.excIn K aI Km "ValueError.__new__"=true)
 (pI:PySem.W.nsIn K mainGlobals "TooFew"=some (some (.ref aJ)))
 (lh:PySem.W.excIn K aJ Km "ValueError.__new__"=true)
 (cb:PySem.W.mroIn K aH (.ref bB)=some true)
 (cj:PySem.W.mroIn K aI (.ref bB)=some true)
 (cg:PySem.W.mroIn K aJ (.ref bB)=some true)
 (oV:PySem.W.findIn K (.ref aH) "__getattribute__"=some (some (.builtin "BaseException.__getattribute__")))
 (ow:PySem.W.findIn K (.ref aH) "__getattr__"=some none)
 (oI:PySem.W.findIn K (.ref aH) "__class__"=some (some (.builtin "object.__class__")))
 (oB:PySem.W.specialIn K (.builtin "object.__class__") "__get__"=some (some (.builtin "getset_descriptor.__get__")))
 (pP:PySem.W.takesIn K (.builtin "object.__class__")=some true)
 (lq:PySem.W.mroIn K aH (.type "object")=some true)
 (cS:PySem.W.kitOne K (.ref aH) (.ref aH)=some true)
 (cT:PySem.W.kitOne K (.ref aH) (.ref aI)=some false)
 (cZ:PySem.W.kitOne K (.ref aH) (.ref aJ)=some false)
 (bG:PySem.W.kitOne K (.ref aH) (.type "ValueError")=some true)
 (pX:PySem.W.findIn K (.ref aI) "__getattribute__"=some (some (.builtin "BaseException.__getattribute__")))
 (oZ:PySem.W.findIn K (.ref aI) "__getattr__"=some none)
 (pq:PySem.W.findIn K (.ref aI) "__class__"=some (some (.builtin "object.__class__")))
 (oK:PySem.W.specialIn K (.builtin "object.__class__") "__get__"=some (some (.builtin "getset_descriptor.__get__")))
 (oM:PySem.W.takesIn K (.builtin "object.__class__")=some true)
 (lE:PySem.W.mroIn K aI (.type "object")=some true)
 (cX:PySem.W.kitOne K (.ref aI) (.ref aH)=some false)
 (cW:PySem.W.kitOne K (.ref aI) (.ref aI)=some true)
 (cU:PySem.W.kitOne K (.ref aI) (.ref aJ)=some false)
 (bF:PySem.W.kitOne K (.ref aI) (.type "ValueError")=some true)
 (oi:PySem.W.findIn K (.ref aJ) "__getattribute__"=some (some (.builtin "BaseException.__getattribute__")))
 (oJ:PySem.W.findIn K (.ref aJ) "__getattr__"=some none)
 (oU:PySem.W.findIn K (.ref aJ) "__class__"=some (some (.builtin "object.__class__")))
 (oQ:PySem.W.specialIn K (.builtin "object.__class__") "__get__"=some (some (.builtin "getset_descriptor.__get__")))
 (oY:PySem.W.takesIn K (.builtin "object.__class__")=some true)
 (lj:PySem.W.mroIn K aJ (.type "object")=some true)
 (cY:PySem.W.kitOne K (.ref aJ) (.ref aH)=some false)
 (cV:PySem.W.kitOne K (.ref aJ) (.ref aI)=some false)
 (de:PySem.W.kitOne K (.ref aJ) (.ref aJ)=some true)
 (bE:PySem.W.kitOne K (.ref aJ) (.type "ValueError")=some true) {pA WX Xz Z9 WV:Addr}{Ro RN RO Q5:Int}{pq1 pq2 pq3 pq4:Tok}{pe pn1 pn2 pn3 pn4:Nat}{po1 po2 po3 po4:Option Addr}{ps1 ps2 ps3 ps4:Array (Option Value)}{pr0 mO mD y3 zQ qJ yN Aq pr8 pr9:Tok} (pa:PySem.W.nsIn K mainGlobals "PARTS"=some (some (.ref pA))) (pd:K.lookup pA=some {cls:=.type "dict",dict:=none,data:=.dict #[⟨Ro,.str (Str.ofString "take") pq1,.ref WX⟩,⟨RN,.str (Str.ofString "join") pq2,.ref Xz⟩,⟨RO,.str (Str.ofString "put") pq3,.ref Z9⟩,⟨Q5,.str (Str.ofString "fetch") pq4,.ref WV⟩] pe,slots:=#[]}) (VI:K.lookup WX=some ⟨.type "tuple",po1,.seq #[.str (Str.ofString "name") pr0,.str (Str.ofString "number") mO] pn1,ps1⟩) (Y7:K.lookup Xz=some ⟨.type "tuple",po2,.seq #[.str (Str.ofString "name") mD,.str (Str.ofString "number") y3,.str (Str.ofString "number") zQ,.str (Str.ofString "number") qJ] pn2,ps2⟩) (YJ:K.lookup Z9=some ⟨.type "tuple",po3,.seq #[.str (Str.ofString "number") yN,.str (Str.ofString "number") Aq] pn3,ps3⟩) (Sg:K.lookup WV=some ⟨.type "tuple",po4,.seq #[.str (Str.ofString "number") pr8,.str (Str.ofString "number") pr9] pn4,ps4⟩) (Xn:Ro=hashStr w (Str.ofString "take")) (aa3:RN=hashStr w (Str.ofString "join")) (VV:RO=hashStr w (Str.ofString "put")) (abj:Q5=hashStr w (Str.ofString "fetch")) (pz:(pA==sysModules)=false) (hfa:mg "law"=some (.ref fa)) :
 ∃fd:FuncData,(∀(s:Shared) (v:Value),BindsTo s fd ⟨[v],[]⟩ [("script",v)])∧∀base:Heap,K.In base→base.Ns mainGlobals mg→bg l.prog w K mg base CX0 60 fa fd ["script"] (AS K):=by
 obtain⟨T,e,b⟩:∃T:Txt K mg,T.BU=PM∧(∀(s:Shared) (v:Value),BindsTo s T.xn ⟨[v],[]⟩ [("script",v)]):=by
  have F0:=aS (st:=dh) l0 c0 k0
  have b0:=F0.cI (ps:=["deed"]) rfl fun _ _ _ _ _ _ _=>rfl
  have F1:=aS (st:=bV) l1 c1 k1
  have b1:=F1.cI (ps:=["deed"]) rfl fun _ _ _ _ _ _ _=>rfl
  have F2:=aS (st:=bW) l2 c2 k2
  have b2:=F2.jk (ps:=["deed","asked","there"]) rfl fun _ _ _ _ _ _ _ _ _=>rfl
  have F3:=aS (st:=dW) l3 c3 k3
  have b3:=F3.fb (ps:=["deed","state"]) rfl fun _ _ _ _ _ _ _ _=>rfl
  have F4:=aS (st:=dk) l4 c4 k4
  have b4:=F4.fb (ps:=["deed","state"]) rfl fun _ _ _ _ _ _ _ _=>rfl
  have F5:=aS (st:=cz) l5 c5 k5
  have b5:=F5.jk (ps:=["deed","state","value"]) rfl fun _ _ _ _ _ _ _ _ _=>rfl
  have F6:=aS (st:=gz) l6 c6 k6
  have b6:=F6.cI (ps:=["text"]) rfl fun _ _ _ _ _ _ _=>rfl
  have F7:=aS (st:=gy) l7 c7 k7
  have b7:=F7.cI (ps:=["tree"]) rfl fun _ _ _ _ _ _ _=>rfl
  have F8:=aS (st:=iG) l8 c8 k8
  have b8:=F8.cI (ps:=["tree"]) rfl fun _ _ _ _ _ _ _=>rfl
  have F9:=aS (st:=iS) l9 c9 k9
  have b9:=F9.cI (ps:=["tree"]) rfl fun _ _ _ _ _ _ _=>rfl
  have F10:=aS (st:=gw) SQ Z3 PB
  have b10:=F10.fb (ps:=["tree","place"]) rfl fun _ _ _ _ _ _ _ _=>rfl
  have F11:=aS (st:=fy) l11 V3 Yd
  have b11:=F11.fb (ps:=["tree","x"]) rfl fun _ _ _ _ _ _ _ _=>rfl
  have F12:=aS (st:=di) U7 Uh Wg
  have b12:=F12.fb (ps:=["tree","bound"]) rfl fun _ _ _ _ _ _ _ _=>rfl
  have F13:=aS (st:=dQ) XE VF T2
  have b13:=F13.cI (ps:=["tree"]) rfl fun _ _ _ _ _ _ _=>rfl
  have F14:=aS (st:=dm) l14 c14 Su
  have b14:=F14.cI (ps:=["tree"]) rfl fun _ _ _ _ _ _ _=>rfl
  have F15:=aS (st:=gu) l15 Ze k15
  have b15:=F15.cI (ps:=["tree"]) rfl fun _ _ _ _ _ _ _=>rfl
  have F16:=aS (st:=s_fresh) Vw c16 Wr
  have b16:=F16.fb (ps:=["k","many"]) rfl fun _ _ _ _ _ _ _ _=>rfl
  have F17:=aS (st:=eI) Yr c17 UA
  have b17:=F17.FH (ps:=["tree","f","left","right"]) rfl fun _ _ _ _ _ _ _ _ _ _=>rfl
  have F18:=aS (st:=cG) Vg Wq Xk
  have b18:=F18.jk (ps:=["tree","deed","state"]) rfl fun _ _ _ _ _ _ _ _ _=>rfl
  have F19:=aS (st:=iV) Sq X6 Ul
  have b19:=F19.jk (ps:=["tree","deed","state"]) rfl fun _ _ _ _ _ _ _ _ _=>rfl
  have F20:=aS (st:=gn) SW T9 TV
  have b20:=F20.FH (ps:=["tree","k","many","row"]) rfl fun _ _ _ _ _ _ _ _ _ _=>rfl
  have F21:=aS (st:=cJ) VQ Zt ZK
  have b21:=F21.cI (ps:=["state"]) rfl fun _ _ _ _ _ _ _=>rfl
  have F22:=aS (st:=pM) l22 Yx k22
  have b22:=F22.cI (ps:=["tree"]) rfl fun _ _ _ _ _ _ _=>rfl
  have F23:=aS (st:=oS) VO Zn Xf
  have b23:=F23.fb (ps:=["tree","k"]) rfl fun _ _ _ _ _ _ _ _=>rfl
  have F24:=aS (st:=fz) Yn c24 TY
  have b24:=F24.fb (ps:=["tree","k"]) rfl fun _ _ _ _ _ _ _ _=>rfl
  have F25:=aS (st:=kS) YH Sr k25
  have b25:=F25.fb (ps:=["tree","k"]) rfl fun _ _ _ _ _ _ _ _=>rfl
  have F26:=aS (st:=eO) X8 Z0 Sl
  have b26:=F26.cI (ps:=["word"]) rfl fun _ _ _ _ _ _ _=>rfl
  have F27:=aS (st:=eP) WW T7 k27
  have b27:=F27.fb (ps:=["kind","word"]) rfl fun _ _ _ _ _ _ _ _=>rfl
  have F28:=aS (st:=eF) Yz Vj XD
  have b28:=F28.cI (ps:=["text"]) rfl fun _ _ _ _ _ _ _=>rfl
  have F29:=aS (st:=ft) Wu X7 k29
  have b29:=F29.cI (ps:=["text"]) rfl fun _ _ _ _ _ _ _=>rfl
  have F30:=aS (st:=fw) UB TF TN
  have b30:=F30.fb (ps:=["text","start"]) rfl fun _ _ _ _ _ _ _ _=>rfl
  have F31:=aS (st:=pS) Vd Wa Xd
  have b31:=F31.jk (ps:=["text","at","sign"]) rfl fun _ _ _ _ _ _ _ _ _=>rfl
  have F32:=aS (st:=eN) Yu T8 k32
  have b32:=F32.jk (ps:=["text","start","level"]) rfl fun _ _ _ _ _ _ _ _ _=>rfl
  have F33:=aS (st:=oW) X0 Zd SR
  have b33:=F33.cI (ps:=["text"]) rfl fun _ _ _ _ _ _ _=>rfl
  have F34:=aS (st:=gv) l34 W0 SH
  have b34:=F34.cI (ps:=["row"]) rfl fun _ _ _ _ _ _ _=>rfl
  have F35:=aS (st:=la) SS Tu k35
  have b35:=F35.jk (ps:=["text","k","rowtext"]) rfl fun _ _ _ _ _ _ _ _ _=>rfl
  have F36:=aS (st:=gA) ZG Vr Xy
  have b36:=F36.fb (ps:=["script","k"]) rfl fun _ _ _ _ _ _ _ _=>rfl
  have F37:=aS (st:=dR) Tt WN Vy
  have b37:=F37.fb (ps:=["cell","many"]) rfl fun _ _ _ _ _ _ _ _=>rfl
  have F38:=aS (st:=eG) Wc Zc XX
  have b38:=F38.cI (ps:=["script"]) rfl fun _ _ _ _ _ _ _=>rfl
  have F39:=aS (st:=dq) UP c39 Yt
  have b39:=F39.cI (ps:=["script"]) rfl fun _ _ _ _ _ _ _=>rfl
  have F40:=aS (st:=eM) Vk ZM Xa
  have b40:=F40.jk (ps:=["script","at","many"]) rfl fun _ _ _ _ _ _ _ _ _=>rfl
  have F41:=aS (st:=eh) YE U6 XA
  have b41:=F41.Nj (ps:=["script","n","names","deeds","k","many"]) rfl fun _ _ _ _ _ _ _ _ _ _ _ _=>rfl
  have F42:=aS (st:=eK) Tg c42 Sk
  have b42:=F42.cI (ps:=["tree"]) rfl fun _ _ _ _ _ _ _=>rfl
  have F43:=aS (st:=eJ) XC UQ Ve
  have b43:=F43.jk (ps:=["deed","cell","many"]) rfl fun _ _ _ _ _ _ _ _ _=>rfl
  have F44:=aS (st:=dj) Uv Xl Ws
  have b44:=F44.fb (ps:=["deed","k"]) rfl fun _ _ _ _ _ _ _ _=>rfl
  have F45:=aS (st:=uM) WD ZD k45
  have b45:=F45.cI (ps:=["script"]) rfl fun _ _ _ _ _ _ _=>rfl
  exact⟨⟨f0,_,F0,PySem.W.mg_of X G a0,b0,f1,_,F1,PySem.W.mg_of X G a1,b1,f2,_,F2,PySem.W.mg_of X G a2,b2,f3,_,F3,PySem.W.mg_of X G a3,b3,f4,_,F4,PySem.W.mg_of X G a4,b4,f5,_,F5,PySem.W.mg_of X G a5,b5,f6,_,F6,PySem.W.mg_of X G a6,b6,f7,_,F7,PySem.W.mg_of X G a7,b7,f8,_,F8,PySem.W.mg_of X G a8,b8,f9,_,F9,PySem.W.mg_of X G a9,b9,Q9,_,F10,PySem.W.mg_of X G TZ,b10,R4,_,F11,PySem.W.mg_of X G a11,b11,Rl,_,F12,PySem.W.mg_of X G Uo,b12,Rg,_,F13,PySem.W.mg_of X G XZ,b13,Rc,_,F14,PySem.W.mg_of X G Si,b14,Rp,_,F15,PySem.W.mg_of X G Sv,b15,Rq,_,F16,PySem.W.mg_of X G ZI,b16,Rx,_,F17,PySem.W.mg_of X G Wh,b17,Rk,_,F18,PySem.W.mg_of X G To,b18,RP,_,F19,PySem.W.mg_of X G WS,b19,Rv,_,F20,PySem.W.mg_of X G YA,b20,R0,_,F21,PySem.W.mg_of X G a21,b21,Q4,_,F22,PySem.W.mg_of X G VP,b22,RI,_,F23,PySem.W.mg_of X G X3,b23,Rn,_,F24,PySem.W.mg_of X G Xs,b24,RS,_,F25,PySem.W.mg_of X G Tn,b25,RW,_,F26,PySem.W.mg_of X G a26,b26,Rm,_,F27,PySem.W.mg_of X G XF,b27,Rb,_,F28,PySem.W.mg_of X G Ss,b28,Rj,_,F29,PySem.W.mg_of X G a29,b29,RA,_,F30,PySem.W.mg_of X G XT,b30,Q1,_,F31,PySem.W.mg_of X G U0,b31,RL,_,F32,PySem.W.mg_of X G Yh,b32,Rt,_,F33,PySem.W.mg_of X G VS,b33,Rr,_,F34,PySem.W.mg_of X G Wy,b34,R8,_,F35,PySem.W.mg_of X G a35,b35,Ru,_,F36,PySem.W.mg_of X G a36,b36,RC,_,F37,PySem.W.mg_of X G a37,b37,RY,_,F38,PySem.W.mg_of X G a38,b38,RM,_,F39,PySem.W.mg_of X G YT,b39,RH,_,F40,PySem.W.mg_of X G Vz,b40,Q7,_,F41,PySem.W.mg_of X G VH,b41,Q8,_,F42,PySem.W.mg_of X G YN,b42,R5,_,F43,PySem.W.mg_of X G a43,b43,RK,_,F44,PySem.W.mg_of X G XN,b44,PM,_,F45,PySem.W.mg_of X G Wt,b45,PySem.W.mg_none_of X G z0,PySem.W.mg_none_of X G z1,PySem.W.mg_none_of X G z2,PySem.W.mg_none_of X G z3,PySem.W.mg_none_of X G z4,PySem.W.mg_none_of X G z5,PySem.W.mg_none_of X G z6,PySem.W.mg_none_of X G z7,PySem.W.mg_none_of X G z8,PySem.W.mg_none_of X G z9,PySem.W.mg_none_of X G Zi,PySem.W.mg_none_of X G UI,PySem.W.mg_none_of X G XI,tk0,PySem.W.mg_of X G v0,tk1,PySem.W.mg_of X G v1,tk2,PySem.W.mg_of X G v2,tk3,PySem.W.mg_of X G v3,tk4,PySem.W.mg_of X G v4,tk5,PySem.W.mg_of X G v5,bB,PySem.W.mg_of X G ky,ko,aH,PySem.W.mg_of X G ou,lA,aI,PySem.W.mg_of X G pR,lC,aJ,PySem.W.mg_of X G pI,lh,mP cb,mP cj,mP cg,⟨lA,oV,ow,oI,oB,pP,lq,mw lq⟩,cS,cT,cZ,bG,⟨lC,pX,oZ,pq,oK,oM,lE,mw lE⟩,cX,cW,cU,bF,⟨lh,oi,oJ,oU,oQ,oY,lj,mw lj⟩,cY,cV,de,bE⟩,rfl,fun s v=>.of_eq rfl⟩
 have e2:=hfa.symm.trans T.PV
 cases e2
 exact⟨T.xn,b,fun base _ _=>L4 T ⟨pA,WX,Xz,Z9,WV,PySem.W.mg_of X G pa,kd4 pz pd Xn aa3 VV abj (by decide +kernel),Xx VI,kt4 Y7,Xx YJ,Xx Sg⟩⟩
theorem walk {l:PySem.W.OpenLaw}{q:Program}{loose:List Str}{XP:(Str→Option Value)→Heap→Prop}{YP:World→Heap→Prop}{d:DefRec}{K:Params→PySem.W.Frag} (hn:l.most=some 63) (QT:d.params.defaults=[])
 (hY:∀(w:World) (h:Heap),YP w h→(K w.params).In h)
 (F:∀(w:World) (mg:Str→Option Value) (fa:Addr) (h:Heap),(K w.params).In h→h.Ns mainGlobals mg→mg d.name=some (.ref fa)→
   ∃fd:FuncData,(∀(s:Shared) (u:Value),BindsTo s fd ⟨[u],[]⟩ [("script",u)])∧∀base:Heap,(K w.params).In base→base.Ns mainGlobals mg→bg l.prog w (K w.params) mg base CX0 60 fa fd ["script"] (AS (K w.params))) :
 PySem.W.WalkO q loose XP YP l.row.toRowW d [] (fun f vs=>PySem.call f vs):=
 L2.Iy (n:=63) (k:=60) (x:="script") (CX:=fun w=>CX0) (sp:=fun w=>AS (K w.params)) hn (by decide) QT ⟨rfl,by decide,by decide,rfl⟩ hY F (fun _ _ a ns hl _ hS=>⟨a,ns,rfl,hS,hl,fun _=>rfl⟩) fun _ _ _ _ _ z=>z
noncomputable def hE (P:Params) (s:Str) (t:Nat) (v:Value):DictEntry:=⟨PyData.keyHash P s,.str s t,v⟩
noncomputable def hD (n:Nat) (l:List DictEntry):Obj:=⟨.type "dict",none,.dict l.toArray n,#[]⟩
noncomputable def hF (n:Str) (i:Nat) (m c:Value):Obj:=⟨.type "function",none,.func (PySem.W.fnOf n n (av (top i)) (au (top i)) (ah (top i)) .none .none .none m none c .none),#[]⟩
noncomputable def hC (n:Str) (k:Nat) (l a f:Int) (r:Addr) (b:Bool) (g:Int) (u:Addr) (x y z:Value) (h:Nat):Obj:=⟨.type "code",none,.fields #[.str n k,.str n (k+1),.str "/claim/cut.py" (k+2),.int l 0,.int a 0,.int 0 0,.int 0 0,.int f 0,.ref r,.bool b,.int g 0,.ref u,.none,x,y,z,.int h 0,.int l 0,.str "/claim/cut.py" (h+1)],#[]⟩
noncomputable def hK:Params→PySem.W.Frag:=fun P=>(nat_lit 3,hD 69 (hE P "__name__" 165 (.str "law_fewboxes_k64_judgements_refused" 644)::hE P "__doc__" 166 .none::hE P "__package__" 167 .none::hE P "__loader__" 168 (.builtin "__main__.__loader__#opaque")::hE P "__spec__" 169 .none::hE P "__annotations__" 170 (.ref 6)::hE P "__builtins__" 171 (.ref 4)::hE P "__file__" 173 (.str "/claim/cut.py" 172)::hE P "__cached__" 174 .none::hE P "FewError" 206 (.ref 24)::hE P "NoName" 222 (.ref 37)::hE P "Twice" 238 (.ref 49)::hE P "TooBig" 254 (.ref 61)::hE P "NoText" 270 (.ref 73)::hE P "TooFew" 286 (.ref 85)::hE P "NoDeed" 302 (.ref 97)::hE P "box_numbers" 311 (.ref 106)::hE P "shelf_numbers" 318 (.ref 113)::hE P "check_numbers" 328 (.ref 120)::hE P "check_deed" 336 (.ref 127)::hE P "moved_value" 344 (.ref 134)::hE P "state_behind" 355 (.ref 141)::hE P "LONGEST_NAME" 359 (.int 8 358)::hE P "MOST_LEAVES" 361 (.int 32 360)::hE P "MOST_DEEP" 363 (.int 24 362)::hE P "is_name" 369 (.ref 146)::hE P "is_leaf" 376 (.ref 153)::hE P "places" 382 (.ref 158)::hE P "leaves" 388 (.ref 163)::hE P "part_at" 398 (.ref 170)::hE P "place_of" 407 (.ref 177)::hE P "deeper_than" 415 (.ref 184)::hE P "check_size" 422 (.ref 191)::hE P "check_names" 433 (.ref 198)::hE P "formula" 440 (.ref 205)::hE P "fresh" 450 (.ref 212)::hE P "knot_over" 461 (.ref 219)::hE P "mark_brought" 470 (.ref 226)::hE P "marked" 479 (.ref 233)::hE P "moments" 491 (.ref 240)::hE P "formula_held" 498 (.ref 247)::hE P "rank" 509 (.ref 254)::hE P "puts" 517 (.ref 261)::hE P "must_put" 523 (.ref 266)::hE P "least" 534 (.ref 273)::hE P "MOST_FIGURES" 538 (.int 4 537)::hE P "PARTS" 557 (.ref 274)::hE P "is_number" 563 (.ref 283)::hE P "read_part" 571 (.ref 290)::hE P "read_deed" 577 (.ref 295)::hE P "read_row" 583 (.ref 300)::hE P "name_end" 594 (.ref 307)::hE P "past" 603 (.ref 314)::hE P "tree_from" 616 (.ref 321)::hE P "read" 625 (.ref 328)::hE P "SHELF_PLACES" 629 (.int 100 628)::hE P "BOXES_TOLD" 631 (.int 10000 630)::hE P "figures" 637 (.ref 333)::hE P "judge" 643 (.ref 338)::hE P "_law_at" 654 (.ref 345)::hE P "_law_names" 667 (.ref 352)::hE P "_law_many" 675 (.ref 359)::hE P "_law_second" 682 (.ref 366)::hE P "_law_tree" 688 (.ref 371)::hE P "_law_deed" 702 (.ref 378)::hE P "_law_text" 709 (.ref 385)::hE P "_law_high" 718 (.ref 392)::hE P "_law_beyond" 726 (.ref 399)::hE P "law" 732 (.ref 404)::[])) ::
 (nat_lit 6,hD 0 ([])) ::
 (nat_lit 24,⟨(.type "type"),none,.cls ⟨"FewError",[(.type "ValueError")],[(.ref 24),(.type "ValueError"),(.type "Exception"),(.type "BaseException"),(.type "object")],23,"FewError",true,[],[(.ref 37),(.ref 49),(.ref 61),(.ref 73),(.ref 85),(.ref 97)],false,none,false⟩,#[some (.ref 15),none,some (.str "FewError" 189),some (.str "FewError" 197),some (.builtin "ValueError.__new__"),some (.bool true)]⟩) ::
 (nat_lit 23,hD 3 (hE P "__module__" 196 (.str "fewboxes.errors" 187)::hE P "__firstlineno__" 200 (.int 2 199)::hE P "__static_attributes__" 201 (.ref 22)::hE P "__weakref__" 203 (.ref 25)::hE P "__doc__" 204 .none::[])) ::
 (nat_lit 37,⟨(.type "type"),none,.cls ⟨"NoName",[(.ref 24)],[(.ref 37),(.ref 24),(.type "ValueError"),(.type "Exception"),(.type "BaseException"),(.type "object")],36,"NoName",true,[],[],false,none,false⟩,#[some (.ref 28),none,some (.str "NoName" 207),some (.str "NoName" 215),some (.builtin "ValueError.__new__"),some (.bool true)]⟩) ::
 (nat_lit 36,hD 2 (hE P "__module__" 214 (.str "fewboxes.errors" 187)::hE P "__firstlineno__" 218 (.int 4 217)::hE P "__static_attributes__" 219 (.ref 35)::hE P "__doc__" 220 .none::[])) ::
 (nat_lit 49,⟨(.type "type"),none,.cls ⟨"Twice",[(.ref 24)],[(.ref 49),(.ref 24),(.type "ValueError"),(.type "Exception"),(.type "BaseException"),(.type "object")],48,"Twice",true,[],[],false,none,false⟩,#[some (.ref 40),none,some (.str "Twice" 223),some (.str "Twice" 231),some (.builtin "ValueError.__new__"),some (.bool true)]⟩) ::
 (nat_lit 48,hD 2 (hE P "__module__" 230 (.str "fewboxes.errors" 187)::hE P "__firstlineno__" 234 (.int 6 233)::hE P "__static_attributes__" 235 (.ref 47)::hE P "__doc__" 236 .none::[])) ::
 (nat_lit 61,⟨(.type "type"),none,.cls ⟨"TooBig",[(.ref 24)],[(.ref 61),(.ref 24),(.type "ValueError"),(.type "Exception"),(.type "BaseException"),(.type "object")],60,"TooBig",true,[],[],false,none,false⟩,#[some (.ref 52),none,some (.str "TooBig" 239),some (.str "TooBig" 247),some (.builtin "ValueError.__new__"),some (.bool true)]⟩) ::
 (nat_lit 60,hD 2 (hE P "__module__" 246 (.str "fewboxes.errors" 187)::hE P "__firstlineno__" 250 (.int 8 249)::hE P "__static_attributes__" 251 (.ref 59)::hE P "__doc__" 252 .none::[])) ::
 (nat_lit 73,⟨(.type "type"),none,.cls ⟨"NoText",[(.ref 24)],[(.ref 73),(.ref 24),(.type "ValueError"),(.type "Exception"),(.type "BaseException"),(.type "object")],72,"NoText",true,[],[],false,none,false⟩,#[some (.ref 64),none,some (.str "NoText" 255),some (.str "NoText" 263),some (.builtin "ValueError.__new__"),some (.bool true)]⟩) ::
 (nat_lit 72,hD 2 (hE P "__module__" 262 (.str "fewboxes.errors" 187)::hE P "__firstlineno__" 266 (.int 10 265)::hE P "__static_attributes__" 267 (.ref 71)::hE P "__doc__" 268 .none::[])) ::
 (nat_lit 85,⟨(.type "type"),none,.cls ⟨"TooFew",[(.ref 24)],[(.ref 85),(.ref 24),(.type "ValueError"),(.type "Exception"),(.type "BaseException"),(.type "object")],84,"TooFew",true,[],[],false,none,false⟩,#[some (.ref 76),none,some (.str "TooFew" 271),some (.str "TooFew" 279),some (.builtin "ValueError.__new__"),some (.bool true)]⟩) ::
 (nat_lit 84,hD 2 (hE P "__module__" 278 (.str "fewboxes.errors" 187)::hE P "__firstlineno__" 282 (.int 12 281)::hE P "__static_attributes__" 283 (.ref 83)::hE P "__doc__" 284 .none::[])) ::
 (nat_lit 97,⟨(.type "type"),none,.cls ⟨"NoDeed",[(.ref 24)],[(.ref 97),(.ref 24),(.type "ValueError"),(.type "Exception"),(.type "BaseException"),(.type "object")],96,"NoDeed",true,[],[],false,none,false⟩,#[some (.ref 88),none,some (.str "NoDeed" 287),some (.str "NoDeed" 295),some (.builtin "ValueError.__new__"),some (.bool true)]⟩) ::
 (nat_lit 96,hD 2 (hE P "__module__" 294 (.str "fewboxes.errors" 187)::hE P "__firstlineno__" 298 (.int 14 297)::hE P "__static_attributes__" 299 (.ref 95)::hE P "__doc__" 300 .none::[])) ::
 (nat_lit 106,hF "box_numbers" 9 (.str "fewboxes.machine" 303) (.ref 105)) ::
 (nat_lit 105,hC "box_numbers" 305 17 1 3 100 true 181 101 (.ref 102) (.ref 103) (.ref 104) 309) ::
 (nat_lit 113,hF "shelf_numbers" 10 (.str "fewboxes.machine" 303) (.ref 112)) ::
 (nat_lit 112,hC "shelf_numbers" 312 23 1 3 107 true 181 108 (.ref 109) (.ref 110) (.ref 111) 316) ::
 (nat_lit 120,hF "check_numbers" 11 (.str "fewboxes.machine" 303) (.ref 119)) ::
 (nat_lit 119,hC "check_numbers" 319 29 3 3 114 true 181 115 (.ref 116) (.ref 117) (.ref 118) 326) ::
 (nat_lit 127,hF "check_deed" 12 (.str "fewboxes.machine" 303) (.ref 126)) ::
 (nat_lit 126,hC "check_deed" 329 33 2 3 121 true 181 122 (.ref 123) (.ref 124) (.ref 125) 334) ::
 (nat_lit 134,hF "moved_value" 13 (.str "fewboxes.machine" 303) (.ref 133)) ::
 (nat_lit 133,hC "moved_value" 337 36 2 3 128 true 181 129 (.ref 130) (.ref 131) (.ref 132) 342) ::
 (nat_lit 141,hF "state_behind" 14 (.str "fewboxes.machine" 303) (.ref 140)) ::
 (nat_lit 140,hC "state_behind" 345 40 3 3 135 true 181 136 (.ref 137) (.ref 138) (.ref 139) 353) ::
 (nat_lit 146,hF "is_name" 19 (.str "fewboxes.trees" 356) (.ref 145)) ::
 (nat_lit 145,hC "is_name" 364 52 1 3 142 true 181 143 .none .none (.ref 144) 367) ::
 (nat_lit 153,hF "is_leaf" 20 (.str "fewboxes.trees" 356) (.ref 152)) ::
 (nat_lit 152,hC "is_leaf" 370 54 1 3 147 true 181 148 (.ref 149) (.ref 150) (.ref 151) 374) ::
 (nat_lit 158,hF "places" 21 (.str "fewboxes.trees" 356) (.ref 157)) ::
 (nat_lit 157,hC "places" 377 56 1 3 154 true 181 155 .none .none (.ref 156) 380) ::
 (nat_lit 163,hF "leaves" 22 (.str "fewboxes.trees" 356) (.ref 162)) ::
 (nat_lit 162,hC "leaves" 383 63 1 3 159 true 181 160 .none .none (.ref 161) 386) ::
 (nat_lit 170,hF "part_at" 23 (.str "fewboxes.trees" 356) (.ref 169)) ::
 (nat_lit 169,hC "part_at" 389 65 2 3 164 true 181 165 (.ref 166) (.ref 167) (.ref 168) 396) ::
 (nat_lit 177,hF "place_of" 24 (.str "fewboxes.trees" 356) (.ref 176)) ::
 (nat_lit 176,hC "place_of" 399 70 2 3 171 true 181 172 (.ref 173) (.ref 174) (.ref 175) 405) ::
 (nat_lit 184,hF "deeper_than" 25 (.str "fewboxes.trees" 356) (.ref 183)) ::
 (nat_lit 183,hC "deeper_than" 408 75 2 3 178 true 181 179 (.ref 180) (.ref 181) (.ref 182) 413) ::
 (nat_lit 191,hF "check_size" 26 (.str "fewboxes.trees" 356) (.ref 190)) ::
 (nat_lit 190,hC "check_size" 416 81 1 3 185 true 181 186 (.ref 187) (.ref 188) (.ref 189) 420) ::
 (nat_lit 198,hF "check_names" 27 (.str "fewboxes.trees" 356) (.ref 197)) ::
 (nat_lit 197,hC "check_names" 423 86 1 3 192 true 181 193 (.ref 194) (.ref 195) (.ref 196) 431) ::
 (nat_lit 205,hF "formula" 28 (.str "fewboxes.trees" 356) (.ref 204)) ::
 (nat_lit 204,hC "formula" 434 97 1 3 199 true 181 200 (.ref 201) (.ref 202) (.ref 203) 438) ::
 (nat_lit 212,hF "fresh" 30 (.str "fewboxes.marks" 441) (.ref 211)) ::
 (nat_lit 211,hC "fresh" 443 102 2 3 206 true 181 207 (.ref 208) (.ref 209) (.ref 210) 448) ::
 (nat_lit 219,hF "knot_over" 31 (.str "fewboxes.marks" 441) (.ref 218)) ::
 (nat_lit 218,hC "knot_over" 451 104 4 3 213 true 181 214 (.ref 215) (.ref 216) (.ref 217) 459) ::
 (nat_lit 226,hF "mark_brought" 32 (.str "fewboxes.marks" 441) (.ref 225)) ::
 (nat_lit 225,hC "mark_brought" 462 111 3 3 220 true 181 221 (.ref 222) (.ref 223) (.ref 224) 468) ::
 (nat_lit 233,hF "marked" 33 (.str "fewboxes.marks" 441) (.ref 232)) ::
 (nat_lit 232,hC "marked" 471 117 3 3 227 true 181 228 (.ref 229) (.ref 230) (.ref 231) 477) ::
 (nat_lit 240,hF "moments" 34 (.str "fewboxes.marks" 441) (.ref 239)) ::
 (nat_lit 239,hC "moments" 480 120 4 3 234 true 181 235 (.ref 236) (.ref 237) (.ref 238) 489) ::
 (nat_lit 247,hF "formula_held" 35 (.str "fewboxes.marks" 441) (.ref 246)) ::
 (nat_lit 246,hC "formula_held" 492 125 1 3 241 true 181 242 (.ref 243) (.ref 244) (.ref 245) 496) ::
 (nat_lit 254,hF "rank" 37 (.str "fewboxes.ranks" 499) (.ref 253)) ::
 (nat_lit 253,hC "rank" 501 128 1 3 248 true 181 249 (.ref 250) (.ref 251) (.ref 252) 507) ::
 (nat_lit 261,hF "puts" 38 (.str "fewboxes.ranks" 499) (.ref 260)) ::
 (nat_lit 260,hC "puts" 510 136 2 3 255 true 181 256 (.ref 257) (.ref 258) (.ref 259) 515) ::
 (nat_lit 266,hF "must_put" 39 (.str "fewboxes.ranks" 499) (.ref 265)) ::
 (nat_lit 265,hC "must_put" 518 138 2 3 262 true 181 263 .none .none (.ref 264) 521) ::
 (nat_lit 273,hF "least" 40 (.str "fewboxes.ranks" 499) (.ref 272)) ::
 (nat_lit 272,hC "least" 524 140 2 3 267 true 181 268 (.ref 269) (.ref 270) (.ref 271) 532) ::
 (nat_lit 274,hD 4 (hE P "take" 539 (.ref 275)::hE P "join" 542 (.ref 276)::hE P "put" 547 (.ref 277)::hE P "fetch" 550 (.ref 278)::[])) ::
 (nat_lit 275,⟨(.type "tuple"),none,.seq #[(.str "name" 540),(.str "number" 541)] 0,#[]⟩) ::
 (nat_lit 276,⟨(.type "tuple"),none,.seq #[(.str "name" 543),(.str "number" 544),(.str "number" 545),(.str "number" 546)] 0,#[]⟩) ::
 (nat_lit 277,⟨(.type "tuple"),none,.seq #[(.str "number" 548),(.str "number" 549)] 0,#[]⟩) ::
 (nat_lit 278,⟨(.type "tuple"),none,.seq #[(.str "number" 551),(.str "number" 552)] 0,#[]⟩) ::
 (nat_lit 283,hF "is_number" 44 (.str "fewboxes.rowtexts" 535) (.ref 282)) ::
 (nat_lit 282,hC "is_number" 558 150 1 3 279 true 181 280 .none .none (.ref 281) 561) ::
 (nat_lit 290,hF "read_part" 45 (.str "fewboxes.rowtexts" 535) (.ref 289)) ::
 (nat_lit 289,hC "read_part" 564 154 2 3 284 true 181 285 (.ref 286) (.ref 287) (.ref 288) 569) ::
 (nat_lit 295,hF "read_deed" 46 (.str "fewboxes.rowtexts" 535) (.ref 294)) ::
 (nat_lit 294,hC "read_deed" 572 160 1 3 291 true 181 292 .none .none (.ref 293) 575) ::
 (nat_lit 300,hF "read_row" 47 (.str "fewboxes.rowtexts" 535) (.ref 299)) ::
 (nat_lit 299,hC "read_row" 578 168 1 3 296 true 181 297 .none .none (.ref 298) 581) ::
 (nat_lit 307,hF "name_end" 49 (.str "fewboxes.texts" 584) (.ref 306)) ::
 (nat_lit 306,hC "name_end" 586 173 2 3 301 true 181 302 (.ref 303) (.ref 304) (.ref 305) 592) ::
 (nat_lit 314,hF "past" 50 (.str "fewboxes.texts" 584) (.ref 313)) ::
 (nat_lit 313,hC "past" 595 178 3 3 308 true 181 309 (.ref 310) (.ref 311) (.ref 312) 601) ::
 (nat_lit 321,hF "tree_from" 51 (.str "fewboxes.texts" 584) (.ref 320)) ::
 (nat_lit 320,hC "tree_from" 604 182 3 3 315 true 181 316 (.ref 317) (.ref 318) (.ref 319) 614) ::
 (nat_lit 328,hF "read" 52 (.str "fewboxes.texts" 584) (.ref 327)) ::
 (nat_lit 327,hC "read" 617 192 1 3 322 true 181 323 (.ref 324) (.ref 325) (.ref 326) 623) ::
 (nat_lit 333,hF "figures" 56 (.str "fewboxes.desk" 626) (.ref 332)) ::
 (nat_lit 332,hC "figures" 632 203 1 3 329 true 181 330 .none .none (.ref 331) 635) ::
 (nat_lit 338,hF "judge" 57 (.str "fewboxes.desk" 626) (.ref 337)) ::
 (nat_lit 337,hC "judge" 638 206 3 3 334 true 181 335 .none .none (.ref 336) 641) ::
 (nat_lit 345,hF "_law_at" 59 (.str "law_fewboxes_k64_judgements_refused" 644) (.ref 344)) ::
 (nat_lit 344,hC "_law_at" 646 219 2 3 339 true 181 340 (.ref 341) (.ref 342) (.ref 343) 652) ::
 (nat_lit 352,hF "_law_names" 60 (.str "law_fewboxes_k64_judgements_refused" 644) (.ref 351)) ::
 (nat_lit 351,hC "_law_names" 655 227 2 3 346 true 181 347 (.ref 348) (.ref 349) (.ref 350) 665) ::
 (nat_lit 359,hF "_law_many" 61 (.str "law_fewboxes_k64_judgements_refused" 644) (.ref 358)) ::
 (nat_lit 358,hC "_law_many" 668 240 1 3 353 true 181 354 (.ref 355) (.ref 356) (.ref 357) 673) ::
 (nat_lit 366,hF "_law_second" 62 (.str "law_fewboxes_k64_judgements_refused" 644) (.ref 365)) ::
 (nat_lit 365,hC "_law_second" 676 243 1 3 360 true 181 361 (.ref 362) (.ref 363) (.ref 364) 680) ::
 (nat_lit 371,hF "_law_tree" 63 (.str "law_fewboxes_k64_judgements_refused" 644) (.ref 370)) ::
 (nat_lit 370,hC "_law_tree" 683 247 3 3 367 true 181 368 .none .none (.ref 369) 686) ::
 (nat_lit 378,hF "_law_deed" 64 (.str "law_fewboxes_k64_judgements_refused" 644) (.ref 377)) ::
 (nat_lit 377,hC "_law_deed" 689 262 6 3 372 true 181 373 (.ref 374) (.ref 375) (.ref 376) 700) ::
 (nat_lit 385,hF "_law_text" 65 (.str "law_fewboxes_k64_judgements_refused" 644) (.ref 384)) ::
 (nat_lit 384,hC "_law_text" 703 273 1 3 379 true 181 380 (.ref 381) (.ref 382) (.ref 383) 707) ::
 (nat_lit 392,hF "_law_high" 66 (.str "law_fewboxes_k64_judgements_refused" 644) (.ref 391)) ::
 (nat_lit 391,hC "_law_high" 710 277 3 3 386 true 181 387 (.ref 388) (.ref 389) (.ref 390) 716) ::
 (nat_lit 399,hF "_law_beyond" 67 (.str "law_fewboxes_k64_judgements_refused" 644) (.ref 398)) ::
 (nat_lit 398,hC "_law_beyond" 719 283 2 3 393 true 181 394 (.ref 395) (.ref 396) (.ref 397) 724) ::
 (nat_lit 404,hF "law" 68 (.str "law_fewboxes_k64_judgements_refused" 644) (.ref 403)) ::
 (nat_lit 403,hC "law" 727 289 1 3 400 true 181 401 .none .none (.ref 402) 730)::[]
noncomputable def hV:Program:={PySem.Challenge.pw_fewboxes_k64_judgements_refused with main:={PySem.Challenge.pw_fewboxes_k64_judgements_refused.main with body:=top 1::top 2::top 3::top 4::top 5::top 6::top 7::top 9::top 10::top 11::top 12::top 13::top 14::top 16::top 17::top 18::top 19::top 20::top 21::top 22::top 23::top 24::top 25::top 26::top 27::top 28::top 30::top 31::top 32::top 33::top 34::top 35::top 37::top 38::top 39::top 40::top 42::top 43::top 44::top 45::top 46::top 47::top 49::top 50::top 51::top 52::top 54::top 55::top 56::top 57::top 59::top 60::top 61::top 62::top 63::top 64::top 65::top 66::top 67::top 68::[]}}
noncomputable def hA:List Addr:=3::6::24::23::37::36::49::48::61::60::73::72::85::84::97::96::106::105::113::112::120::119::127::126::134::133::141::140::146::145::153::152::158::157::163::162::170::169::177::176::184::183::191::190::198::197::205::204::212::211::219::218::226::225::233::232::240::239::247::246::254::253::261::260::266::265::273::272::274::275::276::277::278::283::282::290::289::295::294::300::299::307::306::314::313::321::320::328::327::333::332::338::337::345::344::352::351::359::358::366::365::371::370::378::377::385::384::392::391::399::398::404::403::[]
noncomputable def hT (P:Params):PySem.W.BT:=([PySem.W.boot_o_0 P,PySem.W.boot_o_1 P,PySem.W.boot_o_2 P,PySem.W.boot_o_3 P,PySem.W.boot_o_4 P,PySem.W.boot_o_5 P,PySem.W.boot_o_6 P,PySem.W.boot_o_7 P,PySem.W.boot_o_8 P,PySem.W.boot_o_9 P,PySem.W.boot_o_10 P,⟨(.type "tuple"),none,.seq #[] 0,#[]⟩,⟨.none,none,.fields #[],#[]⟩,hC "<module>" 182 1 0 0 11 false 181 12 .none .none .none 185,⟨(.type "frame"),none,.plain,#[some (.ref 13),some (.ref 3),some (.ref 3),none,some (.str "__main__" 164),none,some (.ref 0)]⟩].foldl (fun (x:PySem.W.BT×Nat) o=>(x.1.ins x.2 o,x.2+1)) (.nil,0)).1
noncomputable def hS (w:World) (os:OsState):PySem.W.SharedT:=⟨hT w.params,15,{},Array.mk [],{},187,os⟩
noncomputable def hN:Env:={scope:=PySem.Challenge.pw_fewboxes_k64_judgements_refused.main.scope,locals:=mainNs,globals:=mainNs,cells:=[],code:=(.ref 13),frame:=some 14}
noncomputable abbrev hb:List Stmt:=PySem.W.behindTheImports PySem.Challenge.pw_fewboxes_k64_judgements_refused
theorem h1 (w:World) (os:OsState):PySem.W.topGo PySem.W.Fast.tw14364793385576792824 PySem.Challenge.pw_fewboxes_k64_judgements_refused w 11 (some (.ref 6)) 12 ⟨PySem.W.boot_heap w.params,Array.mk [],PySem.W.boot_drawn,PySem.W.boot_toks,os⟩ (PySem.W.topStub PySem.Challenge.pw_fewboxes_k64_judgements_refused)=some ((hS w os).abs,⟨denote PySem.W.Fast.tw14364793385576792824 (.body hb hN),.body hb hN,⟨0,0,0,0⟩,[PySem.W.topFrame ⟨0,0,0,0⟩]⟩):=by
 kernel_rfl
theorem h2 (w:World) (os:OsState):PySem.W.segRun PySem.W.Fast.tw14364793385576792824 PySem.Challenge.pw_fewboxes_k64_judgements_refused w 11 (some (.ref 6)) 1 1 (hS w os).abs (PySem.W.blockOf hb hN (.body hb hN) ⟨0,0,0,0⟩ [PySem.W.topFrame ⟨0,0,0,0⟩])=some (.next,(hS w os).abs,.body hb hN,⟨0,0,0,0⟩):=by
 kernel_rfl
noncomputable def hU (l:List Value):Obj:=⟨.type "tuple",none,.seq l.toArray 0,#[]⟩
noncomputable def hZ (l:List Value):Obj:=⟨.none,none,.fields l.toArray,#[]⟩
noncomputable def hG (n:Str) (i:Nat):Obj:=⟨.none,none,.func ⟨n,n,av (top i),.stmts (au (top i)),ah (top i),0,[],.none,.none,.none,.none,none,.none,.none,0⟩,#[]⟩
noncomputable def QU (P:Params):PySem.W.BT:=((PySem.W.boot_o_0 P ::
 PySem.W.boot_o_1 P ::
 PySem.W.boot_o_2 P ::
 hD 18 (hE P "__name__" 165 (.str "fewboxes.machine" 303)::hE P "__doc__" 166 .none::hE P "__package__" 167 .none::hE P "__loader__" 168 (.builtin "__main__.__loader__#opaque")::hE P "__spec__" 169 .none::hE P "__annotations__" 170 (.ref 6)::hE P "__builtins__" 171 (.ref 4)::hE P "__file__" 173 (.str "/claim/cut.py" 172)::hE P "__cached__" 174 .none::hE P "FewError" 206 (.ref 24)::hE P "NoName" 222 (.ref 37)::hE P "Twice" 238 (.ref 49)::hE P "TooBig" 254 (.ref 61)::hE P "NoText" 270 (.ref 73)::hE P "TooFew" 286 (.ref 85)::hE P "NoDeed" 302 (.ref 97)::hE P "box_numbers" 311 (.ref 106)::hE P "shelf_numbers" 318 (.ref 113)::[]) ::
 PySem.W.boot_o_4 P ::
 PySem.W.boot_o_5 P ::
 PySem.W.boot_o_6 P ::
 PySem.W.boot_o_7 P ::
 PySem.W.boot_o_8 P ::
 PySem.W.boot_o_9 P ::
 PySem.W.boot_o_10 P ::
 hU [] ::
 hZ [(.int 2 0),(.int 0 0),(.ref 20),(.int 4 0),(.int 0 0),(.ref 33),(.int 6 0),(.int 0 0),(.ref 45),(.int 8 0),(.int 0 0),(.ref 57),(.int 10 0),(.int 0 0),(.ref 69),(.int 12 0),(.int 0 0),(.ref 81),(.int 14 0),(.int 0 0),(.ref 93),(.int 17 0),(.int 0 0),(.ref 105),(.int 23 0),(.int 0 0),(.ref 112)] ::
 hC "<module>" 182 1 0 0 11 false 181 12 .none .none .none 185 ::
 ⟨(.type "frame"),none,.plain,#[some (.ref 13),some (.ref 3),some (.ref 3),none,some (.str "__main__" 164),none,some (.ref 0)]⟩ ::
 hU [(.type "ValueError")] ::
 ⟨(.type "builtin_function_or_method"),none,.fields #[(.builtin "type.__prepare__"),(.type "type")],#[]⟩ ::
 hD 4 (hE P "__module__" 196 (.str "fewboxes.errors" 187)::hE P "__qualname__" 198 (.str "FewError" 197)::hE P "__firstlineno__" 200 (.int 2 199)::hE P "__static_attributes__" 201 (.ref 22)::[]) ::
 hU [] ::
 hZ [] ::
 hC "FewError" 191 2 0 0 18 false 181 19 .none .none .none 194 ::
 ⟨(.type "frame"),none,.plain,#[some (.ref 20),some (.ref 3),some (.ref 17),none,some (.str "fewboxes.errors" 187),none,some (.ref 0)]⟩ ::
 hU [] ::
 hD 3 (hE P "__module__" 196 (.str "fewboxes.errors" 187)::hE P "__firstlineno__" 200 (.int 2 199)::hE P "__static_attributes__" 201 (.ref 22)::hE P "__weakref__" 203 (.ref 25)::hE P "__doc__" 204 .none::[]) ::
 ⟨(.type "type"),none,.cls ⟨"FewError",[(.type "ValueError")],[(.ref 24),(.type "ValueError"),(.type "Exception"),(.type "BaseException"),(.type "object")],23,"FewError",true,[],[(.ref 37),(.ref 49),(.ref 61),(.ref 73),(.ref 85),(.ref 97)],false,none,false⟩,#[some (.ref 15),none,some (.str "FewError" 189),some (.str "FewError" 197),some (.builtin "ValueError.__new__"),some (.bool true)]⟩ ::
 ⟨(.type "getset_descriptor"),none,.fields #[(.str "__weakref__" 202),(.ref 24),(.builtin "ExceptionGroup.__weakref__"),.none],#[]⟩ ::
 ⟨(.type "super"),none,.fields #[(.ref 24),(.ref 24),(.ref 24)],#[]⟩ ::
 ⟨(.type "builtin_function_or_method"),none,.fields #[(.builtin "object.__init_subclass__"),(.ref 24)],#[]⟩ ::
 hU [(.ref 24)] ::
 ⟨(.type "builtin_function_or_method"),none,.fields #[(.builtin "type.__prepare__"),(.type "type")],#[]⟩ ::
 hD 4 (hE P "__module__" 214 (.str "fewboxes.errors" 187)::hE P "__qualname__" 216 (.str "NoName" 215)::hE P "__firstlineno__" 218 (.int 4 217)::hE P "__static_attributes__" 219 (.ref 35)::[]) ::
 hU [] ::
 hZ [] ::
 hC "NoName" 209 4 0 0 31 false 181 32 .none .none .none 212 ::
 ⟨(.type "frame"),none,.plain,#[some (.ref 33),some (.ref 3),some (.ref 30),none,some (.str "fewboxes.errors" 187),none,some (.ref 0)]⟩ ::
 hU [] ::
 hD 2 (hE P "__module__" 214 (.str "fewboxes.errors" 187)::hE P "__firstlineno__" 218 (.int 4 217)::hE P "__static_attributes__" 219 (.ref 35)::hE P "__doc__" 220 .none::[]) ::
 ⟨(.type "type"),none,.cls ⟨"NoName",[(.ref 24)],[(.ref 37),(.ref 24),(.type "ValueError"),(.type "Exception"),(.type "BaseException"),(.type "object")],36,"NoName",true,[],[],false,none,false⟩,#[some (.ref 28),none,some (.str "NoName" 207),some (.str "NoName" 215),some (.builtin "ValueError.__new__"),some (.bool true)]⟩ ::
 ⟨(.type "super"),none,.fields #[(.ref 37),(.ref 37),(.ref 37)],#[]⟩ ::
 ⟨(.type "builtin_function_or_method"),none,.fields #[(.builtin "object.__init_subclass__"),(.ref 37)],#[]⟩ ::
 hU [(.ref 24)] ::
 ⟨(.type "builtin_function_or_method"),none,.fields #[(.builtin "type.__prepare__"),(.type "type")],#[]⟩ ::
 hD 4 (hE P "__module__" 230 (.str "fewboxes.errors" 187)::hE P "__qualname__" 232 (.str "Twice" 231)::hE P "__firstlineno__" 234 (.int 6 233)::hE P "__static_attributes__" 235 (.ref 47)::[]) ::
 hU [] ::
 hZ [] ::
 hC "Twice" 225 6 0 0 43 false 181 44 .none .none .none 228 ::
 ⟨(.type "frame"),none,.plain,#[some (.ref 45),some (.ref 3),some (.ref 42),none,some (.str "fewboxes.errors" 187),none,some (.ref 0)]⟩ ::
 hU [] ::
 hD 2 (hE P "__module__" 230 (.str "fewboxes.errors" 187)::hE P "__firstlineno__" 234 (.int 6 233)::hE P "__static_attributes__" 235 (.ref 47)::hE P "__doc__" 236 .none::[]) ::
 ⟨(.type "type"),none,.cls ⟨"Twice",[(.ref 24)],[(.ref 49),(.ref 24),(.type "ValueError"),(.type "Exception"),(.type "BaseException"),(.type "object")],48,"Twice",true,[],[],false,none,false⟩,#[some (.ref 40),none,some (.str "Twice" 223),some (.str "Twice" 231),some (.builtin "ValueError.__new__"),some (.bool true)]⟩ ::
 ⟨(.type "super"),none,.fields #[(.ref 49),(.ref 49),(.ref 49)],#[]⟩ ::
 ⟨(.type "builtin_function_or_method"),none,.fields #[(.builtin "object.__init_subclass__"),(.ref 49)],#[]⟩ ::
 hU [(.ref 24)] ::
 ⟨(.type "builtin_function_or_method"),none,.fields #[(.builtin "type.__prepare__"),(.type "type")],#[]⟩ ::
 hD 4 (hE P "__module__" 246 (.str "fewboxes.errors" 187)::hE P "__qualname__" 248 (.str "TooBig" 247)::hE P "__firstlineno__" 250 (.int 8 249)::hE P "__static_attributes__" 251 (.ref 59)::[]) ::
 hU [] ::
 hZ [] ::
 hC "TooBig" 241 8 0 0 55 false 181 56 .none .none .none 244 ::
 ⟨(.type "frame"),none,.plain,#[some (.ref 57),some (.ref 3),some (.ref 54),none,some (.str "fewboxes.errors" 187),none,some (.ref 0)]⟩ ::
 hU [] ::
 hD 2 (hE P "__module__" 246 (.str "fewboxes.errors" 187)::hE P "__firstlineno__" 250 (.int 8 249)::hE P "__static_attributes__" 251 (.ref 59)::hE P "__doc__" 252 .none::[]) ::
 ⟨(.type "type"),none,.cls ⟨"TooBig",[(.ref 24)],[(.ref 61),(.ref 24),(.type "ValueError"),(.type "Exception"),(.type "BaseException"),(.type "object")],60,"TooBig",true,[],[],false,none,false⟩,#[some (.ref 52),none,some (.str "TooBig" 239),some (.str "TooBig" 247),some (.builtin "ValueError.__new__"),some (.bool true)]⟩ ::
 ⟨(.type "super"),none,.fields #[(.ref 61),(.ref 61),(.ref 61)],#[]⟩ ::
 ⟨(.type "builtin_function_or_method"),none,.fields #[(.builtin "object.__init_subclass__"),(.ref 61)],#[]⟩ ::
 hU [(.ref 24)] ::
 ⟨(.type "builtin_function_or_method"),none,.fields #[(.builtin "type.__prepare__"),(.type "type")],#[]⟩ ::
 hD 4 (hE P "__module__" 262 (.str "fewboxes.errors" 187)::hE P "__qualname__" 264 (.str "NoText" 263)::hE P "__firstlineno__" 266 (.int 10 265)::hE P "__static_attributes__" 267 (.ref 71)::[]) ::
 hU [] ::
 hZ [] ::
 hC "NoText" 257 10 0 0 67 false 181 68 .none .none .none 260 ::
 ⟨(.type "frame"),none,.plain,#[some (.ref 69),some (.ref 3),some (.ref 66),none,some (.str "fewboxes.errors" 187),none,some (.ref 0)]⟩ ::
 hU [] ::
 hD 2 (hE P "__module__" 262 (.str "fewboxes.errors" 187)::hE P "__firstlineno__" 266 (.int 10 265)::hE P "__static_attributes__" 267 (.ref 71)::hE P "__doc__" 268 .none::[]) ::
 ⟨(.type "type"),none,.cls ⟨"NoText",[(.ref 24)],[(.ref 73),(.ref 24),(.type "ValueError"),(.type "Exception"),(.type "BaseException"),(.type "object")],72,"NoText",true,[],[],false,none,false⟩,#[some (.ref 64),none,some (.str "NoText" 255),some (.str "NoText" 263),some (.builtin "ValueError.__new__"),some (.bool true)]⟩ ::
 ⟨(.type "super"),none,.fields #[(.ref 73),(.ref 73),(.ref 73)],#[]⟩ ::
 ⟨(.type "builtin_function_or_method"),none,.fields #[(.builtin "object.__init_subclass__"),(.ref 73)],#[]⟩ ::
 hU [(.ref 24)] ::
 ⟨(.type "builtin_function_or_method"),none,.fields #[(.builtin "type.__prepare__"),(.type "type")],#[]⟩ ::
 hD 4 (hE P "__module__" 278 (.str "fewboxes.errors" 187)::hE P "__qualname__" 280 (.str "TooFew" 279)::hE P "__firstlineno__" 282 (.int 12 281)::hE P "__static_attributes__" 283 (.ref 83)::[]) ::
 hU [] ::
 hZ [] ::
 hC "TooFew" 273 12 0 0 79 false 181 80 .none .none .none 276 ::
 ⟨(.type "frame"),none,.plain,#[some (.ref 81),some (.ref 3),some (.ref 78),none,some (.str "fewboxes.errors" 187),none,some (.ref 0)]⟩ ::
 hU [] ::
 hD 2 (hE P "__module__" 278 (.str "fewboxes.errors" 187)::hE P "__firstlineno__" 282 (.int 12 281)::hE P "__static_attributes__" 283 (.ref 83)::hE P "__doc__" 284 .none::[]) ::
 ⟨(.type "type"),none,.cls ⟨"TooFew",[(.ref 24)],[(.ref 85),(.ref 24),(.type "ValueError"),(.type "Exception"),(.type "BaseException"),(.type "object")],84,"TooFew",true,[],[],false,none,false⟩,#[some (.ref 76),none,some (.str "TooFew" 271),some (.str "TooFew" 279),some (.builtin "ValueError.__new__"),some (.bool true)]⟩ ::
 ⟨(.type "super"),none,.fields #[(.ref 85),(.ref 85),(.ref 85)],#[]⟩ ::
 ⟨(.type "builtin_function_or_method"),none,.fields #[(.builtin "object.__init_subclass__"),(.ref 85)],#[]⟩ ::
 hU [(.ref 24)] ::
 ⟨(.type "builtin_function_or_method"),none,.fields #[(.builtin "type.__prepare__"),(.type "type")],#[]⟩ ::
 hD 4 (hE P "__module__" 294 (.str "fewboxes.errors" 187)::hE P "__qualname__" 296 (.str "NoDeed" 295)::hE P "__firstlineno__" 298 (.int 14 297)::hE P "__static_attributes__" 299 (.ref 95)::[]) ::
 hU [] ::
 hZ [] ::
 hC "NoDeed" 289 14 0 0 91 false 181 92 .none .none .none 292 ::
 ⟨(.type "frame"),none,.plain,#[some (.ref 93),some (.ref 3),some (.ref 90),none,some (.str "fewboxes.errors" 187),none,some (.ref 0)]⟩ ::
 hU [] ::
 hD 2 (hE P "__module__" 294 (.str "fewboxes.errors" 187)::hE P "__firstlineno__" 298 (.int 14 297)::hE P "__static_attributes__" 299 (.ref 95)::hE P "__doc__" 300 .none::[]) ::
 ⟨(.type "type"),none,.cls ⟨"NoDeed",[(.ref 24)],[(.ref 97),(.ref 24),(.type "ValueError"),(.type "Exception"),(.type "BaseException"),(.type "object")],96,"NoDeed",true,[],[],false,none,false⟩,#[some (.ref 88),none,some (.str "NoDeed" 287),some (.str "NoDeed" 295),some (.builtin "ValueError.__new__"),some (.bool true)]⟩ ::
 ⟨(.type "super"),none,.fields #[(.ref 97),(.ref 97),(.ref 97)],#[]⟩ ::
 ⟨(.type "builtin_function_or_method"),none,.fields #[(.builtin "object.__init_subclass__"),(.ref 97)],#[]⟩ ::
 hU [] ::
 hZ [] ::
 hU [(.str "deed" 308)] ::
 hU [] ::
 hG "box_numbers" 9 ::
 hC "box_numbers" 305 17 1 3 100 true 181 101 (.ref 102) (.ref 103) (.ref 104) 309 ::
 hF "box_numbers" 9 (.str "fewboxes.machine" 303) (.ref 105) ::
 hU [] ::
 hZ [] ::
 hU [(.str "deed" 315)] ::
 hU [] ::
 hG "shelf_numbers" 10 ::
 hC "shelf_numbers" 312 23 1 3 107 true 181 108 (.ref 109) (.ref 110) (.ref 111) 316 ::
 hF "shelf_numbers" 10 (.str "fewboxes.machine" 303) (.ref 112)::[]).foldl (fun (x:PySem.W.BT×Nat) o=>(x.1.ins x.2 o,x.2+1)) (.nil,0)).1
noncomputable def UO (w:World) (os:OsState):PySem.W.SharedT:=⟨QU w.params,114,{},Array.mk [],{},319,os⟩
theorem hM (w:World) (os:OsState):PySem.W.segRunT PySem.W.Fast.tw14364793385576792824 PySem.Challenge.pw_fewboxes_k64_judgements_refused w 11 (some (.ref 6)) 1 1560 (hS w os) (PySem.W.piecesOf (hb.take 11) hN (.body hb hN) ⟨0,0,0,0⟩ [PySem.W.topFrame ⟨0,0,0,0⟩])=some (.next,UO w os,.body hb hN,⟨23,0,28,13⟩):=by
 kernel_rfl
noncomputable def hP (w:World):Prop:=(fun os=>(PySem.W.segRunT PySem.W.Fast.tw14364793385576792824 PySem.Challenge.pw_fewboxes_k64_judgements_refused w 11 (some (.ref 6)) 1 1536 (UO w os) (PySem.W.piecesOf (hb.drop 11) hN (.body hb hN) ⟨23,0,28,13⟩ [PySem.W.topFrame ⟨0,0,0,0⟩])).map (fun x=>(x.1,x.2.2.1,x.2.2.2,(PySem.W.topRun PySem.W.Fast.tw14364793385576792824 PySem.Challenge.pw_fewboxes_k64_judgements_refused w 11 (some (.ref 6)) 2 x.2.1.abs ⟨PySem.W.doneF .next,.body hb hN,⟨289,0,319,55⟩,[PySem.W.topFrame ⟨0,0,0,0⟩]⟩).map fun s=>
 ((PySem.W.staticsOk (PySem.W.Fast.tw5923862056798008813 PySem.Challenge.pw_fewboxes_k64_judgements_refused.main.body) (PySem.W.boot_heap w.params) s.heap&&PySem.W.namesBound PySem.Challenge.pw_fewboxes_k64_judgements_refused s.heap&&PySem.W.gensDone s&&PySem.W.laidKept (PySem.W.boot_heap w.params) s.heap),PySem.W.Fast.tw4187177175401517315 hV ["PARTS"] (PySem.W.Fast.tw5923862056798008813 PySem.Challenge.pw_fewboxes_k64_judgements_refused.main.body) (fun s=>PySem.W.xlAt hV [] s&&PySem.W.recOk (PySem.W.Fast.tw2368527892694137696 PySem.Challenge.rw_fewboxes_k64_judgements_refused).toRowW.records s) true s,hA.map s.heap.get?))))=fun _=>some (.next,.body hb hN,⟨289,0,319,55⟩,some (true,PySem.W.openGood hV ["PARTS"],(hK w.params).map fun p=>some p.2))
theorem ha (w:World):hP (w.withFollow "special-get-raises" false):=by
 unfold hP
 kernel_rfl
theorem hb2 (w:World):hP (w.withFollow "special-get-raises" true):=by
 unfold hP
 kernel_rfl
theorem hW (w:World):hP w:=PySem.W.byRow2 "special-get-raises" ha hb2 w
end K64
open PySem PySem.W PyProof.Rows
set_option maxRecDepth 100000 in
set_option maxHeartbeats 0 in
theorem PySem.Challenge.cw_fewboxes_k64_judgements_refused_holds : PySem.Challenge.rw_fewboxes_k64_judgements_refused.Holds := by
 w_on;o_law
 refine holds_open (q:=K64.hV) (loose:=["PARTS"]) (Xt:=fun s=>xlAt K64.hV [] s&&recOk (PySem.Challenge.rw_fewboxes_k64_judgements_refused.row.toRowW.records) s) (XP:=XL K64.hV []) (Yf:=fun s=>K64.hA.map s.heap.get?) (Ya:=fun w=>(K64.hK w.params).map fun p=>some p.2) (YP:=InK K64.hK) (N:=6238) ?hl (InK.of fun _=>by kernel_rfl) InK.keeps
  (fun s e=>xl_of s (Bool.and_eq_true_iff.mp e).1) XL.keeps (by rfl) (by rfl) (by rfl) (fun s e=>recFacts_of (Bool.and_eq_true_iff.mp e).2) (by rfl) (by assumption) (by decide +kernel) ⟨rfl,rfl,rfl,rfl,rfl,by decide +kernel⟩ ?hw ?hc
 case hl=>
  refine L2.zG (p:=PySem.Challenge.pw_fewboxes_k64_judgements_refused) (S:=K64.hS) (S1:=K64.UO) (b':=K64.hb.take 11) (b2:=K64.hb.drop 11) (F1:=1560) (ps1:=⟨23,0,28,13⟩) (b:=K64.hb) (env:=K64.hN) (m₀:=11) (ann:=some (.ref 6)) (a:=12) (b1:=1) (F:=1536) (G:=2) (ps:=⟨0,0,0,0⟩) (ps':=⟨0,0,0,0⟩) (pl:=⟨289,0,319,55⟩) (fq:=⟨0,0,0,0⟩) (List.take_append_drop _ _) (by kernel_rfl) (fun _=>rfl) (by decide) (fun _=>by kernel_rfl) ?_ ?_ ?_ ?_ (by decide)
  · rw [PySem.W.Fast.te14364793385576792824];exact K64.h1
  · rw [PySem.W.Fast.te14364793385576792824];exact K64.h2
  · rw [PySem.W.Fast.te14364793385576792824];exact K64.hM
  · rw [PySem.W.Fast.te4187177175401517315,PySem.W.Fast.te5923862056798008813,PySem.W.Fast.te2368527892694137696,PySem.W.Fast.te14364793385576792824];exact fun w os=>congrFun (K64.hW w) os
 case hw=>w_witness2
 k_fill
 refine K64.walk (l:=PySem.Challenge.rw_fewboxes_k64_judgements_refused) rfl rfl (fun w h Y=>Y) ?F
 case F=>
  intro w mg fa h KX G Ql
  refine' K64.all_mk KX G ?a0 ?l0 ?c0 ?k0 ?a1 ?l1 ?c1 ?k1 ?a2 ?l2 ?c2 ?k2 ?a3 ?l3 ?c3 ?k3 ?a4 ?l4 ?c4 ?k4 ?a5 ?l5 ?c5 ?k5 ?a6 ?l6 ?c6 ?k6 ?a7 ?l7 ?c7 ?k7 ?a8 ?l8 ?c8 ?k8 ?a9 ?l9 ?c9 ?k9 ?TZ ?SQ ?Z3 ?PB ?a11 ?l11 ?V3 ?Yd ?Uo ?U7 ?Uh ?Wg ?XZ ?XE ?VF ?T2 ?Si ?l14 ?c14 ?Su ?Sv ?l15 ?Ze ?k15 ?ZI ?Vw ?c16 ?Wr ?Wh ?Yr ?c17 ?UA ?To ?Vg ?Wq ?Xk ?WS ?Sq ?X6 ?Ul ?YA ?SW ?T9 ?TV ?a21 ?VQ ?Zt ?ZK ?VP ?l22 ?Yx ?k22 ?X3 ?VO ?Zn ?Xf ?Xs ?Yn ?c24 ?TY ?Tn ?YH ?Sr ?k25 ?a26 ?X8 ?Z0 ?Sl ?XF ?WW ?T7 ?k27 ?Ss ?Yz ?Vj ?XD ?a29 ?Wu ?X7 ?k29 ?XT ?UB ?TF ?TN ?U0 ?Vd ?Wa ?Xd ?Yh ?Yu ?T8 ?k32 ?VS ?X0 ?Zd ?SR ?Wy ?l34 ?W0 ?SH ?a35 ?SS ?Tu ?k35 ?a36 ?ZG ?Vr ?Xy ?a37 ?Tt ?WN ?Vy ?a38 ?Wc ?Zc ?XX ?YT ?UP ?c39 ?Yt ?Vz ?Vk ?ZM ?Xa ?VH ?YE ?U6 ?XA ?YN ?Tg ?c42 ?Sk ?a43 ?XC ?UQ ?Ve ?XN ?Uv ?Xl ?Ws ?Wt ?WD ?ZD ?k45 ?v0 ?v1 ?v2 ?v3 ?v4 ?v5 ?z0 ?z1 ?z2 ?z3 ?z4 ?z5 ?z6 ?z7 ?z8 ?z9 ?Zi ?UI ?XI ?ky ?ko ?ou ?lA ?pR ?lC ?pI ?lh ?cb ?cj ?cg ?oV ?ow ?oI ?oB ?pP ?lq ?cS ?cT ?cZ ?bG ?pX ?oZ ?pq ?oK ?oM ?lE ?cX ?cW ?cU ?bF ?oi ?oJ ?oU ?oQ ?oY ?lj ?cY ?cV ?de ?bE ?pa ?pd ?VI ?Y7 ?YJ ?Sg ?Ro ?RN ?RO ?Q5 ?pz Ql
  (case a0=>k_is)
  (case l0=>k_is)
  (case c0=>k_is)
  (case k0=>k_is)
  (case a1=>k_is)
  (case l1=>k_is)
  (case c1=>k_is)
  (case k1=>k_is)
  (case a2=>k_is)
  (case l2=>k_is)
  (case c2=>k_is)
  (case k2=>k_is)
  (case a3=>k_is)
  (case l3=>k_is)
  (case c3=>k_is)
  (case k3=>k_is)
  (case a4=>k_is)
  (case l4=>k_is)
  (case c4=>k_is)
  (case k4=>k_is)
  (case a5=>k_is)
  (case l5=>k_is)
  (case c5=>k_is)
  (case k5=>k_is)
  (case a6=>k_is)
  (case l6=>k_is)
  (case c6=>k_is)
  (case k6=>k_is)
  (case a7=>k_is)
  (case l7=>k_is)
  (case c7=>k_is)
  (case k7=>k_is)
  (case a8=>k_is)
  (case l8=>k_is)
  (case c8=>k_is)
  (case k8=>k_is)
  (case a9=>k_is)
  (case l9=>k_is)
  (case c9=>k_is)
  (case k9=>k_is)
  (case TZ=>k_is)
  (case SQ=>k_is)
  (case Z3=>k_is)
  (case PB=>k_is)
  (case a11=>k_is)
  (case l11=>k_is)
  (case V3=>k_is)
  (case Yd=>k_is)
  (case Uo=>k_is)
  (case U7=>k_is)
  (case Uh=>k_is)
  (case Wg=>k_is)
  (case XZ=>k_is)
  (case XE=>k_is)
  (case VF=>k_is)
  (case T2=>k_is)
  (case Si=>k_is)
  (case l14=>k_is)
  (case c14=>k_is)
  (case Su=>k_is)
  (case Sv=>k_is)
  (case l15=>k_is)
  (case Ze=>k_is)
  (case k15=>k_is)
  (case ZI=>k_is)
  (case Vw=>k_is)
  (case c16=>k_is)
  (case Wr=>k_is)
  (case Wh=>k_is)
  (case Yr=>k_is)
  (case c17=>k_is)
  (case UA=>k_is)
  (case To=>k_is)
  (case Vg=>k_is)
  (case Wq=>k_is)
  (case Xk=>k_is)
  (case WS=>k_is)
  (case Sq=>k_is)
  (case X6=>k_is)
  (case Ul=>k_is)
  (case YA=>k_is)
  (case SW=>k_is)
  (case T9=>k_is)
  (case TV=>k_is)
  (case a21=>k_is)
  (case VQ=>k_is)
  (case Zt=>k_is)
  (case ZK=>k_is)
  (case VP=>k_is)
  (case l22=>k_is)
  (case Yx=>k_is)
  (case k22=>k_is)
  (case X3=>k_is)
  (case VO=>k_is)
  (case Zn=>k_is)
  (case Xf=>k_is)
  (case Xs=>k_is)
  (case Yn=>k_is)
  (case c24=>k_is)
  (case TY=>k_is)
  (case Tn=>k_is)
  (case YH=>k_is)
  (case Sr=>k_is)
  (case k25=>k_is)
  (case a26=>k_is)
  (case X8=>k_is)
  (case Z0=>k_is)
  (case Sl=>k_is)
  (case XF=>k_is)
  (case WW=>k_is)
  (case T7=>k_is)
  (case k27=>k_is)
  (case Ss=>k_is)
  (case Yz=>k_is)
  (case Vj=>k_is)
  (case XD=>k_is)
  (case a29=>k_is)
  (case Wu=>k_is)
  (case X7=>k_is)
  (case k29=>k_is)
  (case XT=>k_is)
  (case UB=>k_is)
  (case TF=>k_is)
  (case TN=>k_is)
  (case U0=>k_is)
  (case Vd=>k_is)
  (case Wa=>k_is)
  (case Xd=>k_is)
  (case Yh=>k_is)
  (case Yu=>k_is)
  (case T8=>k_is)
  (case k32=>k_is)
  (case VS=>k_is)
  (case X0=>k_is)
  (case Zd=>k_is)
  (case SR=>k_is)
  (case Wy=>k_is)
  (case l34=>k_is)
  (case W0=>k_is)
  (case SH=>k_is)
  (case a35=>k_is)
  (case SS=>k_is)
  (case Tu=>k_is)
  (case k35=>k_is)
  (case a36=>k_is)
  (case ZG=>k_is)
  (case Vr=>k_is)
  (case Xy=>k_is)
  (case a37=>k_is)
  (case Tt=>k_is)
  (case WN=>k_is)
  (case Vy=>k_is)
  (case a38=>k_is)
  (case Wc=>k_is)
  (case Zc=>k_is)
  (case XX=>k_is)
  (case YT=>k_is)
  (case UP=>k_is)
  (case c39=>k_is)
  (case Yt=>k_is)
  (case Vz=>k_is)
  (case Vk=>k_is)
  (case ZM=>k_is)
  (case Xa=>k_is)
  (case VH=>k_is)
  (case YE=>k_is)
  (case U6=>k_is)
  (case XA=>k_is)
  (case YN=>k_is)
  (case Tg=>k_is)
  (case c42=>k_is)
  (case Sk=>k_is)
  (case a43=>k_is)
  (case XC=>k_is)
  (case UQ=>k_is)
  (case Ve=>k_is)
  (case XN=>k_is)
  (case Uv=>k_is)
  (case Xl=>k_is)
  (case Ws=>k_is)
  (case Wt=>k_is)
  (case WD=>k_is)
  (case ZD=>k_is)
  (case k45=>k_is)
  (case v0=>k_is)
  (case v1=>k_is)
  (case v2=>k_is)
  (case v3=>k_is)
  (case v4=>k_is)
  (case v5=>k_is)
  (case z0=>k_is)
  (case z1=>k_is)
  (case z2=>k_is)
  (case z3=>k_is)
  (case z4=>k_is)
  (case z5=>k_is)
  (case z6=>k_is)
  (case z7=>k_is)
  (case z8=>k_is)
  (case z9=>k_is)
  (case Zi=>k_is)
  (case UI=>k_is)
  (case XI=>k_is)
  (case ky=>k_is)
  (case ko=>k_exc)
  (case ou=>k_is)
  (case lA=>k_exc)
  (case pR=>k_is)
  (case lC=>k_exc)
  (case pI=>k_is)
  (case lh=>k_exc)
  (case cb=>k_is)
  (case cj=>k_is)
  (case cg=>k_is)
  (case oV=>k_is)
  (case ow=>k_is)
  (case oI=>k_is)
  (case oB=>k_is)
  (case pP=>k_is)
  (case lq=>k_is)
  (case cS=>kit_is)
  (case cT=>kit_is)
  (case cZ=>kit_is)
  (case bG=>kit_is)
  (case pX=>k_is)
  (case oZ=>k_is)
  (case pq=>k_is)
  (case oK=>k_is)
  (case oM=>k_is)
  (case lE=>k_is)
  (case cX=>kit_is)
  (case cW=>kit_is)
  (case cU=>kit_is)
  (case bF=>kit_is)
  (case oi=>k_is)
  (case oJ=>k_is)
  (case oU=>k_is)
  (case oQ=>k_is)
  (case oY=>k_is)
  (case lj=>k_is)
  (case cY=>kit_is)
  (case cV=>kit_is)
  (case de=>kit_is)
  (case bE=>kit_is)
  (case pa=>k_is)
  (case pd=>k_is)
  (case VI=>k_is)
  (case Y7=>k_is)
  (case YJ=>k_is)
  (case Sg=>k_is)
  (case Ro=>rfl)
  (case RN=>rfl)
  (case RO=>rfl)
  (case Q5=>rfl)
  (case pz=>rfl)
#print axioms PySem.Challenge.cw_fewboxes_k64_judgements_refused_holds
