import PyProof.Rows.All
import Wide.All
import OpenK.AllK
import Wide.FinOn
import Lean
import PyProof.EqAt
import PyProof.EqKinds
import PyProof.NeKinds
import PyProof.TupleCall
import PyProof.WalksEnum
import PyProof.EnumStmt
import PyProof.ZipIter
import PyProof.Draws
import PyProof.EnumMake
import PyProof.WalksMore
import KE.KIntText
import PyProof.CallStr
import PyProof.StrCalls2
import PyProof.StrLawsTight
import PyProof.Rows.StrItems
import PySem.Challenge.RW_fewboxes_k63_rows_judged
set_option Elab.async false
set_option compiler.extract_closed false
set_option genSizeOf false
set_option linter.all false
set_option maxRecDepth 100000
namespace L2
open PySem PySem.Spec PyProof.Rows
noncomputable abbrev Key:=Sum Int Str
noncomputable def v7:Key→Value→Bool
 | .inl k,v=>Value.isInt k v
 | .inr x,v=>Value.isStrOf x v
noncomputable def YK (w:World):Key→Int
 | .inl k=>hashInt k
 | .inr x=>hashStr w x
theorem cx:∀{k:Key}{v:Value},v7 k v=true→(∃i t,k=Sum.inl i∧v=Value.int i t)∨(∃x t,k=Sum.inr x∧v=Value.str x t)
 | .inl i,v,h=>by
  obtain⟨t,e⟩:=Value.isInt_shape (k:=i) (v:=v) h
  exact .inl ⟨i,t,rfl,e⟩
 | .inr x,v,h=>by
  obtain⟨t,e⟩:=Value.isStrOf_shape (x:=x) (v:=v) h
  exact .inr ⟨x,t,rfl,e⟩
theorem ER (i:Int) (t:Tok):v7 (.inl i) (.int i t)=true:=by simp [v7,Value.isInt]
theorem Eh (x:Str) (t:Tok):v7 (.inr x) (.str x t)=true:=by simp [v7,Value.isStrOf]
theorem Oh (a b:Int):decide ((Sum.inl a:Key)=Sum.inl b)=(a==b):=by
 by_cases e:a=b
 · subst e;simp
 · have h:¬(Sum.inl a:Key)=Sum.inl b:=fun q=>e (Sum.inl.inj q)
   rw [decide_eq_false h]
   exact(beq_eq_false_iff_ne.mpr e).symm
theorem NU (a b:Str):decide ((Sum.inr a:Key)=Sum.inr b)=decide (a=b):=by
 by_cases e:a=b
 · subst e;simp
 · have h:¬(Sum.inr a:Key)=Sum.inr b:=fun q=>e (Sum.inr.inj q)
   rw [decide_eq_false h,decide_eq_false e]
theorem NH (a:Int) (b:Str):decide ((Sum.inl a:Key)=Sum.inr b)=false:=decide_eq_false (fun q=>nomatch q)
theorem Nm (a:Str) (b:Int):decide ((Sum.inr a:Key)=Sum.inl b)=false:=decide_eq_false (fun q=>nomatch q)
noncomputable def cz (prog:Program) (w:World):PySem.KeyKind prog w Key where
 is:=v7
 hash:=YK w
 inj:=fun v a b ha hb=>by
  rcases cx ha with ⟨i,t,rfl,rfl⟩|⟨x,t,rfl,rfl⟩
  · rcases cx hb with ⟨j,u,rfl,e⟩|⟨y,u,rfl,e⟩
    · injection e with e1 _;rw [e1]
    · exact nomatch e
  · rcases cx hb with ⟨j,u,rfl,e⟩|⟨y,u,rfl,e⟩
    · exact nomatch e
    · injection e with e1 _;rw [e1]
 byValue:=fun k v h=>by
  rcases cx h with ⟨i,t,rfl,rfl⟩|⟨x,t,rfl,rfl⟩<;>rfl
 pyHash:=fun hv h=>by
  rcases cx hv with ⟨i,t,rfl,rfl⟩|⟨x,t,rfl,rfl⟩
  · exact wpAny_pyHash_int h
  · exact wpAny_pyHash_str h
 eqBool:=fun hu hv h=>by
  rcases cx hu with ⟨i,t,rfl,rfl⟩|⟨x,t,rfl,rfl⟩
  · rcases cx hv with ⟨j,u,rfl,rfl⟩|⟨y,u,rfl,rfl⟩
    · rw [Oh] at h;exact wpAny_eqBool_int h
    · rw [NH] at h;exact SeqAt.EqAt.int_str i t y u _ _ _ _ h
  · rcases cx hv with ⟨j,u,rfl,rfl⟩|⟨y,u,rfl,rfl⟩
    · rw [Nm] at h;exact SeqAt.EqAt.str_int x t j u _ _ _ _ h
    · rw [NU] at h;exact wpAny_eqBool_str h
 «strs»:=fun k x t v h=>by
  rcases cx h with ⟨i,u,rfl,e⟩|⟨y,u,rfl,e⟩
  · exact nomatch e
  · injection e with e1 _
    subst e1
    cases v<;>rfl
theorem y4 (prog:Program) (w:World) (i:Int) (t:Tok):(cz prog w).is (.inl i) (.int i t)=true:=ER i t
theorem Aw (prog:Program) (w:World) (x:Str) (t:Tok):(cz prog w).is (.inr x) (.str x t)=true:=Eh x t
end L2
namespace L2
open PySem PySem.Spec PyProof.Rows
inductive V where
 | non|bl (b:Bool)|int (i:Int)|str (x:Str)|byt (b:Array UInt8)|flt (b:UInt64)|ref (a:Addr)|ty (n:String)
 deriving DecidableEq
noncomputable def RelV:V→Value→Prop
 | .non,u=>u=Value.none
 | .bl b,u=>u=Value.bool b
 | .int i,u=>∃t,u=Value.int i t
 | .str x,u=>∃t,u=Value.str x t
 | .byt b,u=>∃t,u=Value.bytes b t
 | .flt b,u=>∃t,u=Value.float b t
 | .ref a,u=>u=Value.ref a
 | .ty n,u=>u=Value.type n
noncomputable abbrev Vals:List V→List Value→Prop:=Paired RelV
theorem Vals.length {xs:List V}{us:List Value} (r:Vals xs us):xs.length=us.length:=Paired.length r
theorem Vals.get:∀{xs:List V}{us:List Value}{i:Nat}{x:V},Vals xs us→xs[i]? = some x→∃u,us[i]? = some u∧RelV x u
 | _,_,_,_,.nil,e=>by simp at e
 | _,_,0,_,.cons r _,e=>by simp at e;subst e;exact⟨_,rfl,r⟩
 | _,_,i+1,x,.cons _ t,e=>by
  obtain⟨u,h1,h2⟩:=Vals.get (i:=i) (x:=x) t (by simpa using e)
  exact⟨u,by simpa using h1,h2⟩
theorem Vals.set {x:V}{u:Value} (r:RelV x u):∀{xs:List V}{us:List Value} (i:Nat),Vals xs us→Vals (xs.set i x) (us.set i u)
 | _,_,_,.nil=>.nil
 | _,_,0,.cons _ t=>.cons r t
 | _,_,i+1,.cons q t=>.cons q (Vals.set r i t)
theorem Vals.append:∀{xs ys:List V}{us ws:List Value},Vals xs us→Vals ys ws→Vals (xs++ys) (us++ws)
 | _,_,_,_,.nil,s=>s
 | _,_,_,_,.cons r t,s=>.cons r (Vals.append t s)
theorem Vals.take:∀{xs:List V}{us:List Value} (n:Nat),Vals xs us→Vals (xs.take n) (us.take n)
 | _,_,0,_=>.nil
 | _,_,_+1,.nil=>.nil
 | _,_,n+1,.cons r t=>.cons r (Vals.take n t)
theorem Vals.drop:∀{xs:List V}{us:List Value} (n:Nat),Vals xs us→Vals (xs.drop n) (us.drop n)
 | _,_,0,r=>r
 | _,_,_+1,.nil=>.nil
 | _,_,n+1,.cons _ t=>Vals.drop n t
noncomputable def su:Option V→Option Value→Prop
 | some v,some u=>RelV v u
 | none,none=>True
 | _,_=>False
noncomputable def KV {κ:Type}:List (κ×V)→List (κ×Value)→Prop:=Paired fun (p:κ×V) (q:κ×Value)=>p.1=q.1∧RelV p.2 q.2
noncomputable def kV:Key→V
 | .inl i=>.int i
 | .inr x=>.str x
inductive HO where
 | lst (xs:List V)
 | tup (xs:List V)
 | dK (aS:List (Key×V))|dT (aS:List (List Key×V))
 | set (S:Int→Bool) (n:Nat)
 | ins (C dx:Addr) (fs:List (Str×V))
 | own (x:Addr)
 | xd (fs:List (Str×V))
 | met (f x:Addr)
 | rng (lo hi:Int)
 | frz (o:Obj) (u:HO)
 | tbl (ps:Array Value)
 | ext (φ:Heap→Prop)
noncomputable abbrev Hp:=Addr→Option HO
noncomputable def upd (H:Hp) (a:Addr) (o:HO):Hp:=fun b=>if b=a then some o else H b
theorem bI {H:Hp}{a:Addr}{o:HO}:upd H a o a=some o:=by unfold upd;rw [if_pos rfl]
theorem bg {H:Hp}{a b:Addr}{o:HO} (h:b≠a):upd H a o b=H b:=by unfold upd;rw [if_neg h]
theorem gB {H:Hp}{a b:Addr}{o u:HO} (h:H a=some o) (h':H b=some u) (d:o≠u):a≠b:=by
 intro e;subst e;rw [h] at h';exact d (Option.some.inj h')
theorem aL {H:Hp}{a b:Addr}{o:HO} (h:H a=some o) (h':H b=none):a≠b:=by
 intro e;subst e;rw [h] at h';cases h'
section
variable (P : Program) (w : World)
noncomputable def cv (H:Hp) (h:Heap) (a:Addr):HO→Prop
 | .lst xs=>xs.length≤sizeLine∧∃(aG:List Value) (n:Nat),Vals xs aG∧h.get? a=some {cls:=.type "list",data:=.seq aG.toArray n}
 | .tup xs=>xs.length≤sizeLine∧∃aG:List Value,Vals xs aG∧IsTup h a aG.toArray
 | .dK aS=>aS.length≤sizeLine∧(a==sysModules)=false∧∃vs,KV aS vs∧h.DictOf (cz P w) a vs
 | .dT aS=>aS.length≤sizeLine∧(a==sysModules)=false∧∃xs:List (List Key×Addr×Value),
  Paired (fun (p:List Key×V) (q:List Key×Addr×Value)=>p.1=q.1∧H q.2.1=some (.tup (p.1.map kV))∧RelV p.2 q.2.2) aS xs∧
  ∃o es ep,h.get? a=some o∧o.ExactDict∧o.data = .dict es ep∧es.toList=xs.map (entryOfKey (tupleKind (cz P w)))∧(xs.map (·.1)).Nodup
 | .set S n=>h.SetOf (intKind P w) a S n
 | .ins C dx fs=>H dx=some (.own a)∧fs.length≤1000∧dx≠a∧h.get? a=some (PySem.W.instObj C dx)∧
  ∃mA,h.Ns1 dx mA∧(∀f,su (fs.lookup f) (mA f))∧PySem.Within mA (fs.map (·.1))
 | .own _=>∃o,h.get? a=some o
 | .xd fs=>∃mA,h.Ns1 a mA∧∀f,su (fs.lookup f) (mA f)
 | .rng lo hi=>∃t u v,h.get? a=some {cls:=.type "range",data:=.fields #[.int lo t,.int hi u,.int 1 v]}
 | .frz o u=>h.get? a=some o∧cv H h a u
 | .tbl ps=>h.get? a=some {cls:=.none,data:=.fields ps}
 | .met f x=>h.get? a=some (PySem.W.methodObj (.ref f) (.ref x))
 | .ext φ=>φ h∧(∃o,h.get? a=some o)∧∀h1 h2:Heap,φ h1→(∀o,h1.get? a=some o→h2.get? a=some o)→φ h2
noncomputable def iW (H:Hp) (h:Heap):Prop:=∀a o,H a=some o→cv P w H h a o
end
section
variable {P : Program} {w : World} {H H' : Hp} {h h' : Heap} {a : Addr} {o : HO}
theorem cv.lt (x:cv P w H h a o):a<h.objs.size:=by
 cases o with
 | lst xs=>obtain⟨_,_,_,_,e⟩:=x;exact Heap.lt_size e
 | tup xs=>obtain⟨_,_,_,p⟩:=x;exact p.lt
 | dK aS=>obtain⟨_,_,_,_,o,_,_,e,_⟩:=x;exact Heap.lt_size e
 | dT aS=>obtain⟨_,_,_,_,o,_,_,e,_⟩:=x;exact Heap.lt_size e
 | set S n=>obtain⟨o,_,_,_,e,_⟩:=x;exact Heap.lt_size e
 | ins C dx fs=>obtain⟨_,_,_,e,_⟩:=x;exact Heap.lt_size e
 | own y=>obtain⟨_,e⟩:=x;exact Heap.lt_size e
 | xd fs=>obtain⟨_,⟨_,_,_,e,_⟩,_⟩:=x;exact Heap.lt_size e
 | rng lo hi=>obtain⟨_,_,_,e⟩:=x;exact Heap.lt_size e
 | frz ob u=>obtain⟨e,_⟩:=x;exact Heap.lt_size e
 | tbl ps=>exact Heap.lt_size (show h.get? a=some _ from x)
 | met f y=>exact Heap.lt_size (show h.get? a=some _ from x)
 | ext φ=>obtain⟨_,⟨_,e⟩,_⟩:=x;exact Heap.lt_size e
theorem Paired.NX {α β:Type}{F G:α→β→Prop}:∀{l₁:List α}{l₂:List β},Paired F l₁ l₂→(∀a b,F a b→G a b)→Paired G l₁ l₂
 | _,_,.nil,_=>.nil
 | _,_,.cons r t,f=>.cons (f _ _ r) (Paired.NX t f)
theorem cv.lB (x:cv P w H h a o) (k:∀b u,(b=a∨H b=some (.own a))→h.get? b=some u→h'.get? b=some u)
 (ho:∀b,H b=some (.own a)→H' b=some (.own a)) (ht:∀b xs,H b=some (.tup xs)→H' b=some (.tup xs)):cv P w H' h' a o:=by
 induction o with
 | lst xs=>obtain⟨z,aG,n,r,e⟩:=x;exact⟨z,aG,n,r,k _ _ (.inl rfl) e⟩
 | tup xs=>obtain⟨z,aG,r,ob,e,c⟩:=x;exact⟨z,aG,r,ob,k _ _ (.inl rfl) e,c⟩
 | dK aS=>obtain⟨z,y,vs,r,ob,es,ep,e,c⟩:=x;exact⟨z,y,vs,r,ob,es,ep,k _ _ (.inl rfl) e,c⟩
 | dT aS=>
  obtain⟨z,y,xs,r,ob,es,ep,e,c⟩:=x
  exact⟨z,y,xs,Paired.NX r fun p q z=>⟨z.1,ht _ _ z.2.1,z.2.2⟩,ob,es,ep,k _ _ (.inl rfl) e,c⟩
 | set S n=>obtain⟨ob,es,ep,t,e,c⟩:=x;exact⟨ob,es,ep,t,k _ _ (.inl rfl) e,c⟩
 | ins C dx fs=>
  obtain⟨d,z,ne,e,mA,⟨od,es,ep,e2,c⟩,r⟩:=x
  exact⟨ho _ d,z,ne,k _ _ (.inl rfl) e,mA,⟨od,es,ep,k _ _ (.inr d) e2,c⟩,r⟩
 | own y=>obtain⟨ob,e⟩:=x;exact⟨ob,k _ _ (.inl rfl) e⟩
 | xd fs=>obtain⟨mA,⟨od,es,ep,e,c⟩,r⟩:=x;exact⟨mA,⟨od,es,ep,k _ _ (.inl rfl) e,c⟩,r⟩
 | rng lo hi=>obtain⟨t,u,v,e⟩:=x;exact⟨t,u,v,k _ _ (.inl rfl) e⟩
 | frz ob u ih=>obtain⟨e,q⟩:=x;exact⟨k _ _ (.inl rfl) e,ih q⟩
 | tbl ps=>
  have e:h.get? a=some {cls:=.none,data:=.fields ps}:=x
  show h'.get? a=some {cls:=.none,data:=.fields ps}
  exact k a _ (.inl rfl) e
 | met f y=>
  have e:h.get? a=some (PySem.W.methodObj (.ref f) (.ref y)):=x
  show h'.get? a=some (PySem.W.methodObj (.ref f) (.ref y))
  exact k a _ (.inl rfl) e
 | ext φ=>obtain⟨p,⟨o,e⟩,st⟩:=x;exact⟨st _ _ p fun o q=>k _ _ (.inl rfl) q,⟨o,k _ _ (.inl rfl) e⟩,st⟩
theorem iW.lt (x:iW P w H h) (e:H a=some o):a<h.objs.size:=(x a o e).lt
theorem iW.fresh (x:iW P w H h) (e:h.objs.size≤a):H a=none:=by
 cases q:H a with
 | none=>rfl
 | some u=>exact absurd (Nat.lt_of_lt_of_le (x.lt q) e) (Nat.lt_irrefl _)
theorem iW.kept (x:iW P w H h) (k:∀b u,h.get? b=some u→h'.get? b=some u):iW P w H h':=fun a o e=>
 (x a o e).lB (fun b u _ q=>k b u q) (fun _ q=>q) fun _ _ q=>q
theorem iW.laid (x:iW P w H h) (k:∀b u,h.get? b=some u→h'.get? b=some u) (hp:h.objs.size≤a) (new:cv P w (upd H a o) h' a o):iW P w (upd H a o) h':=fun b u e=>by
 have hn:=x.fresh hp
 by_cases hb:b=a
 · subst hb;rw [bI] at e;cases e;exact new
 · rw [bg hb] at e
   exact(x b u e).lB (fun c v _ q=>k c v q) (fun c q=>by rw [bg (aL q hn)];exact q) fun c xs q=>by rw [bg (aL q hn)];exact q
end
noncomputable def Rd (H:Hp) (a:Addr) (u:HO):Prop:=H a=some u∨∃o,H a=some (.frz o u)
theorem Rd.of {H:Hp}{a:Addr}{u:HO} (h:H a=some u):Rd H a u:=.inl h
theorem Rd.ok {P:Program}{w:World}{H:Hp}{h:Heap}{a:Addr}{u:HO} (r:Rd H a u) (x:iW P w H h):cv P w H h a u:=by
 rcases r with r|⟨o,r⟩
 · exact x a u r
 · obtain⟨_,q⟩:=x a _ r
   exact q
noncomputable def Q1:Option HO→Prop
 | some (.lst _)=>True
 | some (.dK _)=>True
 | some (.dT _)=>True
 | some (.set _ _)=>True
 | some (.ins _ _ _)=>True
 | some (.ext _)=>True
 | _=>False
section
variable {P : Program} {w : World} {H : Hp} {h h' : Heap} {x e : Addr} {o' : HO}
theorem iW.write (ok:iW P w H h) (mu:Q1 (H x)) (he:e=x∨H e=some (.own x)) (k:∀b u,b≠e→h.get? b=some u→h'.get? b=some u) (OS:∃u,h'.get? e=some u)
 (new:cv P w (upd H x o') h' x o'):iW P w (upd H x o') h':=fun b u q=>by
 have RK:∀c y,H c=some (.own y)→c≠x:=fun c y r z=>by subst z;rw [r] at mu;exact mu
 have UR:∀c xs,H c=some (.tup xs)→c≠x:=fun c xs r z=>by subst z;rw [r] at mu;exact mu
 by_cases hb:b=x
 · subst hb;rw [bI] at q;cases q;exact new
 · rw [bg hb] at q
   by_cases Ob:b=e
   · have q':H b=some (.own x):=by
      rcases he with z|z
      · exact absurd (Ob.trans z) hb
      · rw [Ob];exact z
     rw [q] at q';cases q'
     obtain⟨v,hv⟩:=OS
     exact⟨v,by rw [Ob];exact hv⟩
   · refine (ok b u q).lB (fun c v hc r=>k c v ?_ r) (fun c r=>by rw [bg (RK c b r)];exact r) fun c xs r=>by rw [bg (UR c xs r)];exact r
     rcases hc with rfl|hc
     · exact Ob
     · rintro rfl
       rcases he with z|z
       · exact RK c b hc z
       · rw [hc] at z;cases z;exact hb rfl
end
structure Un (fs ex:List Addr) (H H':Hp) (h h':Heap):Prop where
 keep:∀b o,h.get? b=some o→H b=none→b∉fs→b∉ex→h'.get? b=some o
 slot:∀b o,h.get? b=some o→H b=none→b∈fs→b∉ex→∃sl,h'.get? b=some {o with slots:=sl}
 free:∀b o,h.get? b=some o→H b=none→b∉ex→H' b=none
 there:∀b o,h.get? b=some o→b∉ex→∃o',h'.get? b=some o'
 cZ:∀b xs,H b=some (.tup xs)→H' b=some (.tup xs)
 kI:∀b o u,H b=some (.frz o u)→H' b=some (.frz o u)
 nL:∀b ps,H b=some (.tbl ps)→∃more,H' b=some (.tbl (ps++more))
section
variable {fs ZC ex Ti : List Addr} {H H1 H2 : Hp} {h h1 h2 h' : Heap} {a x e : Addr} {o : HO}
theorem Un.any (u:Un fs ex H H1 h h1) {b:Addr}{ob:Obj} (q:h.get? b=some ob) (n:H b=none) (hx:b∉ex):∃sl,h1.get? b=some {ob with slots:=sl}:=by
 by_cases hb:b∈fs
 · exact u.slot b ob q n hb hx
 · exact⟨ob.slots,u.keep b ob q n hb hx⟩
theorem Un.trans (a:Un fs ex H H1 h h1) (b:Un fs ex H1 H2 h1 h2):Un fs ex H H2 h h2 where
 keep:=fun c ob q n hc hx=>b.keep c ob (a.keep c ob q n hc hx) (a.free c ob q n hx) hc hx
 slot:=fun c ob q n hc hx=>by
  obtain⟨sl,e1⟩:=a.slot c ob q n hc hx
  obtain⟨U9,e2⟩:=b.slot c _ e1 (a.free c ob q n hx) hc hx
  exact⟨U9,e2⟩
 free:=fun c ob q n hx=>by
  obtain⟨o',e1⟩:=a.there c ob q hx
  exact b.free c o' e1 (a.free c ob q n hx) hx
 there:=fun c ob q hx=>by
  obtain⟨o',e1⟩:=a.there c ob q hx
  exact b.there c o' e1 hx
 cZ:=fun c xs q=>b.cZ c xs (a.cZ c xs q)
 kI:=fun c ob xs q=>b.kI c ob xs (a.kI c ob xs q)
 nL:=fun c ps q=>by
  obtain⟨m1,e1⟩:=a.nL c ps q
  obtain⟨m2,e2⟩:=b.nL c _ e1
  exact⟨m1++m2,by rw [e2,Array.append_assoc]⟩
theorem Un.kept (k:∀b u,h.get? b=some u→h'.get? b=some u):Un fs ex H H h h':=
 ⟨fun b ob q _ _ _=>k b ob q,fun b ob q _ _ _=>⟨ob.slots,k b ob q⟩,fun _ _ _ n _=>n,fun b ob q _=>⟨ob,k b ob q⟩,fun _ _ q=>q,fun _ _ _ q=>q,fun _ ps q=>⟨#[],by rw [q];simp⟩⟩
theorem Un.refl:Un fs ex H H h h:=Un.kept fun _ _ q=>q
theorem Un.laid (k:∀b u,h.get? b=some u→h'.get? b=some u) (hp:h.objs.size≤a) (hn:H a=none):Un fs ex H (upd H a o) h h' where
 keep:=fun b u q _ _ _=>k b u q
 slot:=fun b u q _ _ _=>⟨u.slots,k b u q⟩
 free:=fun b u q n _=>by rw [bg (Nat.ne_of_lt (Nat.lt_of_lt_of_le (Heap.lt_size q) hp))];exact n
 there:=fun b u q _=>⟨u,k b u q⟩
 cZ:=fun b xs q=>by rw [bg (aL q hn)];exact q
 kI:=fun b u xs q=>by rw [bg (aL q hn)];exact q
 nL:=fun b ps q=>⟨#[],by rw [bg (aL q hn),q];simp⟩
theorem Un.write (mu:Q1 (H x)) (he:e=x∨H e=some (.own x)) (k:∀b u,b≠e→h.get? b=some u→h'.get? b=some u) (OS:∃u,h'.get? e=some u):Un fs ex H (upd H x o) h h':=by
 have hx:∀b,H b=none→b≠x:=fun b n z=>by subst z;rw [n] at mu;exact mu
 have hb:∀b,H b=none→b≠e:=fun b n z=>by
  subst z
  rcases he with r|r
  · exact hx b n r
  · rw [n] at r;cases r
 have hm:∀b u,H b=some u→¬Q1 (some u)→b≠x:=fun b u q nm z=>by subst z;rw [q] at mu;exact nm mu
 refine⟨fun b u q n _ _=>k b u (hb b n) q,fun b u q n _ _=>⟨u.slots,k b u (hb b n) q⟩,fun b u q n _=>by rw [bg (hx b n)];exact n,fun b u q _=>?_,
  fun b xs q=>by rw [bg (hm b _ q fun z=>z)];exact q,fun b u xs q=>by rw [bg (hm b _ q fun z=>z)];exact q,fun b ps q=>⟨#[],by rw [bg (hm b _ q fun z=>z),q];simp⟩⟩
 by_cases Ob:b=e
 · subst Ob;exact OS
 · exact⟨u,k b u Ob q⟩
theorem Un.mono (u:Un fs ex H H1 h h1) (hs:∀b∈fs,b∈ZC) (hx:∀b∈ex,b∈Ti):Un ZC Ti H H1 h h1:=
 ⟨fun b ob q n hb he=>u.keep b ob q n (fun z=>hb (hs b z)) fun z=>he (hx b z),fun _ _ q n _ he=>u.any q n fun z=>he (hx _ z),fun b ob q n he=>u.free b ob q n fun z=>he (hx b z),fun b ob q he=>u.there b ob q fun z=>he (hx b z),u.cZ,u.kI,u.nL⟩
end
noncomputable def Sy (h:Heap) (H:Hp):List Addr:=(List.range h.objs.size).filter fun a=>(H a).isSome
noncomputable def xM (h:Heap) (H:Hp):Heap:=PySem.W.hideAll h (Sy h H)
theorem Ff (h:Heap) (H:Hp):(xM h H).objs.size=h.objs.size:=PySem.W.hideAll_size _ _
theorem Ha {h:Heap}{H:Hp}{b:Addr}{o:Obj} (e:h.get? b=some o) (n:H b=none):(xM h H).get? b=some o:=
 PySem.W.hideAll_get _ e fun hm=>by
  have q:(H b).isSome=true:=(List.mem_filter.mp hm).2
  rw [n] at q;simp at q
theorem K6 {h:Heap}{H:Hp}{b:Addr}{o:Obj} (e:(xM h H).get? b=some o):h.get? b=some o∧H b=none:=by
 have e':h.get? b=some o:=PySem.W.of_hideAll (Sy h H) e
 refine⟨e',?_⟩
 cases q:H b with
 | none=>rfl
 | some x=>
  have hm:b∈Sy h H:=List.mem_filter.mpr ⟨List.mem_range.mpr (Heap.lt_size e'),by simp [q]⟩
  have z:(xM h H).get? b=none:=PySem.W.hideAll_none (Sy h H) hm
  rw [z] at e;cases e
noncomputable def Jb (g h:Heap) (L:Addr):List (Addr×Obj):=(List.range h.objs.size).filterMap fun a=>if a=L∨(g.get? a).isSome=true then none else (h.get? a).map fun o=>(a,o)
noncomputable def rest (g h:Heap) (L d:Addr):List (Addr×Obj):=(Jb g h L).filter fun p=>decide (p.1≠d)
end L2
namespace L2
open PySem PySem.Spec PyProof.Rows
structure Mod (K:PySem.W.Frag) (mg:Str→Option Value) (base:Heap):Prop where
 Qx:K.In base
 glob:base.Ns mainGlobals mg
 blt:∃mb,base.Ns builtinsNs mb∧∀x:Str,x≠"__name__"→mb x=bootBuiltins x
 nolimit:base.NoLimit
structure Cx where
 prog:Program
 w:World
 K:PySem.W.Frag
 mg:Str→Option Value
 base:Heap
 A:Around
 N:List Str
 s₀:Shared
 H₀:Hp
 env:Env
 outer:List Env
 stack:List Env
 ex:List Addr
 fn:Str→Bool
 calm:Bool
 pn:List (Addr×Obj)
 xe:Value→Shared→Prop
noncomputable def kO (l:List Env):List Addr:=l.filterMap (·.frame)
noncomputable abbrev Cx.fs (X:Cx):List Addr:=kO X.outer
noncomputable def SI (sc:Scope) (x:Str):Prop:=sc.names.lookup x=some .local ∨ sc.names.lookup x=some .cell∨sc.names.lookup x=some .free
noncomputable def Loc (sc:Scope) (x:Str):Prop:=sc.names.lookup x=some .local ∨ sc.names.lookup x=some .cell
noncomputable def Look (env:Env) (h:Heap) (m:Str→Option Value) (x:Str) (u:Value):Prop:=
 (env.kindOf x=some .local ∧ m x=some u)∨((env.kindOf x=some .cell∨env.kindOf x=some .free)∧∃c,env.cells.lookup x=some c∧h.IsCell c (some u))
structure Cx.Ok (X:Cx):Prop where
 mod:Mod X.K X.mg X.base
 kind:X.env.scope.kind = .function
 glob:X.env.globals=mainGlobals
 blt:X.env.builtins=builtinsNs
 above:X.s₀.heap.objs.size≤X.env.locals
 inj:∀x y c,X.env.cells.lookup x=some c→X.env.cells.lookup y=some c→x=y
 has:∀x,(X.env.kindOf x=some .cell∨X.env.kindOf x=some .free)→∃c,X.env.cells.lookup x=some c
 IT:∀x c,X.fn x=true→X.env.cells.lookup x=some c→X.s₀.heap.objs.size≤c
 hd:X.calm=true→X.A.handled=none
 frames:X.A.frames=some X.stack
 Ad:X.stack=X.outer∨(X.stack=X.env::X.outer∧X.env.frame=some X.env.locals)
 Ac:∀b∈X.ex,b≠X.env.locals∧∀x c,X.env.cells.lookup x=some c→c≠b
 bs:∀b o,X.base.get? b=some o→X.s₀.heap.get? b=some o∧X.H₀ b=none
 Bo:X.base.objs.size≤X.s₀.heap.objs.size
 uC:∀b o,X.base.get? b=some o→b∉X.ex
 qR:∀b∈X.ex,b∉X.fs
 lP:X.s₀.heap.FunFrames X.base X.outer
 Fu:∀b∈X.fs,X.H₀ b=none
structure Inv (X:Cx) (pins:List (Addr×Obj)) (σ:List (Option V)) (H:Hp) (s:Shared):Prop where
 ok:X.Ok
 os:s.os=X.s₀.os
 bare:AllBare s.gens
 base:Un X.fs X.ex X.H₀ H X.s₀.heap s.heap
 loc:∃m,s.heap.Ns X.env.locals m∧∀(i:Nat) (x:Str) (v:V),X.N[i]? = some x→σ[i]? = some (some v)→SI X.env.scope x→∃u,RelV v u∧Look X.env s.heap m x u
 cell:∀x c,X.env.cells.lookup x=some c→∃v,s.heap.IsCell c v
 free:H X.env.locals=none
 ix:∀x c,X.env.cells.lookup x=some c→H c=none
 pin:∀p∈X.pn++pins,s.heap.get? p.1=some p.2∧H p.1=none∧p.1≠X.env.locals∧p.1∉X.fs∧∀v,p.2.data ≠ .cell v
 aX:iW X.prog X.w H s.heap
 len:σ.length=X.N.length
section
variable {X : Cx} {pins : List (Addr × Obj)} {σ : List (Option V)} {H H' : Hp} {s : Shared} {h' : Heap}
theorem Cx.Ok.ZO (ok:X.Ok) {b:Addr}{o:Obj} (e:X.base.get? b=some o):b∉X.fs:=fun hb=>by
 have:=(ok.lP.mem hb).1
 rw [e] at this;cases this
theorem Inv.bs (I:Inv X pins σ H s):∀b o,X.base.get? b=some o→s.heap.get? b=some o∧H b=none:=fun b o e=>
 ⟨I.base.keep b o (I.ok.bs b o e).1 (I.ok.bs b o e).2 (I.ok.ZO e) (I.ok.uC b o e),I.base.free b o (I.ok.bs b o e).1 (I.ok.bs b o e).2 (I.ok.uC b o e)⟩
theorem Inv.bk (I:Inv X pins σ H s):∀b o,X.base.get? b=some o→s.heap.get? b=some o:=fun b o e=>(I.bs b o e).1
theorem Inv.mod (I:Inv X pins σ H s):Mod X.K X.mg X.base:=I.ok.mod
theorem Inv.xk (I:Inv X pins σ H s):X.K.In s.heap:=I.ok.mod.Qx.keeps I.bk
theorem Inv.nolimit (I:Inv X pins σ H s):s.heap.NoLimit:=I.ok.mod.nolimit.keeps I.bk
theorem Inv.fr (I:Inv X pins σ H s):∃m,Fr X.base X.env.locals s.heap m:=
 let ⟨m,hn,_⟩:=I.loc
 ⟨m,hn,I.bk,Nat.le_trans I.ok.Bo I.ok.above⟩
theorem Inv.lt (I:Inv X pins σ H s):X.env.locals<s.heap.objs.size:=let ⟨_,hn,_⟩:=I.loc;hn.lt
theorem Inv.sz (I:Inv X pins σ H s):X.s₀.heap.objs.size≤s.heap.objs.size:=Nat.le_trans I.ok.above (Nat.le_of_lt I.lt)
theorem Inv.QZ (I:Inv X pins σ H s) {a:Addr} (h:s.heap.objs.size≤a):a∉X.fs:=fun hb=>by
 obtain⟨_,o,ho,_⟩:=I.ok.lP.mem hb
 exact absurd (Nat.lt_of_lt_of_le (Heap.lt_size ho) (Nat.le_trans I.sz h)) (Nat.lt_irrefl _)
theorem Inv.Nr (I:Inv X pins σ H s):∀x c,X.env.cells.lookup x=some c→c≠X.env.locals:=fun x c e z=>by
 obtain⟨v,o,ho,hd⟩:=I.cell x c e
 obtain⟨m,⟨o',es,ep,Dk,hd',_⟩,_⟩:=I.loc
 rw [z,Dk] at ho;cases ho;rw [hd'] at hd;cases hd
theorem Inv.lP (I:Inv X pins σ H s):s.heap.FunFrames X.base X.outer:=by
 have all:∀(l:List Env),(∀b∈kO l,b∈X.fs)→X.s₀.heap.FunFrames X.base l→s.heap.FunFrames X.base l:=by
  intro l
  induction l with
  | nil=>intro _ _;trivial
  | cons env r ih=>
   intro hs hl
   obtain⟨hk,⟨L,o,hf,hn,ho,hd⟩,hr⟩:=hl
   have hL:L∈X.fs:=hs L (by unfold kO;rw [List.filterMap_cons,hf];exact List.mem_cons_self)
   obtain⟨sl,e⟩:=I.base.slot L o ho (I.ok.Fu L hL) hL fun z=>I.ok.qR L z hL
   exact⟨hk,⟨L,_,hf,hn,e,hd⟩,ih (fun b hb=>hs b (by unfold kO;rw [List.filterMap_cons,hf];exact List.mem_cons_of_mem _ hb)) hr⟩
 exact all X.outer (fun _ hb=>hb) I.ok.lP
theorem Inv.stack (I:Inv X pins σ H s):s.heap.FunFrames X.base X.stack:=by
 rcases I.ok.Ad with e|⟨e,hf⟩
 · rw [e];exact I.lP
 · rw [e]
   obtain⟨m,hn,_⟩:=I.loc
   refine .cons (by rw [I.ok.kind];decide) hf hn ?_ I.lP
   exact Heap.get?_none_of_le (Nat.le_trans I.ok.Bo I.ok.above)
theorem Inv.CB (I:Inv X pins σ H s):∀b∈kO X.stack,b∈X.env.locals::X.fs:=fun b hb=>by
 rcases I.ok.Ad with e|⟨e,hf⟩
 · rw [e] at hb;exact List.mem_cons_of_mem _ hb
 · rw [e] at hb
   unfold kO at hb
   rw [List.filterMap_cons,hf] at hb
   exact hb
theorem Inv.sM (I:Inv X pins σ H s):∀b∈kO X.stack,H b=none:=fun b hb=>by
 rcases List.mem_cons.mp (I.CB b hb) with e|hb
 · rw [e];exact I.free
 · obtain⟨_,o,ho,_⟩:=I.ok.lP.mem hb
   exact I.base.free b o ho (I.ok.Fu b hb) fun z=>I.ok.qR b z hb
theorem Inv.step {g':Array GenState}{t':Nat}{d':Drawn}{ch:List Addr} (I:Inv X pins σ H s)
 (IL:∀b∈ch,(b∈X.ex∨X.s₀.heap.objs.size≤b)∧b≠X.env.locals∧(∀x c,X.env.cells.lookup x=some c→c≠b)∧∀p∈X.pn++pins,p.1≠b)
 (keep:∀b o,b≠X.env.locals→b∉X.fs→b∉ch→s.heap.get? b=some o→H b=none→h'.get? b=some o)
 (slot:∀b o,b≠X.env.locals→b∈X.fs→b∉ch→s.heap.get? b=some o→H b=none→∃sl,h'.get? b=some {o with slots:=sl}) (free:∀b o,b∉ch→s.heap.get? b=some o→H b=none→H' b=none)
 (there:∀b o,b∉ch→s.heap.get? b=some o→∃o',h'.get? b=some o')
 (cZ:∀b xs,H b=some (.tup xs)→H' b=some (.tup xs)) (kI:∀b o u,H b=some (.frz o u)→H' b=some (.frz o u)) (nL:∀b ps,H b=some (.tbl ps)→∃more,H' b=some (.tbl (ps++more)))
 (ns:∀m,s.heap.Ns X.env.locals m→h'.Ns X.env.locals m) (aX:iW X.prog X.w H' h') (hg:AllBare g') :
 Inv X pins σ H' {s with heap:=h',gens:=g',drawn:=d',toks:=t'}:=by
 have neL:∀b o,X.s₀.heap.get? b=some o→b≠X.env.locals:=fun b o e=>Nat.ne_of_lt (Nat.lt_of_lt_of_le (Heap.lt_size e) I.ok.above)
 have TM:∀b o,X.s₀.heap.get? b=some o→b∉X.ex→b∉ch:=fun b o e hx hb=>by
  rcases (IL b hb).1 with z|z
  · exact hx z
  · exact absurd (Nat.lt_of_lt_of_le (Heap.lt_size e) z) (Nat.lt_irrefl _)
 have cellK:∀x c,X.env.cells.lookup x=some c→∀v,s.heap.IsCell c v→h'.IsCell c v:=fun x c e v ⟨o,ho,hd⟩=>by
  have P4:c∉ch:=fun z=>(IL c z).2.2.1 x c e rfl
  by_cases hc:c∈X.fs
  · obtain⟨sl,q⟩:=slot c o (I.Nr x c e) hc P4 ho (I.ix x c e)
    exact⟨_,q,hd⟩
  · exact⟨o,keep c o (I.Nr x c e) hc P4 ho (I.ix x c e),hd⟩
 refine⟨I.ok,I.os,hg,⟨fun b o e n hb hx=>?_,fun b o e n hb hx=>?_,fun b o e n hx=>?_,fun b o e hx=>?_,fun b xs e=>cZ b xs (I.base.cZ b xs e),fun b o xs e=>kI b o xs (I.base.kI b o xs e),fun b ps e=>?_⟩,?_,fun x c e=>?_,?_,fun x c e=>?_,fun p hp=>?_,aX,I.len⟩
 · exact keep b o (neL b o e) hb (TM b o e hx) (I.base.keep b o e n hb hx) (I.base.free b o e n hx)
 · obtain⟨sl,e1⟩:=I.base.slot b o e n hb hx
   obtain⟨U9,e2⟩:=slot b _ (neL b o e) hb (TM b o e hx) e1 (I.base.free b o e n hx)
   exact⟨U9,e2⟩
 · obtain⟨o',e1⟩:=I.base.there b o e hx
   exact free b o' (TM b o e hx) e1 (I.base.free b o e n hx)
 · obtain⟨o',e1⟩:=I.base.there b o e hx
   exact there b o' (TM b o e hx) e1
 · obtain⟨m1,e1⟩:=I.base.nL b ps e
   obtain⟨m2,e2⟩:=nL b _ e1
   exact⟨m1++m2,by rw [e2,Array.append_assoc]⟩
 · obtain⟨m,hn,hl⟩:=I.loc
   refine⟨m,ns m hn,fun i x v e1 e2 e3=>?_⟩
   obtain⟨u,r,l⟩:=hl i x v e1 e2 e3
   refine⟨u,r,?_⟩
   rcases l with l|⟨k,c,e,z⟩
   · exact .inl l
   · exact .inr ⟨k,c,e,cellK x c e _ z⟩
 · obtain⟨v,z⟩:=I.cell x c e
   exact⟨v,cellK x c e v z⟩
 · obtain⟨m,⟨o,_,_,ho,_⟩,_⟩:=I.loc
   exact free _ o (fun z=>(IL _ z).2.1 rfl) ho I.free
 · obtain⟨v,o,ho,hd⟩:=I.cell x c e
   exact free c o (fun z=>(IL c z).2.2.1 x c e rfl) ho (I.ix x c e)
 · obtain⟨e,n,ne,nf,d⟩:=I.pin p hp
   have P4:p.1∉ch:=fun z=>(IL p.1 z).2.2.2 p hp rfl
   exact⟨keep p.1 p.2 ne nf P4 e n,free p.1 p.2 P4 e n,ne,nf,d⟩
theorem Inv.un {t':Nat} (I:Inv X pins σ H s) (u:Un X.fs [] H H' s.heap h') (aX:iW X.prog X.w H' h'):Inv X pins σ H' {s with heap:=h',toks:=t'}:=by
 obtain⟨m,⟨o,es,ep,ho,r⟩,_⟩:=id I.loc
 obtain⟨sl,hL⟩:=u.any ho I.free (by simp)
 exact I.step (g':=s.gens) (d':=s.drawn) (ch:=[]) (fun _ z=>nomatch z) (fun b o _ hb _ e n=>u.keep b o e n hb (by simp)) (fun b o _ hb _ e n=>u.slot b o e n hb (by simp)) (fun b o _ e n=>u.free b o e n (by simp)) (fun b o _ e=>u.there b o e (by simp)) u.cZ u.kI u.nL (fun m' hm=>by
  obtain⟨o',L9,X7,Dk,r'⟩:=hm
  rw [ho] at Dk;cases Dk
  exact⟨_,L9,X7,hL,r'⟩) aX I.bare
theorem Inv.call {g':Array GenState}{t':Nat}{d':Drawn}{ch:List Addr} (I:Inv X pins σ H s) (u:Un (kO X.stack) ch H H' s.heap h') (aX:iW X.prog X.w H' h') (hg:AllBare g')
 (IL:∀b∈ch,(b∈X.ex∨X.s₀.heap.objs.size≤b)∧b≠X.env.locals∧(∀x c,X.env.cells.lookup x=some c→c≠b)∧∀p∈X.pn++pins,p.1≠b) :
 Inv X pins σ H' {s with heap:=h',gens:=g',drawn:=d',toks:=t'}:=by
 obtain⟨m,⟨o,es,ep,ho,r⟩,_⟩:=id I.loc
 obtain⟨sl,hL⟩:=u.any ho I.free fun z=>(IL _ z).2.1 rfl
 exact I.step (ch:=ch) IL (fun b o hL hb hc e n=>u.keep b o e n (fun z=>(List.mem_cons.mp (I.CB b z)).elim hL hb) hc) (fun b o _ _ hc e n=>u.any e n hc) (fun b o hc e n=>u.free b o e n hc) (fun b o hc e=>u.there b o e hc) u.cZ u.kI u.nL (fun m' hm=>by
  obtain⟨o',L9,X7,Dk,r'⟩:=hm
  rw [ho] at Dk;cases Dk
  exact⟨_,L9,X7,hL,r'⟩) aX hg
theorem Inv.turned {t':Nat}{it:Addr} (I:Inv X pins σ H s) (k:∀b o,b≠it→s.heap.get? b=some o→h'.get? b=some o) (hn:H it=none) (hL:it≠X.env.locals)
 (h1:it∈X.ex∨X.s₀.heap.objs.size≤it) (h2:∀x c,X.env.cells.lookup x=some c→c≠it) (h3:∀p∈X.pn++pins,p.1≠it):Inv X pins σ H {s with heap:=h',toks:=t'}:=by
 have Ri:∀b u,H b=some u→b≠it:=fun b u e z=>by rw [z,hn] at e;cases e
 refine I.step (g':=s.gens) (d':=s.drawn) (ch:=[it]) (fun b hb=>?_) (fun b o _ _ hc e _=>k b o (fun z=>hc (by simp [z])) e) (fun b o _ _ hc e _=>⟨o.slots,k b o (fun z=>hc (by simp [z])) e⟩) (fun _ _ _ _ n=>n)
  (fun b o hc e=>⟨o,k b o (fun z=>hc (by simp [z])) e⟩) (fun _ _ e=>e) (fun _ _ _ e=>e) (fun b ps e=>⟨#[],by rw [e];simp⟩) (fun m hm=>?_) (fun b u e=>?_) I.bare
 · have e:b=it:=by simpa using hb
   subst e
   exact⟨h1,hL,h2,h3⟩
 · obtain⟨o,es,ep,ho,r⟩:=hm
   exact⟨o,es,ep,k _ o (Ne.symm hL) ho,r⟩
 · refine (I.aX b u e).lB (fun c v hc q=>k c v ?_ q) (fun _ q=>q) fun _ _ q=>q
   rcases hc with z|z
   · rw [z];exact Ri b u e
   · exact Ri c _ z
theorem Inv.tok (I:Inv X pins σ H s) (t:Nat):Inv X pins σ H {s with toks:=t}:=I.un (h':=s.heap) (t':=t) Un.refl I.aX
theorem Inv.kept {t':Nat} (I:Inv X pins σ H s) (k:∀b u,s.heap.get? b=some u→h'.get? b=some u):Inv X pins σ H {s with heap:=h',toks:=t'}:=I.un (Un.kept k) (I.aX.kept k)
theorem Inv.laid {a:Addr}{o:HO}{t':Nat} (I:Inv X pins σ H s) (k:∀b u,s.heap.get? b=some u→h'.get? b=some u) (hp:s.heap.objs.size≤a) (new:cv X.prog X.w (upd H a o) h' a o) :
 Inv X pins σ (upd H a o) {s with heap:=h',toks:=t'}:=I.un (Un.laid k hp (I.aX.fresh hp)) (I.aX.laid k hp new)
theorem Inv.write {x e:Addr}{o:HO}{t':Nat} (I:Inv X pins σ H s) (mu:Q1 (H x)) (he:e=x∨H e=some (.own x)) (k:∀b u,b≠e→s.heap.get? b=some u→h'.get? b=some u) (OS:∃u,h'.get? e=some u)
 (new:cv X.prog X.w (upd H x o) h' x o):Inv X pins σ (upd H x o) {s with heap:=h',toks:=t'}:=I.un (Un.write mu he k OS) (I.aX.write mu he k OS new)
theorem Inv.weak {σ':List (Option V)} (I:Inv X pins σ H s) (hl:σ'.length=σ.length) (w:∀(i:Nat) v,σ'[i]? = some (some v)→σ[i]? = some (some v)):Inv X pins σ' H s:=
 ⟨I.ok,I.os,I.bare,I.base,let ⟨m,hn,vq⟩:=I.loc;⟨m,hn,fun i x v e1 e2 e3=>vq i x v e1 (w i v e2) e3⟩,I.cell,I.free,I.ix,I.pin,I.aX,hl.trans I.len⟩
theorem Inv.iY {Ln:List (Addr×Obj)} (I:Inv X pins σ H s) (h:∀p∈Ln,s.heap.get? p.1=some p.2∧H p.1=none∧p.1≠X.env.locals∧p.1∉X.fs∧∀v,p.2.data ≠ .cell v):Inv X Ln σ H s:=
 ⟨I.ok,I.os,I.bare,I.base,I.loc,I.cell,I.free,I.ix,fun p hp=>(List.mem_append.mp hp).elim (fun z=>I.pin p (List.mem_append_left _ z)) (h p),I.aX,I.len⟩
theorem zz {N:List Str} (hN:N.Nodup) {i j:Nat}{x:Str} (a:N[i]? = some x) (b:N[j]? = some x):i=j:=by
 obtain⟨h1,e1⟩:=List.getElem?_eq_some_iff.mp a
 obtain⟨h2,e2⟩:=List.getElem?_eq_some_iff.mp b
 exact(List.getElem_inj hN).mp (e1.trans e2.symm)
theorem qw {M:Model}{A:Around}{E:Value→Shared→Prop}{i:Nat}{x:Str}{v:V}{u:Value}{Q:Unit→Shared→Prop} (I:Inv X pins σ H s) (hN:X.N.Nodup) (hi:X.N[i]? = some x) (hx:Loc X.env.scope x) (r:RelV v u)
 (h:∀s',Inv X pins (σ.set i (some v)) H s'→(∃a,Heap.SameBut a s.heap s'.heap∧(a=X.env.locals∨X.env.cells.lookup x=some a))→Q () s') (hf:X.fn x=true∨X.env.scope.names.lookup x=some .local:=by first|exact .inl rfl|exact .inr rfl|assumption):wpAny M A (storeName X.env x u) Q E s:=by
 obtain⟨m,hn,hl⟩:=id I.loc
 have Z3:(X.env.scope.kind == .class||(X.env.scope.kind == .module&&X.env.locals != X.env.globals))=false:=by rw [I.ok.kind];rfl
 have hiσ:i<σ.length:=by rw [I.len];exact(List.getElem?_eq_some_iff.mp hi).1
 have Nr:=I.Nr
 have tracked:∀{a:Addr}{h':Heap},(∃o,s.heap.get? a=some o∧H a=none)→Heap.SameBut a s.heap h'→iW X.prog X.w H h':=fun {a h'} ha hs b ob e=>by
  obtain⟨_,_,jT⟩:=ha
  refine (I.aX b ob e).lB (fun c w' hc q=>(hs.2 c ?_).trans q) (fun _ q=>q) fun _ _ q=>q
  rintro rfl
  rcases hc with rfl|hc
  · rw [jT] at e;cases e
  · rw [jT] at hc;cases hc
 rcases hx with hk|hk
 · refine wpAny_storeName_local hk hn (fun h' Yx hs=>?_) Z3
   obtain⟨oL,_,_,hoL,_⟩:=id hn
   refine h _ ⟨I.ok,I.os,I.bare,⟨fun b o e n hb hx=>?_,fun b o e n hb hx=>?_,I.base.free,fun b o e hx=>?_,I.base.cZ,I.base.kI,I.base.nL⟩,⟨_,Yx,fun j y v' e1 e2 e3=>?_⟩,fun y c e=>?_,I.free,I.ix,fun p hp=>?_,tracked ⟨oL,hoL,I.free⟩ hs,by simpa using I.len⟩ ⟨_,hs,.inl rfl⟩
   · exact(hs.2 b (Nat.ne_of_lt (Nat.lt_of_lt_of_le (Heap.lt_size e) I.ok.above))).trans (I.base.keep b o e n hb hx)
   · obtain⟨sl,e1⟩:=I.base.slot b o e n hb hx
     exact⟨sl,(hs.2 b (Nat.ne_of_lt (Nat.lt_of_lt_of_le (Heap.lt_size e) I.ok.above))).trans e1⟩
   · obtain⟨o',e1⟩:=I.base.there b o e hx
     exact⟨o',(hs.2 b (Nat.ne_of_lt (Nat.lt_of_lt_of_le (Heap.lt_size e) I.ok.above))).trans e1⟩
   · by_cases hj:j=i
     · subst hj
       rw [hi] at e1;cases e1
       rw [List.getElem?_set_self hiσ] at e2
       cases e2
       exact⟨u,r,.inl ⟨hk,by simp⟩⟩
     · rw [List.getElem?_set_ne (Ne.symm hj)] at e2
       obtain⟨u',r',q⟩:=hl j y v' e1 e2 e3
       refine⟨u',r',?_⟩
       rcases q with ⟨k,e⟩|⟨k,c,e,z⟩
       · refine .inl ⟨k,?_⟩
         have:y≠x:=fun e=>hj (zz hN e1 (e▸hi))
         simp [this,e]
       · exact .inr ⟨k,c,e,z.sameBut hs (Nr y c e)⟩
   · obtain⟨w',z⟩:=I.cell y c e
     exact⟨w',z.sameBut hs (Nr y c e)⟩
   · obtain⟨e,n,ne,nf,d⟩:=I.pin p hp
     exact⟨(hs.2 p.1 ne).trans e,n,ne,nf,d⟩
 · have ZJ:X.fn x=true:=by
    rcases hf with z|z
    · exact z
    · rw [z] at hk;cases hk
   obtain⟨c,hc⟩:=I.ok.has x (.inl hk)
   obtain⟨w',z⟩:=I.cell x c hc
   refine wpAny_storeName_cell I.ok.kind hk hc z (fun h' jv hs=>?_)
   obtain⟨oc,hoc,ab8⟩:=id z
   refine h {s with heap:=h'} ⟨I.ok,I.os,I.bare,⟨fun b o e n hb hx=>?_,fun b o e n hb hx=>?_,I.base.free,fun b o e hx=>?_,I.base.cZ,I.base.kI,I.base.nL⟩,⟨m,hn.sameBut hs (Ne.symm (Nr x c hc)),fun j y v' e1 e2 e3=>?_⟩,fun y c' e=>?_,I.free,I.ix,fun p hp=>?_,tracked ⟨oc,hoc,I.ix x c hc⟩ hs,by simpa using I.len⟩ ⟨c,hs,.inr hc⟩
   · exact(hs.2 b (Nat.ne_of_lt (Nat.lt_of_lt_of_le (Heap.lt_size e) (I.ok.IT x c ZJ hc)))).trans (I.base.keep b o e n hb hx)
   · obtain⟨sl,e1⟩:=I.base.slot b o e n hb hx
     exact⟨sl,(hs.2 b (Nat.ne_of_lt (Nat.lt_of_lt_of_le (Heap.lt_size e) (I.ok.IT x c ZJ hc)))).trans e1⟩
   · obtain⟨o',e1⟩:=I.base.there b o e hx
     exact⟨o',(hs.2 b (Nat.ne_of_lt (Nat.lt_of_lt_of_le (Heap.lt_size e) (I.ok.IT x c ZJ hc)))).trans e1⟩
   · by_cases hj:j=i
     · subst hj
       rw [hi] at e1;cases e1
       rw [List.getElem?_set_self hiσ] at e2
       cases e2
       exact⟨u,r,.inr ⟨.inl hk,c,hc,jv⟩⟩
     · rw [List.getElem?_set_ne (Ne.symm hj)] at e2
       obtain⟨u',r',q⟩:=hl j y v' e1 e2 e3
       refine⟨u',r',?_⟩
       rcases q with q|⟨k,c',e,z'⟩
       · exact .inl q
       · refine .inr ⟨k,c',e,z'.sameBut hs ?_⟩
         rintro rfl
         exact hj (zz hN e1 (I.ok.inj _ _ _ e hc▸hi))
   · by_cases hcc:c'=c
     · subst hcc;exact⟨_,jv⟩
     · obtain⟨w2,z2⟩:=I.cell y c' e
       exact⟨w2,z2.sameBut hs hcc⟩
   · obtain⟨e,n,ne,nf,d⟩:=I.pin p hp
     refine⟨(hs.2 p.1 ?_).trans e,n,ne,nf,d⟩
     intro q
     rw [q,hoc] at e
     have q':oc=p.2:=Option.some.inj e
     exact d w' (by rw [←q'];exact ab8)
theorem lX {M:Model}{A:Around}{E:Value→Shared→Prop}{i:Nat}{x:Str}{v:V}{u:Value}{Q:Unit→Shared→Prop} (I:Inv X pins σ H s) (hN:X.N.Nodup) (hi:X.N[i]? = some x) (hx:Loc X.env.scope x) (r:RelV v u)
 (h:∀s',Inv X pins (σ.set i (some v)) H s'→Q () s') (hf:X.fn x=true∨X.env.scope.names.lookup x=some .local:=by first|exact .inl rfl|exact .inr rfl|assumption):wpAny M A (storeName X.env x u) Q E s:=
 qw I hN hi hx r (fun s' I' _=>h s' I') hf
theorem Inv.LJ {s':Shared}{ch:List Addr} (I:Inv X pins σ H s) (ho:s'.os=s.os) (u:Un (kO X.stack) ch H H' s.heap s'.heap) (aX:iW X.prog X.w H' s'.heap) (hg:AllBare s'.gens)
 (IL:∀b∈ch,(b∈X.ex∨X.s₀.heap.objs.size≤b)∧b≠X.env.locals∧(∀x c,X.env.cells.lookup x=some c→c≠b)∧∀p∈X.pn++pins,p.1≠b):Inv X pins σ H' s':=by
 obtain⟨h',g',d',t',o'⟩:=s'
 have e:o'=s.os:=ho
 subst e
 exact I.call (g':=g') (t':=t') (d':=d') u aX hg IL
end
noncomputable abbrev XK:=Value→Option Addr→Hp→Prop
noncomputable abbrev St:=List (Option V)
noncomputable abbrev VK:=V→Hp→Prop
noncomputable abbrev TE:=St→Hp→VK→Prop
noncomputable abbrev TT:=St→Hp→(Bool→Hp→Prop)→Prop
noncomputable abbrev TA:=St→Hp→(List V→Hp→Prop)→Prop
structure Ends where
 nx:St→Hp→Prop
 rt:VK
 bk:St→Hp→Prop:=fun _ _=>False
 ct:St→Hp→Prop:=fun _ _=>False
noncomputable abbrev TS:=Ends→St→Hp→Prop
noncomputable def EP (X:Cx) (pins:List (Addr×Obj)) (σ:St) (Q:VK) (u:Value) (s':Shared):Prop:=∃v H',Inv X pins σ H' s'∧RelV v u∧Q v H'
noncomputable def TP (X:Cx) (pins:List (Addr×Obj)) (σ:St) (Q:Bool→Hp→Prop) (b:Bool) (s':Shared):Prop:=∃H',Inv X pins σ H' s'∧Q b H'
noncomputable def AP (X:Cx) (pins:List (Addr×Obj)) (σ:St) (Q:List V→Hp→Prop) (us:List Value) (s':Shared):Prop:=∃vs H',Inv X pins σ H' s'∧Vals vs us∧Q vs H'
noncomputable def SP (X:Cx) (pins:List (Addr×Obj)) (D:Ends) (f:Flow) (s':Shared):Prop:=
 match f with
 | .next=>∃σ' H',Inv X pins σ' H' s'∧D.nx σ' H'
 | .brk=>∃σ' H',Inv X pins σ' H' s'∧D.bk σ' H'
 | .cont=>∃σ' H',Inv X pins σ' H' s'∧D.ct σ' H'
 | .ret u=>∃v σ' H',Inv X pins σ' H' s'∧RelV v u∧D.rt v H'
noncomputable def PE (X:Cx) (e:Expr) (t:TE):Prop:=
 ∀(pins:List (Addr×Obj)) (s:Shared) (σ:St) (H:Hp) (Q:VK),Inv X pins σ H s→t σ H Q→wpAny (model X.prog X.w) X.A (eval e X.env) (EP X pins σ Q) X.xe s
noncomputable def PT (X:Cx) (e:Expr) (t:TT):Prop:=
 ∀(pins:List (Addr×Obj)) (s:Shared) (σ:St) (H:Hp) (Q:Bool→Hp→Prop),Inv X pins σ H s→t σ H Q→wpAny (model X.prog X.w) X.A (isTrue e X.env (eval e X.env)) (TP X pins σ Q) X.xe s
noncomputable def PW (X:Cx) (e:Expr) (t:TT):Prop:=
 ∀(whole:Sem Value) (pins:List (Addr×Obj)) (s:Shared) (σ:St) (H:Hp) (Q:Bool→Hp→Prop),Inv X pins σ H s→t σ H Q→wpAny (model X.prog X.w) X.A (isTrue e X.env whole) (TP X pins σ Q) X.xe s
theorem PW.pt {X:Cx}{e:Expr}{t:TT} (h:PW X e t):PT X e t:=h _
noncomputable def PA (X:Cx) (es:List Expr) (t:TA):Prop:=
 ∀(pos:Pos) (pins:List (Addr×Obj)) (s:Shared) (σ:St) (H:Hp) (Q:List V→Hp→Prop),Inv X pins σ H s→t σ H Q→wpAny (model X.prog X.w) X.A (spliced (backTo pos (starEach es X.env))) (AP X pins σ Q) X.xe s
noncomputable def PS (X:Cx) (st:Stmt) (t:TS):Prop:=
 ∀(pins:List (Addr×Obj)) (s:Shared) (σ:St) (H:Hp) (D:Ends),Inv X pins σ H s→t D σ H→wpAny (model X.prog X.w) X.A (exec st X.env) (SP X pins D) X.xe s
noncomputable def lg (X:Cx) (st:List Stmt) (t:TS):Prop:=
 ∀(pins:List (Addr×Obj)) (s:Shared) (σ:St) (H:Hp) (D:Ends),Inv X pins σ H s→t D σ H→wpAny (model X.prog X.w) X.A (execs st X.env) (SP X pins D) X.xe s
theorem ck {α:Type}{t:Sem α}{Q Q':α→Shared→Prop}{M:Model}{A:Around}{E:Value→Shared→Prop}{s:Shared} (h:wpAny M A t Q E s) (hQ:∀a s,Q a s→Q' a s):wpAny M A t Q' E s:=wpAny_mono h hQ fun _ _ x=>x
end L2
namespace L2
open PySem PySem.Spec PyProof.Rows
section
variable {X : Cx}
noncomputable def G8 (i:Nat):TE:=fun σ H Q=>∃v,σ[i]? = some (some v)∧Q v H
noncomputable def tC (v:V):TE:=fun _ H Q=>Q v H
theorem MB {i:Nat}{x:Str}{pos:Pos} (hN:X.N[i]? = some x) (hv:SI X.env.scope x) (hd:(x==("__debug__":Str))=false:=by decide) (EI:(x==("__classdict__":Str))=false:=by decide):PE X (.Name x pos) (G8 i):=by
 intro pins s σ H Q I h
 obtain⟨v,e,h⟩:=h
 obtain⟨m,hn,hl⟩:=I.loc
 obtain⟨u,r,l⟩:=hl i x v hN e hv
 have fin:EP X pins σ Q u s:=⟨v,H,I,r,h⟩
 rcases l with ⟨hk,hm⟩|⟨hk,c,hc,hcell⟩
 · exact wpAny_Name (wpAny_loadName_local I.ok.kind hk hn hm fin) hd
 · rcases hk with hk|hk
   · exact wpAny_Name (wpAny_loadName_cell I.ok.kind hk hc hcell fin) hd
   · exact wpAny_Name (wpAny_loadName_free I.ok.kind hk hc hcell fin EI) hd
theorem ae {i j pos}:PE X (.Constant (.int i) j pos) (tC (.int i)):=fun _ _ _ H _ I h=>wpAny_Constant_int ⟨.int i,H,I.tok _,⟨_,rfl⟩,h⟩
theorem rH {b j pos}:PE X (.Constant (.bool b) j pos) (tC (.bl b)):=fun _ _ _ H _ I h=>Constant_bool ⟨.bl b,H,I,rfl,h⟩
theorem jb {j pos}:PE X (.Constant .none j pos) (tC .non):=fun _ _ _ H _ I h=>Constant_none ⟨.non,H,I,rfl,h⟩
theorem aD {x j pos}:PE X (.Constant (.str x) j pos) (tC (.str x)):=fun _ _ _ H _ I h=>Calls.Constant_str ⟨.str x,H,I.tok _,⟨_,rfl⟩,h⟩
noncomputable def Gl (X:Cx) (x:Str):Prop:=X.env.kindOf x=some .globalImplicit
theorem pE {E:Value→Shared→Prop}{pins:List (Addr×Obj)}{s:Shared}{σ:St}{H:Hp}{x:Str}{u:Value}{pos:Pos}{Q:Value→Shared→Prop} (I:Inv X pins σ H s) (hg:Gl X x) (hm:X.mg x=some u) (h:Q u s)
 (hd:(x==("__debug__":Str))=false:=by decide):wpAny (model X.prog X.w) X.A (eval (.Name x pos) X.env) Q E s:=
 Calls.Name_function_global I.ok.kind hg (Calls.loadGlobal_global (by rw [I.ok.glob];exact I.mod.glob.keeps I.bk) hm h) hd
theorem tH {E:Value→Shared→Prop}{pins:List (Addr×Obj)}{s:Shared}{σ:St}{H:Hp}{x:Str}{u:Value}{pos:Pos}{Q:Value→Shared→Prop} (I:Inv X pins σ H s) (hg:Gl X x) (hm:X.mg x=none) (hv:bootBuiltins x=some u) (h:Q u s)
 (hn:x≠"__name__":=by decide) (hd:(x==("__debug__":Str))=false:=by decide):wpAny (model X.prog X.w) X.A (eval (.Name x pos) X.env) Q E s:=by
 obtain⟨mb,h1,h2⟩:=I.mod.blt
 exact Calls.Name_function_global I.ok.kind hg (Calls.loadGlobal_builtin (by rw [I.ok.glob];exact I.mod.glob.keeps I.bk) hm (by rw [I.ok.blt];exact h1.keeps I.bk) ((h2 x hn).trans hv) h) hd
theorem jX {x:Str}{v:V}{u:Value}{pos:Pos} (hg:Gl X x) (hm:X.mg x=some u) (r:RelV v u) (hd:(x==("__debug__":Str))=false:=by decide):PE X (.Name x pos) (tC v):=
 fun _ _ _ H _ I h=>pE I hg hm ⟨v,H,I,r,h⟩ hd
theorem yn {x:Str}{v:V}{u:Value}{pos:Pos} (hg:Gl X x) (hm:X.mg x=none) (hv:bootBuiltins x=some u) (r:RelV v u) (hn:x≠"__name__":=by decide) (hd:(x==("__debug__":Str))=false:=by decide):PE X (.Name x pos) (tC v):=
 fun _ _ _ H _ I h=>tH I hg hm hv ⟨v,H,I,r,h⟩ hn hd
variable {a b : Expr} {ta tb : TE} {pos : Pos}
noncomputable def PC (X:Cx) (op:CmpOp) (a b:Expr) (t:TE):Prop:=
 ∀(pins:List (Addr×Obj)) (s:Shared) (σ:St) (H:Hp) (Q:VK),Inv X pins σ H s→t σ H Q→
  wpAny (model X.prog X.w) X.A (eval a X.env) (fun v s₁=>wpAny (model X.prog X.w) X.A (eval b X.env) (fun u s₂=>wpAny (model X.prog X.w) X.A (compareOp op v u) (EP X pins σ Q) X.xe s₂) X.xe s₁) X.xe s
theorem Ip (b:Expr) {op:CmpOp} (h:op ≠ .In) (h2:op ≠ .NotIn):behindInMarks op b=false:=by
 have e1:(op==CmpOp.In)=false:=by cases op<;>first|rfl|exact absurd rfl h
 have e2:(op==CmpOp.NotIn)=false:=by cases op<;>first|rfl|exact absurd rfl h2
 cases b<;>simp [behindInMarks,e1,e2]
noncomputable def Rc (ta:TE):TE:=fun σ H Q=>ta σ H fun x H1=>Q (.bl (decide (x = .non))) H1
theorem RelV.IC {x:V}{v:Value} (r:RelV x v):(v==Value.none)=decide (x = .non):=by
 cases x with
 | non=>cases r;rfl
 | bl _=>cases r;rfl
 | int _=>obtain⟨t,rfl⟩:=r;rfl
 | str _=>obtain⟨t,rfl⟩:=r;rfl
 | byt _=>obtain⟨t,rfl⟩:=r;rfl
 | flt _=>obtain⟨t,rfl⟩:=r;rfl
 | ref _=>cases r;rfl
 | ty _=>cases r;rfl
theorem GD {j pos'} (ha:PE X a ta):PC X .Is a (.Constant .none j pos') (Rc ta):=by
 intro pins s σ H Q I h
 refine ck (ha pins s σ H _ I h) fun v s1 ⟨x,H1,I1,r1,q1⟩=>?_
 exact Constant_none (is_none_gen ⟨.bl _,H1,I1,by rw [r1.IC];rfl,q1⟩)
noncomputable def tB (t:TE):TT:=fun σ H Q=>t σ H fun x H1=>∃c,x = .bl c∧Q c H1
theorem yQ {op:CmpOp}{t:TE} (h:PC X op a b t) (h1:behindInMarks op b=false:=by first|exact Ip _ (by decide) (by decide)|rfl):PT X (.Compare a [op] [b] pos) (tB t):=by
 intro pins s σ H Q I hw
 refine wpAny_isTrue_Compare1 (ck (h pins s σ H _ I hw) fun v s1 h1=>ck h1 fun u s2 h2=>ck h2 fun c s3 ⟨x,H1,I1,r1,q1⟩=>?_) h1
 obtain⟨d,rfl,q⟩:=q1
 cases r1
 exact wpAny_truthy_bool ⟨H1,I1,q⟩
theorem cL {e:Expr}{t:TE} (h:PE X e t) (he:∀whole,isTrue e X.env whole=(do let v ←whole;standAt e.pos;holding [v] (truthy v)):=by intro _;rfl):PT X e (tB t):=by
 intro pins s σ H Q I hw
 refine isTrue_plain (ck (h pins s σ H _ I hw) fun v s1 ⟨x,H1,I1,r1,q1⟩=>?_) (he _)
 obtain⟨d,rfl,q⟩:=q1
 cases r1
 exact wpAny_truthy_bool ⟨H1,I1,q⟩
variable {tA TK : TT} {rest : List Expr}
noncomputable def RQ (t u:TT):TT:=fun σ H Q=>t σ H fun c H1=>if c=true then u σ H1 Q else Q false H1
noncomputable def tOr (t u:TT):TT:=fun σ H Q=>t σ H fun c H1=>if c=true then Q true H1 else u σ H1 Q
noncomputable def PF (t:TT):TT:=fun σ H Q=>t σ H fun c H1=>Q (!c) H1
theorem fI (ha:PT X a tA):PW X (.BoolOp .And [a] pos) tA:=by
 intro wh pins s σ H Q I h
 refine isTrue_and (ck (ha pins s σ H Q I h) fun c s1 e=>?_)
 cases c with
 | true=>exact isTrue_and_nil e
 | false=>exact e
theorem tG (ha:PT X a tA):PW X (.BoolOp .Or [a] pos) tA:=by
 intro wh pins s σ H Q I h
 refine isTrue_or (ck (ha pins s σ H Q I h) fun c s1 e=>?_)
 cases c with
 | false=>exact isTrue_or_nil e
 | true=>exact e
theorem gM (ha:PT X a tA) (hb:PW X (.BoolOp .And (b::rest) pos) TK):PW X (.BoolOp .And (a::b::rest) pos) (RQ tA TK):=by
 intro wh pins s σ H Q I h
 refine isTrue_and (ck (ha pins s σ H _ I h) fun c s1 ⟨H1,I1,q1⟩=>?_)
 cases c with
 | true=>exact hb wh pins s1 σ H1 Q I1 q1
 | false=>exact⟨H1,I1,q1⟩
theorem zu (ha:PT X a tA) (hb:PW X (.BoolOp .Or (b::rest) pos) TK):PW X (.BoolOp .Or (a::b::rest) pos) (tOr tA TK):=by
 intro wh pins s σ H Q I h
 refine isTrue_or (ck (ha pins s σ H _ I h) fun c s1 ⟨H1,I1,q1⟩=>?_)
 cases c with
 | true=>exact⟨H1,I1,q1⟩
 | false=>exact hb wh pins s1 σ H1 Q I1 q1
theorem mB (ha:PT X a tA):PT X (.UnaryOp .Not a pos) (PF tA):=by
 intro pins s σ H Q I h
 exact isTrue_not (ha pins s σ H (fun c H1=>Q (!c) H1) I h)
noncomputable def LN (ta tb:TE):TE:=fun σ H Q=>ta σ H fun x H1=>∃c,x = .bl c∧if c=true then tb σ H1 Q else Q (.bl false) H1
noncomputable def P5 (ta tb:TE):TE:=fun σ H Q=>ta σ H fun x H1=>∃c,x = .bl c∧if c=true then Q (.bl true) H1 else tb σ H1 Q
noncomputable def LF (ta:TE):TE:=fun σ H Q=>ta σ H fun x H1=>∃c,x = .bl c∧Q (.bl (!c)) H1
theorem jW {op}{t:TE} (h:PE X a t):PE X (.BoolOp op [a] pos) t:=fun pins s σ H Q I hw=>BoolOp_one (h pins s σ H Q I hw)
theorem mF (ha:PE X a ta) (hb:PE X (.BoolOp .And (b::rest) pos) tb):PE X (.BoolOp .And (a::b::rest) pos) (LN ta tb):=by
 intro pins s σ H Q I h
 refine BoolOp_and (ck (ha pins s σ H _ I h) fun v s1 ⟨x,H1,I1,r1,q1⟩=>?_)
 obtain⟨c,rfl,q1⟩:=q1
 cases r1
 refine wpAny_truthy_bool ?_
 cases c with
 | true=>exact hb pins s1 σ H1 Q I1 q1
 | false=>exact⟨.bl false,H1,I1,rfl,q1⟩
theorem Gy (ha:PE X a ta) (hb:PE X (.BoolOp .Or (b::rest) pos) tb):PE X (.BoolOp .Or (a::b::rest) pos) (P5 ta tb):=by
 intro pins s σ H Q I h
 refine BoolOp_or (ck (ha pins s σ H _ I h) fun v s1 ⟨x,H1,I1,r1,q1⟩=>?_)
 obtain⟨c,rfl,q1⟩:=q1
 cases r1
 refine wpAny_truthy_bool ?_
 cases c with
 | false=>exact hb pins s1 σ H1 Q I1 q1
 | true=>exact⟨.bl true,H1,I1,rfl,q1⟩
theorem ME (ha:PE X a ta):PE X (.UnaryOp .Not a pos) (LF ta):=by
 intro pins s σ H Q I h
 refine UnaryOp_ (ck (ha pins s σ H _ I h) fun v s1 ⟨x,H1,I1,r1,q1⟩=>?_)
 obtain⟨c,rfl,q1⟩:=q1
 cases r1
 exact not_of (wpAny_truthy_bool ⟨.bl (!c),H1,I1,rfl,q1⟩)
noncomputable def tIf (t:TT) (ta tb:TE):TE:=fun σ H Q=>t σ H fun c H1=>if c=true then ta σ H1 Q else tb σ H1 Q
theorem Ig {c:Expr} (hc:PT X c tA) (ha:PE X a ta) (hb:PE X b tb):PE X (.IfExp c a b pos) (tIf tA ta tb):=by
 intro pins s σ H Q I h
 refine wpAny_IfExp (ck (hc pins s σ H _ I h) fun d s1 ⟨H1,I1,q1⟩=>?_)
 cases d with
 | true=>exact ha pins s1 σ H1 Q I1 q1
 | false=>exact hb pins s1 σ H1 Q I1 q1
end
end L2
namespace L2
open PySem PySem.Spec PyProof.Rows
noncomputable def fQ (K:PySem.W.Frag) (H:Hp) (a:Addr) (xs:List V):Prop:=
 Rd H a (.lst xs) ∨
  ∃(o:Obj) (aG:Array Value) (n:Nat),K.lookup a=some o∧o.cls = .type "list"∧o.dict=none∧o.data = .seq aG n∧aG.size≤sizeLine∧Vals xs aG.toList
noncomputable def jE (K:PySem.W.Frag) (H:Hp) (a:Addr) (xs:List V):Prop:=
 Rd H a (.tup xs) ∨
  ∃(o:Obj) (aG:Array Value) (n:Nat),K.lookup a=some o∧o.cls = .type "tuple"∧o.data = .seq aG n∧aG.size≤sizeLine∧Vals xs aG.toList
noncomputable def acA:Value→Option V
 | .none=>some .non
 | .bool b=>some (.bl b)
 | .int i _=>some (.int i)
 | .str x _=>some (.str x)
 | .bytes b _=>some (.byt b)
 | .float b _=>some (.flt b)
 | .ref a=>some (.ref a)
 | .type n=>some (.ty n)
 | _=>none
theorem RelV.abs {x:V}{u:Value} (r:RelV x u):acA u=some x:=by
 cases x with
 | non=>cases r;rfl
 | bl _=>cases r;rfl
 | int _=>obtain⟨t,rfl⟩:=r;rfl
 | str _=>obtain⟨t,rfl⟩:=r;rfl
 | byt _=>obtain⟨t,rfl⟩:=r;rfl
 | flt _=>obtain⟨t,rfl⟩:=r;rfl
 | ref _=>cases r;rfl
 | ty _=>cases r;rfl
theorem RelV.inj {x y:V}{u:Value} (r:RelV x u) (q:RelV y u):x=y:=Option.some.inj (r.abs.symm.trans q.abs)
theorem Vals.inj:∀{xs ys:List V}{us:List Value},Vals xs us→Vals ys us→xs=ys
 | _,_,_,.nil,.nil=>rfl
 | _,_,_,.cons r t,.cons r' t'=>by rw [r.inj r',Vals.inj t t']
section
variable {X : Cx} {pins : List (Addr × Obj)} {σ : St} {H : Hp} {s : Shared} {a : Addr} {xs ys : List V}
theorem fQ.of {K:PySem.W.Frag} (h:H a=some (.lst xs)):fQ K H a xs:=.inl (.inl h)
theorem jE.of {K:PySem.W.Frag} (h:H a=some (.tup xs)):jE K H a xs:=.inl (.inl h)
theorem Inv.list (I:Inv X pins σ H s) (h:fQ X.K H a xs):∃aG:List Value,Vals xs aG∧PlainL s.heap a aG.toArray∧xs.length≤sizeLine:=by
 rcases h with h|⟨o,aG,n,hk,hc,hd,hs,hz,r⟩
 · obtain⟨z,aG,n,r,e⟩:=h.ok I.aX
   exact⟨aG,r,⟨_,n,e,rfl,rfl,rfl⟩,z⟩
 · refine⟨aG.toList,r,⟨o,n,I.xk a o hk,hc,hd,by simpa using hs⟩,?_⟩
   have e:=r.length
   simp only [Array.length_toList] at e
   omega
theorem Inv.tuple (I:Inv X pins σ H s) (h:jE X.K H a xs):∃aG:List Value,Vals xs aG∧IsTup s.heap a aG.toArray∧xs.length≤sizeLine:=by
 rcases h with h|⟨o,aG,n,hk,hc,hs,hz,r⟩
 · obtain⟨z,aG,r,p⟩:=h.ok I.aX
   exact⟨aG,r,p,z⟩
 · refine⟨aG.toList,r,⟨o,I.xk a o hk,hc,n,by simpa using hs⟩,?_⟩
   have e:=r.length
   simp only [Array.length_toList] at e
   omega
theorem Inv.zN (I:Inv X pins σ H s) (h:fQ X.K H a xs) (h':fQ X.K H a ys):xs=ys:=by
 obtain⟨aG,r,⟨o,n,e,_,_,d⟩,_⟩:=I.list h
 obtain⟨its',r',⟨o',n',e',_,_,d'⟩,_⟩:=I.list h'
 rw [e] at e';cases e'
 rw [d] at d'
 injection d' with d1 _
 have:aG=its':=by simpa using congrArg Array.toList d1
 subst this
 exact r.inj r'
theorem Inv.vY (I:Inv X pins σ H s) (h:jE X.K H a xs) (h':jE X.K H a ys):xs=ys:=by
 obtain⟨aG,r,⟨o,e,_,n,d⟩,_⟩:=I.tuple h
 obtain⟨its',r',⟨o',e',_,n',d'⟩,_⟩:=I.tuple h'
 rw [e] at e';cases e'
 rw [d] at d'
 injection d' with d1 _
 have:aG=its':=by simpa using congrArg Array.toList d1
 subst this
 exact r.inj r'
end
noncomputable abbrev Cx.qc (X:Cx) (E:Value→Shared→Prop):Cx:={X with xe:=E}
noncomputable abbrev Cx.JB (X:Cx):Cx:=X.qc fun _ _=>False
theorem Cx.Ok.qc {X:Cx} (ok:X.Ok) (E:Value→Shared→Prop):(X.qc E).Ok:=
 ⟨ok.mod,ok.kind,ok.glob,ok.blt,ok.above,ok.inj,ok.has,ok.IT,ok.hd,ok.frames,ok.Ad,ok.Ac,ok.bs,ok.Bo,ok.uC,ok.qR,ok.lP,ok.Fu⟩
theorem Cx.Ok.iy {X:Cx}{E:Value→Shared→Prop} (ok:(X.qc E).Ok):X.Ok:=
 ⟨ok.mod,ok.kind,ok.glob,ok.blt,ok.above,ok.inj,ok.has,ok.IT,ok.hd,ok.frames,ok.Ad,ok.Ac,ok.bs,ok.Bo,ok.uC,ok.qR,ok.lP,ok.Fu⟩
section
variable {X : Cx} {pins : List (Addr × Obj)} {σ : St} {H : Hp} {s : Shared} {E : Value→Shared→Prop}
theorem Inv.qc (I:Inv X pins σ H s) (E:Value→Shared→Prop):Inv (X.qc E) pins σ H s:=⟨I.ok.qc E,I.os,I.bare,I.base,I.loc,I.cell,I.free,I.ix,I.pin,I.aX,I.len⟩
theorem Inv.iy (I:Inv (X.qc E) pins σ H s):Inv X pins σ H s:=⟨I.ok.iy,I.os,I.bare,I.base,I.loc,I.cell,I.free,I.ix,I.pin,I.aX,I.len⟩
theorem SP.iy {D:Ends}{f:Flow}{s':Shared} (h:SP (X.qc E) pins D f s'):SP X pins D f s':=by
 cases f with
 | next=>obtain⟨σ',H',I,q⟩:=h;exact⟨σ',H',I.iy,q⟩
 | brk=>obtain⟨σ',H',I,q⟩:=h;exact⟨σ',H',I.iy,q⟩
 | cont=>obtain⟨σ',H',I,q⟩:=h;exact⟨σ',H',I.iy,q⟩
 | ret u=>obtain⟨v,σ',H',I,r,q⟩:=h;exact⟨v,σ',H',I.iy,r,q⟩
theorem PE.JB {e:Expr}{t:TE} (h:PE X.JB e t):PE X e t:=fun pins s σ H Q I hw=>
 wpAny_mono (h pins s σ H Q (I.qc _) hw) (fun _ _ ⟨v,H',I',r,q⟩=>⟨v,H',I'.iy,r,q⟩) fun _ _ z=>False.elim z
theorem PT.JB {e:Expr}{t:TT} (h:PT X.JB e t):PT X e t:=fun pins s σ H Q I hw=>
 wpAny_mono (h pins s σ H Q (I.qc _) hw) (fun _ _ ⟨H',I',q⟩=>⟨H',I'.iy,q⟩) fun _ _ z=>False.elim z
theorem lg.JB {st:List Stmt}{t:TS} (h:lg X.JB st t):lg X st t:=fun pins s σ H D I hw=>
 wpAny_mono (h pins s σ H D (I.qc _) hw) (fun _ _ q=>q.iy) fun _ _ z=>False.elim z
end
section
variable {X : Cx} {st : Stmt} {rest : List Stmt} {t u : TS} {e : Expr} {te : TE} {pos : Pos}
noncomputable def LZ:TS:=fun D σ H=>D.nx σ H
noncomputable def ei (t u:TS):TS:=fun D σ H=>t {D with nx:=u D} σ H
theorem aH:lg X [] LZ:=fun _ _ σ H _ I h=>wpAny_execs_nil ⟨σ,H,I,h⟩
theorem ah (h1:PS X st t) (h2:lg X rest u):lg X (st::rest) (ei t u):=by
 intro pins s σ H D I h
 refine wpAny_execs_cons (ck (h1 pins s σ H {D with nx:=u D} I h) fun f s1 q=>?_)
 cases f with
 | next=>
  obtain⟨σ',H',I',q⟩:=q
  exact h2 pins s1 σ' H' D I' q
 | ret v=>exact q
 | brk=>exact q
 | cont=>exact q
theorem aj (h1:PS X st t):lg X [st] t:=by
 intro pins s σ H D I h
 refine wpAny_execs_cons (ck (h1 pins s σ H D I h) fun f s1 q=>?_)
 cases f with
 | next=>exact wpAny_execs_nil q
 | ret v=>exact q
 | brk=>exact q
 | cont=>exact q
theorem Inv.quiet {pins:List (Addr×Obj)}{σ:St}{H:Hp}{s:Shared} (I:Inv X pins σ H s):interactive X.env=false:=by simp [interactive,I.ok.kind]
noncomputable def Mm (te:TE):TS:=fun D σ H=>te σ H fun _ H1=>D.nx σ H1
theorem fN (he:PE X e te) (hs:swapsWith e none pos.line X.env=pure false:=by rfl):PS X (.Expr e pos) (Mm te):=by
 intro pins s σ H D I h
 exact wpAny_Expr_any (ck (he pins s σ H _ I h) fun v s1 ⟨x,H1,I1,r1,q1⟩=>⟨σ,H1,I1,q1⟩) I.quiet hs
noncomputable def Rr (te:TE):TS:=fun D σ H=>te σ H D.rt
theorem aE (he:PE X e te):PS X (.Return (some e) pos) (Rr te):=by
 intro pins s σ H D I h
 exact wpAny_Return_some (ck (he pins s σ H _ I h) fun v s1 ⟨x,H1,I1,r1,q1⟩=>⟨x,σ,H1,I1,r1,q1⟩)
noncomputable def RU (c:TT) (t u:TS):TS:=fun D σ H=>c σ H fun b H1=>if b=true then t D σ H1 else u D σ H1
theorem aU {c:Expr}{a b:List Stmt}{tc:TT} (hc:PT X c tc) (ha:lg X a t) (hb:lg X b u):PS X (.If c a b pos) (RU tc t u):=by
 intro pins s σ H D I h
 refine wpAny_If (ck (hc pins s σ H _ I h) fun d s1 ⟨H1,I1,q1⟩=>?_)
 cases d with
 | true=>exact ha pins s1 σ H1 D I1 q1
 | false=>exact hb pins s1 σ H1 D I1 q1
noncomputable def Fw:TS:=fun _ _ _=>False
theorem dh:PS X st Fw:=fun _ _ _ _ _ _ h=>h.elim
end
noncomputable abbrev TG:=V→St→Hp→(St→Hp→Prop)→Prop
noncomputable abbrev Ke:=List V→St→Hp→(St→Hp→Prop)→Prop
noncomputable def PG (X:Cx) (target:Expr) (t:TG):Prop:=
 ∀(pins:List (Addr×Obj)) (s:Shared) (σ:St) (H:Hp) (v:V) (u:Value) (Q:St→Hp→Prop),Inv X pins σ H s→RelV v u→t v σ H Q→
  wpAny (model X.prog X.w) X.A (assign target X.env u) (fun _ s'=>∃σ' H',Inv X pins σ' H' s'∧Q σ' H') X.xe s
noncomputable def Tz (X:Cx) (ts:List Expr) (t:Ke):Prop:=
 ∀(pins:List (Addr×Obj)) (s:Shared) (σ:St) (H:Hp) (vs:List V) (us:List Value) (Q:St→Hp→Prop),Inv X pins σ H s→Vals vs us→t vs σ H Q→
  wpAny (model X.prog X.w) X.A (assignInOrder ((assignEach ts X.env).map (·.2)) us) (fun _ s'=>∃σ' H',Inv X pins σ' H' s'∧Q σ' H') X.xe s
noncomputable abbrev KO:=V→V→V→Hp→(Hp→Prop)→Prop
noncomputable def Qj (X:Cx) (t:KO):Prop:=
 ∀(pins:List (Addr×Obj)) (s:Shared) (σ:St) (H:Hp) (o i v:V) (ov iv u:Value) (Q:Hp→Prop),Inv X pins σ H s→RelV o ov→RelV i iv→RelV v u→t o i v H Q→
  wpAny (model X.prog X.w) X.A (setItem ov iv u) (fun _ s'=>∃H',Inv X pins σ H' s'∧Q H') X.xe s
noncomputable abbrev RE:=V→V→Hp→VK→Prop
noncomputable def PIp (X:Cx) (op:Operator) (t:RE):Prop:=
 ∀(pins:List (Addr×Obj)) (s:Shared) (σ:St) (H:Hp) (x y:V) (v u:Value) (Q:VK),Inv X pins σ H s→RelV x v→RelV y u→t x y H Q→
  wpAny (model X.prog X.w) X.A (inplaceOp op v u) (EP X pins σ Q) X.xe s
section
variable {X : Cx} {pos : Pos}
noncomputable def Gm (i:Nat):TG:=fun v σ H Q=>Q (σ.set i (some v)) H
theorem bG {i:Nat}{x:Str} (hN:X.N.Nodup) (hi:X.N[i]? = some x) (hx:Loc X.env.scope x) (hf:X.fn x=true∨X.env.scope.names.lookup x=some .local:=by first|exact .inl rfl|exact .inr rfl|assumption):PG X (.Name x pos) (Gm i):=by
 intro pins s σ H v u Q I r h
 exact wpAny_assign_Name (lX I hN hi hx r (fun s' I'=>⟨_,H,I',h⟩) hf)
noncomputable def Rk:Ke:=fun vs σ H Q=>vs=[]∧Q σ H
noncomputable def Le (t:TG) (u:Ke):Ke:=fun vs σ H Q=>∃v r,vs=v::r∧t v σ H fun σ' H'=>u r σ' H' Q
theorem ph:Tz X [] Rk:=by
 intro pins s σ H vs us Q I r h
 obtain⟨e,h⟩:=h
 subst e
 cases r
 exact assignInOrder_nil ⟨σ,H,I,h⟩
theorem dg {e:Expr}{es:List Expr}{t:TG}{u:Ke} (h1:PG X e t) (h2:Tz X es u)
 (hs:(assignEach (e::es) X.env).map (·.2)=assign e X.env::(assignEach es X.env).map (·.2):=by rfl):Tz X (e::es) (Le t u):=by
 intro pins s σ H vs us Q I r h
 obtain⟨v,vr,e1,h⟩:=h
 subst e1
 cases r with
 | cons r rr=>
  rw [hs]
  refine assignInOrder_cons (ck (h1 pins s σ H _ _ _ I r h) fun _ s1 ⟨σ1,H1,I1,q1⟩=>?_)
  exact h2 pins s1 σ1 H1 _ _ Q I1 rr q1
noncomputable def Rx (K:PySem.W.Frag) (n:Nat) (t:Ke):TG:=fun v σ H Q=>∃a xs,v = .ref a∧jE K H a xs∧xs.length=n∧t xs σ H Q
theorem ur {es:List Expr}{k:Nat}{t:Ke}{n:Nat} (hc:X.calm=true) (h:Tz X es t)
 (hn:(assignEach es X.env).length=n:=by rfl) (IP:(assignEach es X.env).findIdx? (·.1)=none:=by rfl):PG X (.Tuple es k pos) (Rx X.K n t):=by
 intro pins s σ H v u Q I r hw
 obtain⟨a,xs,e1,hq,hl,hw⟩:=hw
 subst e1
 cases r
 obtain⟨aG,rv,ht,hz⟩:=I.tuple hq
 refine assign_Tuple_tuple (I.ok.hd hc) ht (by simp [hn,←hl,rv.length]) IP fun h' hx=>?_
 have I1:Inv X pins σ H {s with heap:=h'}:=I.kept (t':=s.toks) fun b o e=>hx b o (Nat.ne_of_lt (Heap.lt_size e)) e
 exact h pins _ σ H xs _ Q I1 (by simpa using rv) hw
noncomputable def Qf (to ti:TE) (t:KO):TG:=fun v σ H Q=>to σ H fun o H1=>ti σ H1 fun i H2=>t o i v H2 fun H3=>Q σ H3
theorem gH {o i:Expr}{to ti:TE}{t:KO} (ho:PE X o to) (hi:PE X i ti) (hs:Qj X t)
 (ha:∀v,assign (.Subscript o i pos) X.env v=(do
   let ov ←holding [v] (eval o X.env)
   let iv ←holding [v,ov] (eval i X.env)
   standAt pos
   holding [v,ov,iv] (setItem ov iv v)
   release [v,ov,iv] []):=by intro _;rfl):PG X (.Subscript o i pos) (Qf to ti t):=by
 intro pins s σ H v u Q I r h
 rw [ha]
 refine wpAny_bind (wpAny_holding (ck (ho pins s σ H _ I h) fun ov s1 ⟨x,H1,I1,r1,q1⟩=>?_))
 refine wpAny_bind (wpAny_holding (ck (hi pins s1 σ H1 _ I1 q1) fun iv s2 ⟨y,H2,I2,r2,q2⟩=>?_))
 refine wpAny_bind (wpAny_standAt (wpAny_bind (wpAny_holding (ck (hs pins s2 σ H2 x y v ov iv u _ I2 r1 r2 r q2) fun _ s3 ⟨H3,I3,q3⟩=>?_))))
 exact wpAny_release ⟨σ,H3,I3,q3⟩
noncomputable def MZ (te:TE) (g:TG):TS:=fun D σ H=>te σ H fun x H1=>g x σ H1 D.nx
theorem gh {tg e:Expr}{te:TE}{g:TG} (he:PE X e te) (hg:PG X tg g) (hs:swapsWithSole [tg] e pos.line X.env=pure false:=by rfl) (hw:swappedStores [tg] e X.env=pure none:=by rfl)
 (h1:(assignEach [tg] X.env).map (·.2)=[assign tg X.env]:=by rfl):PS X (.Assign [tg] e pos) (MZ te g):=by
 intro pins s σ H D I h
 refine wpAny_Assign_stores (ck (he pins s σ H _ I h) fun v s1 ⟨x,H1,I1,r1,q1⟩=>?_) hs hw
 rw [h1]
 exact ck (hg pins s1 σ H1 x v _ I1 r1 q1) fun _ s2 q=>q
theorem Nl {i:Nat}{x:Str}{e:Expr}{te:TE}{pos':Pos} (hN:X.N.Nodup) (hi:X.N[i]? = some x) (hx:Loc X.env.scope x) (he:PE X e te) (hs:swapsWith e (some (.Name x pos')) pos.line X.env=pure false:=by rfl) (hf:X.fn x=true∨X.env.scope.names.lookup x=some .local:=by first|exact .inl rfl|exact .inr rfl|assumption) :
 PS X (.Assign [.Name x pos'] e pos) (MZ te (Gm i)):=by
 intro pins s σ H D I h
 refine wpAny_Assign_Name (ck (he pins s σ H _ I h) fun v s1 ⟨y,H1,I1,r1,q1⟩=>?_) hs
 exact lX I1 hN hi hx r1 (fun s2 I2=>⟨_,H1,I2,q1⟩) hf
noncomputable def Q3 (i j:Nat) (ta:TA):TS:=fun D σ H=>ta σ H fun vs H1=>∃v w,vs=[v,w]∧D.nx ((σ.set i (some v)).set j (some w)) H1
theorem NY {i j:Nat}{x y:Str}{a b:Expr}{ta:TA}{px py pt:Pos}{kt k2 MI} (hc:X.calm=true) (hN:X.N.Nodup) (hi:X.N[i]? = some x) (hj:X.N[j]? = some y) (hij:i≠j)
 (hx:X.env.scope.names.lookup x=some .local) (hy:X.env.scope.names.lookup y=some .local) (ha:PA X [a,b] ta)
 (hw:swappedStores [.Tuple [.Name x px,.Name y py] kt pt] (.Tuple [a,b] k2 MI) X.env=pure (some [x,y]))
 (hs:swapsWithSole [.Tuple [.Name x px,.Name y py] kt pt] (.Tuple [a,b] k2 MI) pos.line X.env=pure false:=by rfl) :
 PS X (.Assign [.Tuple [.Name x px,.Name y py] kt pt] (.Tuple [a,b] k2 MI) pos) (Q3 i j ta):=by
 intro pins s σ H D I h
 rw [exec_Assign_arm]
 refine wpAny_bind (wpAny_standAt ?_)
 rw [hs]
 refine wpAny_bind (wpAny_pure ?_)
 rw [if_neg (by decide)]
 refine wpAny_bind (Tuple_ (ck (ha _ pins s σ H _ I h) fun us s1 ⟨vs,H1,I1,r1,q1⟩=>?_))
 obtain⟨v,w,e1,q1⟩:=q1
 subst e1
 obtain⟨u1,u2,rfl,rv,NR⟩:∃u1 u2,us=[u1,u2]∧RelV v u1∧RelV w u2:=by
  cases r1 with
  | cons p q=>
   cases q with
   | cons p' q'=>
    cases q'
    exact⟨_,_,rfl,p,p'⟩
 refine wpAny_newObj_type ?_ (by show 2≤sizeLine;decide)
 have I2:Inv X pins σ H1 {s1 with heap:=s1.heap.push {cls:=.type "tuple",data:=.seq [u1,u2].toArray}}:=I1.kept (t':=s1.toks) fun b o e=>Heap.get?_push_of_some _ e
 rw [hw]
 refine wpAny_bind (wpAny_pure ?_)
 show wpAny (model X.prog X.w) X.A (do rule "assign.swapped-stores";let items ←unpackItems (.ref s1.heap.objs.size) 2 none;assignInOrder [fun v=>bindName X.env y v,fun v=>bindName X.env x v] items.reverse;pure Flow.next) _ _ _
 refine wpAny_bind (wpAny_rule (wpAny_bind (unpackItems_tuple (items:=#[u1,u2]) (I.ok.hd hc) (IsTup.new s1.heap _) fun h' hx'=>?_)))
 have I3:=I2.kept (h':=h') (t':=s1.toks) fun b o e=>hx' b o (Nat.ne_of_lt (Heap.lt_size e)) e
 show wpAny _ _ (assignInOrder [fun v=>bindName X.env y v,fun v=>bindName X.env x v] [u2,u1] >>= fun _=>pure Flow.next) _ _ _
 refine wpAny_bind (assignInOrder_cons (wpAny_bindName (lX I3 hN hj (.inl hy) NR (fun s2 I4=>?_) (.inr hy))))
 refine assignInOrder_cons (wpAny_bindName (lX I4 hN hi (.inl hx) rv (fun s3 I5=>assignInOrder_nil (wpAny_pure ?_)) (.inr hx)))
 rw [List.set_comm _ _ (Ne.symm hij)] at I5
 exact⟨_,H1,I5,q1⟩
noncomputable def Sa (i:Nat) (te:TE) (ti:RE):TS:=fun D σ H=>∃x,σ[i]? = some (some x)∧te σ H fun y H1=>ti x y H1 fun z H2=>D.nx (σ.set i (some z)) H2
theorem Og {i:Nat}{x:Str}{e:Expr}{te:TE}{op:Operator}{ti:RE}{pos':Pos} (hN:X.N.Nodup) (hi:X.N[i]? = some x) (hx:Loc X.env.scope x) (he:PE X e te) (ho:PIp X op ti) (hf:X.fn x=true∨X.env.scope.names.lookup x=some .local:=by first|exact .inl rfl|exact .inr rfl|assumption) :
 PS X (.AugAssign (.Name x pos') op e pos) (Sa i te ti):=by
 intro pins s σ H D I h
 obtain⟨v,e1,h⟩:=h
 obtain⟨m,hn,hl⟩:=I.loc
 have vis:SI X.env.scope x:=by rcases hx with k|k;exact .inl k;exact .inr (.inl k)
 obtain⟨u,r,l⟩:=hl i x v hi e1 vis
 refine wpAny_AugAssign_Name ?_
 have go:wpAny (model X.prog X.w) X.A (eval e X.env) (fun w s₂=>wpAny (model X.prog X.w) X.A (inplaceOp op u w) (fun r s₃=>wpAny (model X.prog X.w) X.A (storeName X.env x r) (fun _=>SP X pins D .next) X.xe s₃) X.xe s₂) X.xe s:=by
  refine ck (he pins s σ H _ I h) fun w s1 ⟨y,H1,I1,r1,q1⟩=>?_
  refine ck (ho pins s1 σ H1 v y u w _ I1 r r1 q1) fun z s2 ⟨zv,H2,I2,r2,q2⟩=>?_
  exact lX I2 hN hi hx r2 (fun s3 I3=>⟨_,H2,I3,q2⟩) hf
 rcases l with ⟨hk,hm⟩|⟨hk,c,hc,hcell⟩
 · exact wpAny_loadName_local I.ok.kind hk hn hm go
 · rcases hk with hk|hk
   · exact wpAny_loadName_cell I.ok.kind hk hc hcell go
   · rcases hx with k|k
     · have:X.env.scope.names.lookup x=some .free:=hk
       rw [k] at this;cases this
     · have:X.env.scope.names.lookup x=some .free:=hk
       rw [k] at this;cases this
noncomputable def ipI (f:Int→Int→Int):RE:=fun x y H Q=>∃i j,x = .int i∧y = .int j∧Q (.int (f i j)) H
theorem N8:PIp X .Add (ipI fun i j=>i+j):=by
 intro pins s σ H x y v u Q I r1 r2 h
 obtain⟨i,j,e1,e2,q⟩:=h
 subst e1;subst e2
 obtain⟨t,rfl⟩:=r1
 obtain⟨t',rfl⟩:=r2
 exact iadd_int ⟨.int _,H,I.tok _,⟨_,rfl⟩,q⟩
end
section
variable {X : Cx} {pos : Pos}
noncomputable def NW (c:TT) (tb:TS):TS:=fun D σ H=>∃W:Nat→St→Hp→Prop,(∃m,W m σ H)∧∀m σ H,W m σ H→
 c σ H fun b H1=>if b=true then ∃N:St→Hp→Prop,(∀σ' H',N σ' H'→∃m',m'<m∧W m' σ' H')∧tb {D with nx:=N,ct:=N,bk:=D.nx} σ H1 else D.nx σ H1
theorem Am {c:Expr}{body:List Stmt}{tc:TT}{tb:TS} (hp:PassesOwn (model X.prog X.w) X.A X.env X.xe) (hc:PT X c tc) (hb:lg X body tb):PS X (.While c body [] pos) (NW tc tb):=by
 intro pins s σ H D I h
 obtain⟨W,⟨m0,w0⟩,turn⟩:=h
 refine wpAny_While (codeAny_whileLoop (fun n s'=>∃σ' H',Inv X pins σ' H' s'∧W n σ' H') ?_ m0 ⟨σ,H,I,w0⟩)
 rintro n s1 ⟨σ1,H1,I1,w1⟩
 refine wpAny_passesOwn hp (ck (hc pins s1 σ1 H1 _ I1 (turn n σ1 H1 w1)) fun b s2 ⟨H2,I2,q2⟩=>?_)
 cases b with
 | true=>
  obtain⟨N,hN,q2⟩:=q2
  rw [if_pos rfl]
  refine wpAny_passesOwn hp (ck (hb pins s2 σ1 H2 _ I2 q2) fun f s3 q3=>?_)
  cases f with
  | next=>
   obtain⟨σ3,H3,I3,n3⟩:=q3
   obtain⟨m',hm,w3⟩:=hN σ3 H3 n3
   exact⟨m',hm,σ3,H3,I3,w3⟩
  | cont=>
   obtain⟨σ3,H3,I3,n3⟩:=q3
   obtain⟨m',hm,w3⟩:=hN σ3 H3 n3
   exact⟨m',hm,σ3,H3,I3,w3⟩
  | brk=>exact q3
  | ret v=>exact q3
 | false=>
  rw [if_neg Bool.false_ne_true]
  exact wpAny_execs_nil ⟨σ1,H2,I2,q2⟩
end
structure It where
 go:Nat→Hp→Prop
 Fp:Nat→Hp→V→Hp→Prop
 stop:Nat→Hp→Prop
noncomputable def eX (X:Cx) (pins:List (Addr×Obj)) (H:Hp) (b:Addr):Prop:=
 H b=none∧b≠X.env.locals∧b∉X.fs∧(b∈X.ex∨X.s₀.heap.objs.size≤b)∧(∀x c,X.env.cells.lookup x=some c→c≠b)∧∀p∈X.pn++pins,p.1≠b
theorem Inv.sv {X:Cx}{pins:List (Addr×Obj)}{σ:St}{H H':Hp}{s:Shared}{b:Addr} (I:Inv X pins σ H s) (hb:s.heap.objs.size≤b) (hn:H' b=none):eX X pins H' b:=by
 refine⟨hn,Nat.ne_of_gt (Nat.lt_of_lt_of_le I.lt hb),I.QZ hb,.inr (Nat.le_trans I.sz hb),fun x c e z=>?_,fun p hp z=>?_⟩
 · obtain⟨v,q⟩:=I.cell x c e
   exact absurd (Nat.lt_of_lt_of_le q.lt (by rw [z];exact hb)) (Nat.lt_irrefl _)
 · exact absurd (Nat.lt_of_lt_of_le (Heap.lt_size (I.pin p hp).1) (by rw [z];exact hb)) (Nat.lt_irrefl _)
structure Turn (P:Program) (w:World) (K:PySem.W.Frag) (tg:Expr) (J:It) (fp:List Addr) (it:Addr) (tn:Nat→Heap→Prop):Prop where
 mem:it∈fp
 obj:∀i h,tn i h→∀b∈fp,∃o,h.get? b=some o∧∀v,o.data ≠ .cell v
 keep:∀i h h',tn i h→(∀b∈fp,∀o,h.get? b=some o→h'.get? b=some o)→tn i h'
 item:∀(X:Cx),X.prog=P→X.w=w→X.K=K→X.calm=true→∀(i:Nat) (pins:List (Addr×Obj)) (s:Shared) (σ:St) (H:Hp) (E:Value→Shared→Prop),Inv X pins σ H s→(∀b∈fp,eX X pins H b)→tn i s.heap→J.go i H→
  wpAny (model P w) X.A (pyNext (.ref it)) (fun r s1=>∃u,r=some u∧
   wpAny (model P w) X.A (letOwnedTupleGo tg (.ref it) u) (fun _ s2=>∃x H',Inv X pins σ H' s2∧RelV x u∧J.Fp i H x H'∧tn (i+1) s2.heap∧∀b∈fp,H' b=none) E s1) E s
 done:∀(X:Cx),X.prog=P→X.w=w→X.K=K→X.calm=true→∀(i:Nat) (pins:List (Addr×Obj)) (s:Shared) (σ:St) (H:Hp) (E:Value→Shared→Prop),Inv X pins σ H s→(∀b∈fp,eX X pins H b)→tn i s.heap→J.stop i H→
  wpAny (model P w) X.A (pyNext (.ref it)) (fun r s1=>r=none∧Inv X pins σ H s1) E s
 self:∀(A:Around) (i:Nat) (s:Shared) (Q:Value→Shared→Prop) (E:Value→Shared→Prop),tn i s.heap→Q (.ref it) s→wpAny (model P w) A (pyIter (.ref it)) Q E s
noncomputable abbrev TI:=St→Hp→(It→Hp→Prop)→Prop
noncomputable def PIE (X:Cx) (pins:List (Addr×Obj)) (σ:St) (tg:Expr) (R:It→Hp→Prop) (OM:Value) (s2:Shared):Prop:=
 ∃(it:Addr) (fp:List Addr) (tn:Nat→Heap→Prop) (J:It) (H':Hp),OM = .ref it∧Inv X pins σ H' s2∧Turn X.prog X.w X.K tg J fp it tn∧tn 0 s2.heap∧(∀b∈fp,eX X pins H' b)∧R J H'
noncomputable def PI (X:Cx) (tg iter:Expr) (wi:TI):Prop:=
 ∀(pins:List (Addr×Obj)) (s:Shared) (σ:St) (H:Hp) (R:It→Hp→Prop),Inv X pins σ H s→wi σ H R→
  wpAny (model X.prog X.w) X.A (eval iter X.env) (fun v s1=>wpAny (model X.prog X.w) X.A (pyIter v) (PIE X pins σ tg R) X.xe s1) X.xe s
theorem DO {M:Model}{A:Around}{E:Value→Shared→Prop}{s:Shared}{tg:Expr}{it:Addr}{u:Value}{o:Obj}{n:String}{vs:Array Value}{Q:Unit→Shared→Prop} (ho:s.heap.get? it=some o) (hc:o.cls = .type n) (hd:o.data = .fields vs)
 (hn:["enumerate","zip","dict_itemiterator","dict_reverseitemiterator","odict_iterator","itertools.zip_longest","itertools.pairwise"].contains n=false) (hQ:Q () s):wpAny M A (letOwnedTupleGo tg (.ref it) u) Q E s:=by
 unfold letOwnedTupleGo
 cases tg<;>first
  | exact wpAny_pure hQ
  | (cases u<;>first
      | exact wpAny_pure hQ
      | (refine wpAny_bind (wpAny_load ho ?_)
         rw [hc,hd]
         show wpAny M A (if (["enumerate","zip","dict_itemiterator","dict_reverseitemiterator","odict_iterator","itertools.zip_longest","itertools.pairwise"].contains n&&vs[0]? == some (rawInt _))=true then _ else _) Q E s
         rw [if_neg (by intro h;rw [hn,Bool.false_and] at h;cases h)]
         exact wpAny_pure hQ))
noncomputable def OF (K:PySem.W.Frag) (a:Addr):It:=
 ⟨fun i H=>∃xs x,fQ K H a xs∧xs[i]? = some x,fun i H x H'=>H'=H∧∀xs,fQ K H a xs→xs[i]? = some x,fun i H=>∃xs,fQ K H a xs∧xs.length≤i⟩
noncomputable def OU (K:PySem.W.Frag) (a:Addr):It:=
 ⟨fun i H=>∃xs x,jE K H a xs∧xs[i]? = some x,fun i H x H'=>H'=H∧∀xs,jE K H a xs→xs[i]? = some x,fun i H=>∃xs,jE K H a xs∧xs.length≤i⟩
noncomputable def IS (lo:Int) (n:Nat):It:=⟨fun i _=>i<n,fun i H x H'=>H'=H∧x = .int (lo+i),fun i _=>n≤i⟩
theorem Ez {P:Program}{w:World}{K:PySem.W.Frag}{tg:Expr} (a it:Addr):Turn P w K tg (OF K a) [it] it (fun i h=>h.IsListIter it a i) where
 mem:=by simp
 obj:=fun i h st b hb=>by
  have e:b=it:=by simpa using hb
  subst e
  obtain⟨o,e,c,d⟩:=st
  exact⟨o,e,fun v z=>by rw [d] at z;cases z⟩
 keep:=fun i h h' st k=>st.at fun o e=>k it (by simp) o e
 item:=by
  intro X hP hw hK hc i pins s σ H E I hf st hg
  subst hP hw hK
  obtain⟨xs,x,hq,hx⟩:=hg
  obtain⟨aG,rv,p,hz⟩:=I.list hq
  obtain⟨u,hu,ru⟩:=rv.get hx
  obtain⟨f0,f1,f2,f3,f4,f5⟩:=hf it (by simp)
  refine wpAny_pyNext_list_item st p.isList (x:=u) (by simpa using hu) fun h' Fy sb=>?_
  have I1:Inv X pins σ H {s with heap:=h'}:=I.turned (t':=s.toks) (fun b o hb e=>(sb.2 b hb).trans e) f0 f1 f3 f4 f5
  obtain⟨o,e,c,d⟩:=id Fy
  exact⟨u,rfl,DO (s:={s with heap:=h'}) e c d (by decide) ⟨x,H,I1,ru,⟨rfl,fun ys hy=>by rw [I.zN hy hq];exact hx⟩,Fy,fun b hb=>(hf b hb).1⟩⟩
 done:=by
  intro X hP hw hK hc i pins s σ H E I hf st hg
  subst hP hw hK
  obtain⟨xs,hq,hx⟩:=hg
  obtain⟨aG,rv,p,hz⟩:=I.list hq
  obtain⟨f0,f1,f2,f3,f4,f5⟩:=hf it (by simp)
  have hl:=rv.length
  exact wpAny_pyNext_list_end (I.ok.hd hc) st p.isList (by simp;omega) fun h' eb=>⟨rfl,I.turned (t':=s.toks) (fun b o hb e=>eb b o hb e) f0 f1 f3 f4 f5⟩
 self:=fun _ _ _ _ _ st h=>wpAny_pyIter_listiter st h
theorem BL {P:Program}{w:World}{K:PySem.W.Frag}{tg:Expr} (a it:Addr):Turn P w K tg (OU K a) [it] it (fun i h=>h.IsTupleIter it a i) where
 mem:=by simp
 obj:=fun i h st b hb=>by
  have e:b=it:=by simpa using hb
  subst e
  obtain⟨o,e,c,d⟩:=st
  exact⟨o,e,fun v z=>by rw [d] at z;cases z⟩
 keep:=fun i h h' st k=>st.at fun o e=>k it (by simp) o e
 item:=by
  intro X hP hw hK hc i pins s σ H E I hf st hg
  subst hP hw hK
  obtain⟨xs,x,hq,hx⟩:=hg
  obtain⟨aG,rv,p,hz⟩:=I.tuple hq
  obtain⟨u,hu,ru⟩:=rv.get hx
  obtain⟨f0,f1,f2,f3,f4,f5⟩:=hf it (by simp)
  refine wpAny_pyNext_tuple_item st (show s.heap.IsTuple a aG.toArray from p) (x:=u) (by simpa using hu) fun h' Fy sb=>?_
  have I1:Inv X pins σ H {s with heap:=h'}:=I.turned (t':=s.toks) (fun b o hb e=>(sb.2 b hb).trans e) f0 f1 f3 f4 f5
  obtain⟨o,e,c,d⟩:=id Fy
  exact⟨u,rfl,DO (s:={s with heap:=h'}) e c d (by decide) ⟨x,H,I1,ru,⟨rfl,fun ys hy=>by rw [I.vY hy hq];exact hx⟩,Fy,fun b hb=>(hf b hb).1⟩⟩
 done:=by
  intro X hP hw hK hc i pins s σ H E I hf st hg
  subst hP hw hK
  obtain⟨xs,hq,hx⟩:=hg
  obtain⟨aG,rv,p,hz⟩:=I.tuple hq
  obtain⟨f0,f1,f2,f3,f4,f5⟩:=hf it (by simp)
  have hl:=rv.length
  exact wpAny_pyNext_tuple_end (I.ok.hd hc) st (show s.heap.IsTuple a aG.toArray from p) (by simp;omega) fun h' eb=>⟨rfl,I.turned (t':=s.toks) (fun b o hb e=>eb b o hb e) f0 f1 f3 f4 f5⟩
 self:=fun _ _ _ _ _ st h=>wpAny_pyIter_tupleiter st h
theorem BZ {P:Program}{w:World}{K:PySem.W.Frag}{tg:Expr} (it:Addr) (lo:Int) (n:Nat):Turn P w K tg (IS lo n) [it] it (fun i h=>IsRangeIter h it (lo+(i:Nat)*1) ((n:Int) - (i:Nat)) 1) where
 mem:=by simp
 obj:=fun i h st b hb=>by
  have e:b=it:=by simpa using hb
  subst e
  exact⟨_,st,fun v z=>by
   have z':Data.fields _=Data.cell v:=z
   cases z'⟩
 keep:=fun i h h' st k=>k it (by simp) _ st
 item:=by
  intro X hP hw hK hc i pins s σ H E I hf st hg
  subst hP hw hK
  obtain⟨f0,f1,f2,f3,f4,f5⟩:=hf it (by simp)
  have W:=Walks.range (prog:=X.prog) (w:=X.w) (I.ok.hd hc) it lo 1 n
  refine W.item i s _ _ hg st fun v h' tk hv Fy kk=>?_
  obtain⟨t,rfl⟩:=hv
  have I1:Inv X pins σ H {s with heap:=h',toks:=tk}:=I.turned (fun b o hb e=>kk b o (by simpa using hb) e) f0 f1 f3 f4 f5
  refine⟨_,rfl,DO (s:={s with heap:=h',toks:=tk}) (n:="range_iterator") Fy rfl rfl (by decide) ⟨.int (lo+i),H,I1,⟨t,?_⟩,⟨rfl,rfl⟩,Fy,fun b hb=>(hf b hb).1⟩⟩
  rw [Int.mul_one]
 done:=by
  intro X hP hw hK hc i pins s σ H E I hf st hg
  subst hP hw hK
  obtain⟨f0,f1,f2,f3,f4,f5⟩:=hf it (by simp)
  exact wpAny_pyNext_range_end (I.ok.hd hc) st (by have:n≤i:=hg;omega) fun h' eb=>⟨rfl,I.turned (t':=s.toks) (fun b o hb e=>eb b o hb e) f0 f1 f3 f4 f5⟩
 self:=fun _ _ _ _ _ st h=>wpAny_pyIter_rangeiter st h
end L2
namespace L2
open PySem PySem.Spec PyProof.Rows
section
variable {X : Cx} {tg : Expr}
theorem Hj {pins:List (Addr×Obj)}{σ:St}{H:Hp}{s:Shared}{R:It→Hp→Prop}{E:Value→Shared→Prop}{lo hi:Int}{t u v:Tok}{tk:Nat} (I:Inv X pins σ H s) (h1 : -(2^62)≤lo) (h2:lo<2^62) (h3 : -(2^62)≤hi) (h4:hi<2^62)
 (q:R (IS lo (hi - lo).toNat) H):wpAny (model X.prog X.w) X.A (pyIter (.ref s.heap.objs.size)) (PIE X pins σ tg R) E {s with heap:=s.heap.push {cls:=.type "range",data:=.fields #[.int lo t,.int hi u,.int 1 v]},toks:=tk}:=by
 refine wpAny_pyIter_range (IsRange.new ..) (small_one h1 h2 h3 h4) ?_
 have I1:Inv X pins σ H {s with heap:=s.heap.push {cls:=.type "range",data:=.fields #[.int lo t,.int hi u,.int 1 v]},toks:=tk}:=I.kept fun b o e=>Heap.get?_push_of_some _ e
 refine⟨(s.heap.push {cls:=.type "range",data:=.fields #[.int lo t,.int hi u,.int 1 v]}).objs.size,[(s.heap.push {cls:=.type "range",data:=.fields #[.int lo t,.int hi u,.int 1 v]}).objs.size],_,_,H,rfl,
  I1.kept (t':=tk) fun b o e=>Heap.get?_push_of_some _ e,BZ _ lo (hi - lo).toNat,?_,fun b hb=>?_,q⟩
 · have e1:lo+((0:Nat):Int)*1=lo:=by simp
   have e2:(((hi - lo).toNat:Nat):Int) - ((0:Nat):Int)=Builtin.Range.rangeSize lo hi 1:=by rw [rangeSize_one];split<;>omega
   show IsRangeIter _ _ (lo+((0:Nat):Int)*1) ((((hi - lo).toNat:Nat):Int) - ((0:Nat):Int)) 1
   rw [e1,e2]
   exact Heap.get?_push_size _ rfl
 · have e:b=(s.heap.push {cls:=.type "range",data:=.fields #[.int lo t,.int hi u,.int 1 v]}).objs.size:=by simpa using hb
   subst e
   exact I1.sv (Nat.le_refl _) (I1.aX.fresh (Nat.le_refl _))
noncomputable def LQ (ta:TA):TI:=fun σ H R=>ta σ H fun vs H1=>∃j:Int,vs=[.int j] ∧ -(2^62)≤j∧j<2^62∧R (IS 0 j.toNat) H1
theorem nE {a:Expr}{ta:TA}{p pos:Pos} (hg:Gl X "range") (hm:X.mg "range"=none) (ha:PA X [a] ta) (hs:starEach [a] X.env=[(false,eval a X.env)]:=by rfl):PI X tg (.Call (.Name "range" p) [a] [] pos) (LQ ta):=by
 intro pins s σ H R I h
 refine Call_ (tH I hg hm boot_range (PyProof.Rows.callWith_type1 (ck (ha pos pins s σ H _ I h) fun us s1 ⟨vs,H1,I1,r1,q1⟩=>?_) hs rfl))
 obtain⟨j,e,q1,q2,q⟩:=q1
 subst e
 cases r1 with
 | cons r rr=>
  cases rr
  obtain⟨t,rfl⟩:=r
  exact call_range_1 (Hj I1 (by omega) (by omega) q1 q2 (by simpa using q))
noncomputable def Rn (wi:TI) (g:TG) (tb:TS):TS:=fun D σ H=>wi σ H fun J H1=>∃W:Nat→Nat→St→Hp→Prop,(∃m,W 0 m σ H1)∧∀i m σ H,W i m σ H→
 (J.stop i H∧D.nx σ H)∨(J.go i H∧∃N:St→Hp→Prop,(∀σ' H',N σ' H'→∃m',m'<m∧W (i+1) m' σ' H')∧∀x H',J.Fp i H x H'→g x σ H' fun σ2 H2=>tb {D with nx:=N,ct:=N,bk:=D.nx} σ2 H2)
noncomputable def gG (fp:List Addr) (h:Heap):List (Addr×Obj):=fp.filterMap fun b=>(h.get? b).map fun o=>(b,o)
theorem gf {fp:List Addr}{h:Heap}{b:Addr}{o:Obj} (hb:b∈fp) (e:h.get? b=some o):(b,o)∈gG fp h:=List.mem_filterMap.mpr ⟨b,hb,by rw [e];rfl⟩
theorem rz {fp:List Addr}{h:Heap}{p:Addr×Obj} (hp:p∈gG fp h):p.1∈fp∧h.get? p.1=some p.2:=by
 obtain⟨b,hb,e⟩:=List.mem_filterMap.mp hp
 cases q:h.get? b with
 | none=>rw [q] at e;cases e
 | some o=>
  rw [q] at e
  have e':(b,o)=p:=Option.some.inj e
  subst e'
  exact⟨hb,q⟩
theorem Inv.pinned {pins:List (Addr×Obj)}{σ:St}{H:Hp}{s:Shared}{fp:List Addr} (I:Inv X pins σ H s) (hf:∀b∈fp,eX X pins H b) (ho:∀b∈fp,∃o,s.heap.get? b=some o∧∀v,o.data ≠ .cell v):Inv X (pins++gG fp s.heap) σ H s:=
 I.iY fun p hp=>(List.mem_append.mp hp).elim (fun z=>I.pin p (List.mem_append_right _ z)) fun z=>by
  obtain⟨hb,e⟩:=rz z
  obtain⟨f0,f1,f2,_⟩:=hf p.1 hb
  obtain⟨o,e',d⟩:=ho p.1 hb
  rw [e] at e';cases e'
  exact⟨e,f0,f1,f2,d⟩
theorem Inv.pk {pins pl:List (Addr×Obj)}{σ:St}{H:Hp}{s:Shared} (I:Inv X (pins++pl) σ H s):Inv X pins σ H s:=I.iY fun p hp=>I.pin p (List.mem_append_right _ (List.mem_append_left _ hp))
theorem gL {iter:Expr}{body:List Stmt}{wi:TI}{g:TG}{tb:TS}{pos:Pos} (hp:PassesOwn (model X.prog X.w) X.A X.env X.xe) (hc:X.calm=true) (hi:PI X tg iter wi) (hg:PG X tg g) (hb:lg X body tb)
 (hs:∀x,foldedSetIterable iter X.env x=pure x:=by intro _;rfl):PS X (.For tg iter body [] pos) (Rn wi g tb):=by
 intro pins s σ H D I h
 refine wpAny_For (ck (hi pins s σ H _ I h) fun v s1 h1=>ck h1 fun OM s2 h2=>?_) hs
 obtain⟨it,fp,tn,J,H2,e,I2,T,sj,f2,W,⟨m0,w0⟩,turn⟩:=h2
 subst e
 have NP:∀{H':Hp},(∀b∈fp,H' b=none)→∀b∈fp,eX X pins H' b:=fun hn b hb=>⟨hn b hb,(f2 b hb).2⟩
 refine codeAny_forLoop_any (fun n s'=>∃i σ' H',Inv X pins σ' H' s'∧tn i s'.heap∧(∀b∈fp,H' b=none)∧W i n σ' H') ?_ m0 ⟨0,σ,H2,I2,sj,fun b hb=>(f2 b hb).1,w0⟩
 rintro n s3 ⟨i,σ3,H3,I3,st3,fr3,w3⟩
 rcases turn i n σ3 H3 w3 with ⟨stop,qn⟩|⟨go,N,hN,step⟩
 · refine wpAny_passesOwn hp (ck (T.done X rfl rfl rfl hc i pins s3 σ3 H3 X.xe I3 (NP fr3) st3 stop) fun r s4 ⟨hr,I4⟩=>?_)
   subst hr
   exact wpAny_execs_nil ⟨σ3,H3,I4,qn⟩
 · refine wpAny_passesOwn hp (ck (T.item X rfl rfl rfl hc i pins s3 σ3 H3 X.xe I3 (NP fr3) st3 go) fun r s4 ⟨u,hr,h4⟩=>?_)
   subst hr
   refine wpAny_passesOwn hp (ck h4 fun _ s5 ⟨x,H5,I5,r5,y5,st5,fr5⟩=>?_)
   have I5':=I5.pinned (NP fr5) (T.obj _ _ st5)
   refine wpAny_passesOwn hp (ck (hg _ s5 σ3 H5 x u _ I5' r5 (step x H5 y5)) fun _ s6 ⟨σ6,H6,I6,q6⟩=>?_)
   refine wpAny_passesOwn hp (ck (hb _ s6 σ6 H6 _ I6 q6) fun f s7 q7=>?_)
   have again:∀{σ7:St}{H7:Hp},Inv X (pins++gG fp s5.heap) σ7 H7 s7→N σ7 H7→∃m,m<n∧∃i σ' H',Inv X pins σ' H' s7∧tn i s7.heap∧(∀b∈fp,H' b=none)∧W i m σ' H':=fun {σ7 H7} I7 n7=>by
    obtain⟨m',hm,w7⟩:=hN σ7 H7 n7
    refine⟨m',hm,i+1,σ7,H7,I7.pk,T.keep _ _ _ st5 fun b hb o e=>(I7.pin (b,o) (List.mem_append_right _ (List.mem_append_right _ (gf hb e)))).1,fun b hb=>?_,w7⟩
    obtain⟨o,e,d⟩:=T.obj _ _ st5 b hb
    exact(I7.pin (b,o) (List.mem_append_right _ (List.mem_append_right _ (gf hb e)))).2.1
   cases f with
   | next=>obtain⟨σ7,H7,I7,n7⟩:=q7;exact again I7 n7
   | cont=>obtain⟨σ7,H7,I7,n7⟩:=q7;exact again I7 n7
   | brk=>obtain⟨σ7,H7,I7,q7⟩:=q7;exact⟨σ7,H7,I7.pk,q7⟩
   | ret v=>obtain⟨x7,σ7,H7,I7,r7,q7⟩:=q7;exact⟨x7,σ7,H7,I7.pk,r7,q7⟩
end
theorem Hv {K:PySem.W.Frag}{a:Addr}{xs:List V}{g:TG}{tb:TS}{D:Ends}{σ:St}{H:Hp} (Pv:Nat→St→Hp→Prop) (h0:Pv 0 σ H) (hl:∀i σ H,i≤xs.length→Pv i σ H→fQ K H a xs)
 (hs:∀i x σ H,xs[i]? = some x→Pv i σ H→g x σ H fun σ2 H2=>tb {D with nx:=Pv (i+1),ct:=Pv (i+1),bk:=D.nx} σ2 H2) (hd:∀σ H,Pv xs.length σ H→D.nx σ H) :
 ∃W:Nat→Nat→St→Hp→Prop,(∃m,W 0 m σ H)∧∀i m σ H,W i m σ H→
  ((OF K a).stop i H∧D.nx σ H)∨((OF K a).go i H∧∃N:St→Hp→Prop,(∀σ' H',N σ' H'→∃m',m'<m∧W (i+1) m' σ' H')∧∀x H',(OF K a).Fp i H x H'→g x σ H' fun σ2 H2=>tb {D with nx:=N,ct:=N,bk:=D.nx} σ2 H2):=by
 refine⟨fun i m σ H=>m=xs.length - i∧i≤xs.length∧Pv i σ H,⟨xs.length,by simp,Nat.zero_le _,h0⟩,?_⟩
 rintro i m σ H ⟨rfl,hi,p⟩
 have q:=hl i σ H hi p
 by_cases fB:i<xs.length
 · refine .inr ⟨⟨xs,xs[i],q,by simp [fB]⟩,Pv (i+1),fun σ' H' p'=>⟨xs.length - (i+1),by omega,rfl,fB,p'⟩,fun x H' y=>?_⟩
   obtain⟨e,y⟩:=y
   subst e
   exact hs i x σ _ (y xs q) p
 · have e:i=xs.length:=by omega
   subst e
   exact .inl ⟨⟨xs,q,Nat.le_refl _⟩,hd σ H p⟩
theorem Kb {K:PySem.W.Frag}{a:Addr}{xs:List V}{g:TG}{tb:TS}{D:Ends}{σ:St}{H:Hp} (Pv:Nat→St→Hp→Prop) (h0:Pv 0 σ H) (hl:∀i σ H,i≤xs.length→Pv i σ H→jE K H a xs)
 (hs:∀i x σ H,xs[i]? = some x→Pv i σ H→g x σ H fun σ2 H2=>tb {D with nx:=Pv (i+1),ct:=Pv (i+1),bk:=D.nx} σ2 H2) (hd:∀σ H,Pv xs.length σ H→D.nx σ H) :
 ∃W:Nat→Nat→St→Hp→Prop,(∃m,W 0 m σ H)∧∀i m σ H,W i m σ H→
  ((OU K a).stop i H∧D.nx σ H)∨((OU K a).go i H∧∃N:St→Hp→Prop,(∀σ' H',N σ' H'→∃m',m'<m∧W (i+1) m' σ' H')∧∀x H',(OU K a).Fp i H x H'→g x σ H' fun σ2 H2=>tb {D with nx:=N,ct:=N,bk:=D.nx} σ2 H2):=by
 refine⟨fun i m σ H=>m=xs.length - i∧i≤xs.length∧Pv i σ H,⟨xs.length,by simp,Nat.zero_le _,h0⟩,?_⟩
 rintro i m σ H ⟨rfl,hi,p⟩
 have q:=hl i σ H hi p
 by_cases fB:i<xs.length
 · refine .inr ⟨⟨xs,xs[i],q,by simp [fB]⟩,Pv (i+1),fun σ' H' p'=>⟨xs.length - (i+1),by omega,rfl,fB,p'⟩,fun x H' y=>?_⟩
   obtain⟨e,y⟩:=y
   subst e
   exact hs i x σ _ (y xs q) p
 · have e:i=xs.length:=by omega
   subst e
   exact .inl ⟨⟨xs,q,Nat.le_refl _⟩,hd σ H p⟩
theorem EB {lo:Int}{n:Nat}{g:TG}{tb:TS}{D:Ends}{σ:St}{H:Hp} (Pv:Nat→St→Hp→Prop) (h0:Pv 0 σ H)
 (hs:∀i σ H,i<n→Pv i σ H→g (.int (lo+i)) σ H fun σ2 H2=>tb {D with nx:=Pv (i+1),ct:=Pv (i+1),bk:=D.nx} σ2 H2) (hd:∀σ H,Pv n σ H→D.nx σ H) :
 ∃W:Nat→Nat→St→Hp→Prop,(∃m,W 0 m σ H)∧∀i m σ H,W i m σ H→
  ((IS lo n).stop i H∧D.nx σ H)∨((IS lo n).go i H∧∃N:St→Hp→Prop,(∀σ' H',N σ' H'→∃m',m'<m∧W (i+1) m' σ' H')∧∀x H',(IS lo n).Fp i H x H'→g x σ H' fun σ2 H2=>tb {D with nx:=N,ct:=N,bk:=D.nx} σ2 H2):=by
 refine⟨fun i m σ H=>m=n - i∧i≤n∧Pv i σ H,⟨n,by simp,Nat.zero_le _,h0⟩,?_⟩
 rintro i m σ H ⟨rfl,hi,p⟩
 by_cases fB:i<n
 · refine .inr ⟨fB,Pv (i+1),fun σ' H' p'=>⟨n - (i+1),by omega,rfl,fB,p'⟩,fun x H' y=>?_⟩
   obtain⟨e,y⟩:=y
   subst e y
   exact hs i σ _ fB p
 · have e:i=n:=by omega
   subst e
   exact .inl ⟨Nat.le_refl _,hd σ H p⟩
end L2
namespace L2
open PySem PySem.Spec PyProof.Rows
noncomputable abbrev R2:=V→V→Hp→VK→Prop
noncomputable def lh (X:Cx) (f:Value→Value→Sem Value) (r:R2):Prop:=
 ∀(pins:List (Addr×Obj)) (s:Shared) (σ:St) (H:Hp) (x y:V) (v u:Value) (Q:VK),Inv X pins σ H s→RelV x v→RelV y u→r x y H Q→
  wpAny (model X.prog X.w) X.A (f v u) (EP X pins σ Q) X.xe s
noncomputable def UnR (X:Cx) (f:Value→Sem Value) (r:V→Hp→VK→Prop):Prop:=
 ∀(pins:List (Addr×Obj)) (s:Shared) (σ:St) (H:Hp) (x:V) (v:Value) (Q:VK),Inv X pins σ H s→RelV x v→r x H Q→
  wpAny (model X.prog X.w) X.A (f v) (EP X pins σ Q) X.xe s
noncomputable def df (X:Cx) (f:Value) (r:List V→Hp→VK→Prop):Prop:=
 ∀(pins:List (Addr×Obj)) (s:Shared) (σ:St) (H:Hp) (xs:List V) (us:List Value) (Q:VK),Inv X pins σ H s→Vals xs us→r xs H Q→
  wpAny (model X.prog X.w) X.A (call f us) (EP X pins σ Q) X.xe s
noncomputable def O4 (r:R2) (ta tb:TE):TE:=fun σ H Q=>ta σ H fun x H1=>tb σ H1 fun y H2=>r x y H2 Q
noncomputable def tUn (r:V→Hp→VK→Prop) (ta:TE):TE:=fun σ H Q=>ta σ H fun x H1=>r x H1 Q
noncomputable def rI (C:Int→Int→Prop) (g:Int→Int→V):R2:=fun x y H Q=>∃i j,x = .int i∧y = .int j∧C i j∧Q (g i j) H
noncomputable def JL (g:Int→Int→V):R2:=fun x y H Q=>∃i j,x = .int i∧y = .int j∧Q (g i j) H
noncomputable def rU (g:Int→V):V→Hp→VK→Prop:=fun x H Q=>∃i,x = .int i∧Q (g i) H
section
variable {X : Cx} {a b c : Expr} {ta tb tc : TE} {pos : Pos}
theorem OA (ha:PE X a ta) (hb:PE X b tb) {pins:List (Addr×Obj)}{s:Shared}{σ:St}{H:Hp}{R:V→V→Hp→Prop} (I:Inv X pins σ H s)
 (h:ta σ H fun x H1=>tb σ H1 fun y H2=>R x y H2) {Q:Value→Shared→Prop}{f:Value→Value→Sem Value}
 (hf:∀v u s2 x y H2,Inv X pins σ H2 s2→RelV x v→RelV y u→R x y H2→wpAny (model X.prog X.w) X.A (f v u) Q X.xe s2) :
 wpAny (model X.prog X.w) X.A (eval a X.env) (fun v s₁=>wpAny (model X.prog X.w) X.A (eval b X.env) (fun u s₂=>wpAny (model X.prog X.w) X.A (f v u) Q X.xe s₂) X.xe s₁) X.xe s:=by
 refine ck (ha pins s σ H _ I h) fun v s1 ⟨x,H1,I1,r1,q1⟩=>?_
 refine ck (hb pins s1 σ H1 _ I1 q1) fun u s2 ⟨y,H2,I2,r2,q2⟩=>?_
 exact hf v u s2 x y H2 I2 r1 r2 q2
theorem aq {op:Operator}{r:R2} (ho:lh X (binaryOp op) r) (ha:PE X a ta) (hb:PE X b tb):PE X (.BinOp a op b pos) (O4 r ta tb):=by
 intro pins s σ H Q I h
 exact wpAny_BinOp (OA ha hb I h fun v u s2 x y H2 I2 rx ry q=>ho pins s2 σ H2 x y v u Q I2 rx ry q)
theorem Ae {op:UnaryOp}{r:V→Hp→VK→Prop} (ho:UnR X (unaryOp op) r) (ha:PE X a ta):PE X (.UnaryOp op a pos) (tUn r ta):=by
 intro pins s σ H Q I h
 exact UnaryOp_ (ck (ha pins s σ H _ I h) fun v s1 ⟨x,H1,I1,r1,q1⟩=>ho pins s1 σ H1 x v Q I1 r1 q1)
theorem opI {f:Value→Value→Sem Value}{C:Int→Int→Prop}{g:Int→Int→Int}
 (rule:∀(i j:Int) (t u:Tok) (s:Shared) (Q:Value→Shared→Prop) (E:Value→Shared→Prop),C i j→Q (.int (g i j) s.toks) {s with toks:=s.toks+1}→wpAny (model X.prog X.w) X.A (f (.int i t) (.int j u)) Q E s) :
 lh X f (rI C fun i j=>.int (g i j)):=by
 intro pins s σ H x y v u Q I rx ry h
 obtain⟨i,j,rfl,rfl,hc,q⟩:=h
 obtain⟨t,rfl⟩:=rx
 obtain⟨t',rfl⟩:=ry
 exact rule i j t t' s _ _ hc ⟨.int (g i j),H,I.tok _,⟨_,rfl⟩,q⟩
theorem Pd {f:Value→Value→Sem Value}{g:Int→Int→Int}
 (rule:∀(i j:Int) (t u:Tok) (s:Shared) (Q:Value→Shared→Prop) (E:Value→Shared→Prop),Q (.int (g i j) s.toks) {s with toks:=s.toks+1}→wpAny (model X.prog X.w) X.A (f (.int i t) (.int j u)) Q E s) :
 lh X f (JL fun i j=>.int (g i j)):=by
 intro pins s σ H x y v u Q I rx ry h
 obtain⟨i,j,rfl,rfl,q⟩:=h
 obtain⟨t,rfl⟩:=rx
 obtain⟨t',rfl⟩:=ry
 exact rule i j t t' s _ _ ⟨.int (g i j),H,I.tok _,⟨_,rfl⟩,q⟩
theorem Ky {f:Value→Value→Sem Value}{g:Int→Int→Bool}
 (rule:∀(i j:Int) (t u:Tok) (s:Shared) (Q:Value→Shared→Prop) (E:Value→Shared→Prop),Q (.bool (g i j)) s→wpAny (model X.prog X.w) X.A (f (.int i t) (.int j u)) Q E s) :
 lh X f (JL fun i j=>.bl (g i j)):=by
 intro pins s σ H x y v u Q I rx ry h
 obtain⟨i,j,rfl,rfl,q⟩:=h
 obtain⟨t,rfl⟩:=rx
 obtain⟨t',rfl⟩:=ry
 exact rule i j t t' s _ _ ⟨.bl (g i j),H,I,rfl,q⟩
noncomputable def ad8 (i j:Int):Prop:=0<j∧j<1073741824
noncomputable def Hr (i j:Int):Prop:=(-(2^64)<i∧i<2^64)∨(-(2^64)<j∧j<2^64)
theorem Hr.ok {i j:Int} (h:Hr i j):IntMulOk i j:=by
 rcases h with ⟨h1,h2⟩|⟨h1,h2⟩
 · exact .of_left (intBits_le_64 h1 h2)
 · exact .of_right (intBits_le_64 h1 h2)
theorem bo:lh X (binaryOp .Add) (JL fun i j=>.int (i+j)):=Pd fun _ _ _ _ _ _ _ q=>add_int q
theorem fK:lh X (binaryOp .Sub) (JL fun i j=>.int (i - j)):=Pd fun _ _ _ _ _ _ _ q=>sub_int q
theorem mQ:lh X (binaryOp .Mult) (rI Hr fun i j=>.int (i*j)):=opI fun _ _ _ _ _ _ _ hc q=>mul_int q hc.ok
theorem bF:lh X (binaryOp .FloorDiv) (rI ad8 fun i j=>.int (i / j)):=opI fun i j _ _ _ _ _ hc q=>by
 have h1:(0:Int)<j:=hc.1
 have h2:j<1073741824:=hc.2
 exact floordiv_int (by omega) (by rw [Int.fdiv_eq_ediv_of_nonneg i (by omega)];exact q) (.inl (PyProof.noPylong_small (by omega)))
theorem aY:lh X (binaryOp .Mod) (rI (fun _ j=>0<j) fun i j=>.int (i % j)):=opI fun i j _ _ _ _ _ hc q=>by
 have h1:(0:Int)<j:=hc
 exact mod_int' (by omega) (by rw [Int.fmod_eq_emod_of_nonneg i (by omega)];exact q)
theorem unI {f:Value→Sem Value}{g:Int→Int}
 (rule:∀(i:Int) (t:Tok) (s:Shared) (Q:Value→Shared→Prop) (E:Value→Shared→Prop),Q (.int (g i) s.toks) {s with toks:=s.toks+1}→wpAny (model X.prog X.w) X.A (f (.int i t)) Q E s) :
 UnR X f (rU fun i=>.int (g i)):=by
 intro pins s σ H x v Q I rx h
 obtain⟨i,rfl,q⟩:=h
 obtain⟨t,rfl⟩:=rx
 exact rule i t s _ _ ⟨.int (g i),H,I.tok _,⟨_,rfl⟩,q⟩
theorem tX:UnR X (unaryOp .USub) (rU fun i=>.int (-i)):=unI fun _ _ _ _ _ q=>neg_int q
end
noncomputable def B0:V→V→Bool
 | .non,.non=>true | .non,.int _=>true | .int _,.non=>true | .non,.bl _=>true | .bl _,.non=>true | .non,.str _=>true | .str _,.non=>true
 | .int _,.int _=>true | .bl _,.bl _=>true | .str _,.str _=>true | .byt _,.byt _=>true
 | .int _,.str _=>true | .str _,.int _=>true | .bl _,.str _=>true | .str _,.bl _=>true
 | _,_=>false
noncomputable def rEq:R2:=fun x y H Q=>B0 x y=true∧Q (.bl (decide (x=y))) H
noncomputable def rNe:R2:=fun x y H Q=>B0 x y=true∧Q (.bl (!decide (x=y))) H
theorem C1 {i j:Int}:decide (V.int i=V.int j)=(i==j):=by
 rw [Bool.eq_iff_iff]
 simp
theorem Gb {i j:Bool}:decide (V.bl i=V.bl j)=(i==j):=by
 rw [Bool.eq_iff_iff]
 simp
theorem CW {i j:Str}:decide (V.str i=V.str j)=(i==j):=by
 rw [Bool.eq_iff_iff]
 simp
theorem Ds {i j:Array UInt8}:decide (V.byt i=V.byt j)=(i.toList==j.toList):=by
 rw [Bool.eq_iff_iff]
 cases i
 cases j
 simp
section
variable {X : Cx} {a b c : Expr} {ta tb tc : TE} {pos : Pos}
theorem bE {pins:List (Addr×Obj)}{σ:St}{H:Hp}{s:Shared}{Q:VK}{k k':Bool} (I:Inv X pins σ H s) (q:Q (.bl k) H) (e:k=k'):EP X pins σ Q (.bool k') s:=by
 subst e
 exact⟨.bl k,H,I,rfl,q⟩
theorem br:lh X (compareOp .Eq) rEq:=by
 intro pins s σ H x y v u Q I rx ry h
 obtain⟨hs,q⟩:=h
 cases x with
 | non=>
  cases rx
  cases y with
  | non=>cases ry;exact PySem.EqNone.eq_none_none (bE I q (by simp))
  | bl j=>cases ry;exact PySem.EqNone.eq_none_bool (bE I q (by simp))
  | int j=>obtain⟨t',rfl⟩:=ry;exact PySem.EqNone.eq_none_int (bE I q (by simp))
  | str j=>obtain⟨t',rfl⟩:=ry;exact PySem.EqNone.eq_none_str (bE I q (by simp))
  | _=>exact absurd (show false=true from hs) Bool.false_ne_true
 | bl i=>
  cases rx
  cases y with
  | non=>cases ry;exact PySem.EqNone.eq_bool_none (bE I q (by simp))
  | bl j=>cases ry;exact eq_bool (bE I q Gb)
  | str j=>obtain⟨t',rfl⟩:=ry;exact PySem.EqMixed.eq_bool_str (bE I q (by simp))
  | _=>exact absurd (show false=true from hs) Bool.false_ne_true
 | int i=>
  obtain⟨t,rfl⟩:=rx
  cases y with
  | non=>cases ry;exact PySem.EqNone.eq_int_none (bE I q (by simp))
  | int j=>obtain⟨t',rfl⟩:=ry;exact eq_int (bE I q C1)
  | str j=>obtain⟨t',rfl⟩:=ry;exact PySem.EqMixed.eq_int_str (bE I q (by simp))
  | _=>exact absurd (show false=true from hs) Bool.false_ne_true
 | str i=>
  obtain⟨t,rfl⟩:=rx
  cases y with
  | non=>cases ry;exact PySem.EqNone.eq_str_none (bE I q (by simp))
  | bl j=>cases ry;exact PySem.EqMixed.eq_str_bool (bE I q (by simp))
  | int j=>obtain⟨t',rfl⟩:=ry;exact PySem.EqMixed.eq_str_int (bE I q (by simp))
  | str j=>obtain⟨t',rfl⟩:=ry;exact eq_str (bE I q CW)
  | _=>exact absurd (show false=true from hs) Bool.false_ne_true
 | byt i=>
  obtain⟨t,rfl⟩:=rx
  cases y with
  | byt j=>obtain⟨t',rfl⟩:=ry;exact PySem.W.eq_bytes (bE I q Ds)
  | _=>exact absurd (show false=true from hs) Bool.false_ne_true
 | _=>cases y<;>exact absurd (show false=true from hs) Bool.false_ne_true
theorem yX:lh X (compareOp .NotEq) rNe:=by
 intro pins s σ H x y v u Q I rx ry h
 obtain⟨hs,q⟩:=h
 cases x with
 | non=>
  cases rx
  cases y with
  | non=>cases ry;exact PySem.EqNone.ne_none_none (bE I q (by simp))
  | bl j=>cases ry;exact PySem.EqNone.ne_none_bool (bE I q (by simp))
  | int j=>obtain⟨t',rfl⟩:=ry;exact PySem.EqNone.ne_none_int (bE I q (by simp))
  | str j=>obtain⟨t',rfl⟩:=ry;exact PySem.EqNone.ne_none_str (bE I q (by simp))
  | _=>exact absurd (show false=true from hs) Bool.false_ne_true
 | bl i=>
  cases rx
  cases y with
  | non=>cases ry;exact PySem.EqNone.ne_bool_none (bE I q (by simp))
  | bl j=>cases ry;exact ne_bool (bE I q (congrArg not Gb))
  | str j=>obtain⟨t',rfl⟩:=ry;exact PySem.EqMixed.ne_bool_str (bE I q (by simp))
  | _=>exact absurd (show false=true from hs) Bool.false_ne_true
 | int i=>
  obtain⟨t,rfl⟩:=rx
  cases y with
  | non=>cases ry;exact PySem.EqNone.ne_int_none (bE I q (by simp))
  | int j=>obtain⟨t',rfl⟩:=ry;exact ne_int (bE I q (congrArg not C1))
  | str j=>obtain⟨t',rfl⟩:=ry;exact PySem.EqMixed.ne_int_str (bE I q (by simp))
  | _=>exact absurd (show false=true from hs) Bool.false_ne_true
 | str i=>
  obtain⟨t,rfl⟩:=rx
  cases y with
  | non=>cases ry;exact PySem.EqNone.ne_str_none (bE I q (by simp))
  | bl j=>cases ry;exact PySem.EqMixed.ne_str_bool (bE I q (by simp))
  | int j=>obtain⟨t',rfl⟩:=ry;exact PySem.EqMixed.ne_str_int (bE I q (by simp))
  | str j=>obtain⟨t',rfl⟩:=ry;exact ne_str (bE I q (congrArg not CW))
  | _=>exact absurd (show false=true from hs) Bool.false_ne_true
 | byt i=>
  obtain⟨t,rfl⟩:=rx
  cases y with
  | byt j=>obtain⟨t',rfl⟩:=ry;exact PySem.W.ne_bytes (bE I q (congrArg not Ds))
  | _=>exact absurd (show false=true from hs) Bool.false_ne_true
 | _=>cases y<;>exact absurd (show false=true from hs) Bool.false_ne_true
theorem zb:lh X (compareOp .Lt) (JL fun i j=>.bl (decide (i<j))):=Ky fun _ _ _ _ _ _ _ q=>lt_int q
theorem wm:lh X (compareOp .LtE) (JL fun i j=>.bl (decide (i≤j))):=Ky fun _ _ _ _ _ _ _ q=>le_int q
theorem kT:lh X (compareOp .Gt) (JL fun i j=>.bl (decide (j<i))):=Ky fun _ _ _ _ _ _ _ q=>gt_int q
theorem CV:lh X (compareOp .GtE) (JL fun i j=>.bl (decide (j≤i))):=Ky fun _ _ _ _ _ _ _ q=>ge_int q
theorem xh:lh X (compareOp .NotIn) (fun x y H Q=>∃i j,x = .str i∧y = .str j∧Q (.bl (!(!(Builtin.Str.occurrences j i 0 j.length 1).isEmpty))) H):=by
 intro pins s σ H x y v u Q I rx ry h
 obtain⟨i,j,rfl,rfl,q⟩:=h
 obtain⟨t,rfl⟩:=rx
 obtain⟨t',rfl⟩:=ry
 exact notIn_str (bE I q rfl)
theorem lh.or {f:Value→Value→Sem Value}{r r':R2} (h:lh X f r) (h':lh X f r'):lh X f (fun x y H Q=>r x y H Q∨r' x y H Q):=by
 intro pins s σ H x y v u Q I rx ry q
 rcases q with q|q
 · exact h pins s σ H x y v u Q I rx ry q
 · exact h' pins s σ H x y v u Q I rx ry q
theorem aJ (b:Expr) {op:CmpOp} (h:op ≠ .In:=by decide) (h2:op ≠ .NotIn:=by decide):behindInMarks op b=false:=by
 have e1:(op==CmpOp.In)=false:=by cases op<;>first|rfl|exact absurd rfl h
 have e2:(op==CmpOp.NotIn)=false:=by cases op<;>first|rfl|exact absurd rfl h2
 cases b<;>simp [behindInMarks,e1,e2]
theorem cB {op:CmpOp}{r:R2} (ho:lh X (compareOp op) r) (ha:PE X a ta) (hb:PE X b tb) (hm:behindInMarks op b=false):PE X (.Compare a [op] [b] pos) (O4 r ta tb):=by
 intro pins s σ H Q I h
 exact wpAny_Compare1 (OA ha hb I h fun v u s2 x y H2 I2 rx ry q=>ho pins s2 σ H2 x y v u Q I2 rx ry q) hm
noncomputable def Gk (t:TE):TT:=fun σ H Q=>t σ H fun x H'=>∃k,x = .bl k∧Q k H'
theorem aF {op:CmpOp}{r:R2} (ho:lh X (compareOp op) r) (ha:PE X a ta) (hb:PE X b tb) (hm:behindInMarks op b=false):PT X (.Compare a [op] [b] pos) (Gk (O4 r ta tb)):=by
 intro pins s σ H Q I h
 refine wpAny_isTrue_Compare1 (ck (ha pins s σ H _ I h) fun v s1 ⟨x,H1,I1,r1,q1⟩=>ck (hb pins s1 σ H1 _ I1 q1) fun u s2 ⟨y,H2,I2,r2,q2⟩=>
  ck (ho pins s2 σ H2 x y v u _ I2 r1 r2 q2) fun c s3 ⟨z,H3,I3,r3,k,e,q3⟩=>?_) hm
 subst e
 cases r3
 exact wpAny_truthy_bool ⟨H3,I3,q3⟩
noncomputable def AR (r r':R2) (ta tb tc:TE):TE:=fun σ H Q=>ta σ H fun x H1=>tb σ H1 fun y H2=>r x y H2 fun z H3=>∃k,z = .bl k∧
 (if k=true then tc σ H3 fun w' H4=>r' y w' H4 Q else Q (.bl false) H3)
theorem uD {op MR:CmpOp}{r r':R2} (ho:lh X (compareOp op) r) (Dk:lh X (compareOp MR) r') (ha:PE X a ta) (hb:PE X b tb) (hc:PE X c tc)
 (hm:lastMarks [op,MR] [b,c]=false:=by with_unfolding_all rfl):PE X (.Compare a [op,MR] [b,c] pos) (AR r r' ta tb tc):=by
 intro pins s σ H Q I h
 refine Compare_chain (ck (ha pins s σ H _ I h) fun v s1 ⟨x,H1,I1,r1,q1⟩=>chain_link (ck (hb pins s1 σ H1 _ I1 q1) fun u s2 ⟨y,H2,I2,r2,q2⟩=>
  ck (ho pins s2 σ H2 x y v u _ I2 r1 r2 q2) fun d s3 ⟨z,H3,I3,r3,k,e,q3⟩=>?_)) hm
 subst e
 cases r3
 refine wpAny_truthy_bool ?_
 cases k with
 | false=>exact ite_ff ⟨.bl false,H3,I3,rfl,q3⟩
 | true=>exact ite_tt (chain_last (ck (hc pins s3 σ H3 _ I3 q3) fun w' s4 ⟨z',H4,I4,r4,q4⟩=>Dk pins s4 σ H4 y z' u w' Q I4 r2 r4 q4))
theorem zR {op MR:CmpOp}{r r':R2} (ho:lh X (compareOp op) r) (Dk:lh X (compareOp MR) r') (ha:PE X a ta) (hb:PE X b tb) (hc:PE X c tc)
 (hm:lastMarks [op,MR] [b,c]=false:=by with_unfolding_all rfl):PT X (.Compare a [op,MR] [b,c] pos) (Gk (AR r r' ta tb tc)):=by
 intro pins s σ H Q I h
 refine isTrue_chain (ck (ha pins s σ H _ I h) fun v s1 ⟨x,H1,I1,r1,q1⟩=>test_link (ck (hb pins s1 σ H1 _ I1 q1) fun u s2 ⟨y,H2,I2,r2,q2⟩=>
  ck (ho pins s2 σ H2 x y v u _ I2 r1 r2 q2) fun d s3 ⟨z,H3,I3,r3,k,e,q3⟩=>?_)) hm
 subst e
 cases r3
 refine wpAny_truthy_bool ?_
 cases k with
 | false=>
  obtain⟨k',e',q'⟩:=q3
  cases e'
  exact ite_ff ⟨H3,I3,q'⟩
 | true=>
  refine ite_tt (test_last (ck (hc pins s3 σ H3 _ I3 q3) fun w' s4 ⟨z',H4,I4,r4,q4⟩=>ck (Dk pins s4 σ H4 y z' u w' _ I4 r2 r4 q4) fun d' s5 ⟨z2,H5,I5,r5,k2,e2,q5⟩=>?_))
  subst e2
  cases r5
  exact wpAny_truthy_bool ⟨H5,I5,q5⟩
theorem qf:(sizeLine:Nat)<2^63:=by rw [sizeLine_eq];decide
theorem fY:lh X (binaryOp .Add) (fun x y H Q=>∃i j,x = .str i∧y = .str j∧i.length+j.length≤sizeLine∧Q (.str (i++j)) H):=by
 intro pins s σ H x y v u Q I rx ry h
 obtain⟨i,j,rfl,rfl,hz,q⟩:=h
 obtain⟨t,rfl⟩:=rx
 obtain⟨t',rfl⟩:=ry
 exact add_str (fun t' tk=>⟨.str (i++j),H,I.tok _,⟨_,rfl⟩,q⟩) hz
theorem vals1 {x:V}{us:List Value} (r:Vals [x] us):∃u,us=[u]∧RelV x u:=by
 cases r with
 | cons r1 r2=>cases r2;exact⟨_,rfl,r1⟩
theorem vals2 {x y:V}{us:List Value} (r:Vals [x,y] us):∃u w',us=[u,w']∧RelV x u∧RelV y w':=by
 cases r with
 | cons r1 r2=>
  cases r2 with
  | cons r3 r4=>cases r4;exact⟨_,_,rfl,r1,r3⟩
theorem E6 (hc:X.calm=true):df X (.builtin "max") (fun xs H Q=>∃i j,xs=[.int i,.int j]∧Q (.int (if j > i then j else i)) H):=by
 intro pins s σ H xs us Q I r h
 obtain⟨i,j,rfl,q⟩:=h
 obtain⟨u,w',rfl,⟨t,rfl⟩,⟨t',rfl⟩⟩:=vals2 r
 refine max_two_ints (I.ok.hd hc) fun h' tk k=>⟨_,H,I.kept k,?_,q⟩
 by_cases hj:j > i
 · rw [if_pos hj,if_pos hj];exact⟨_,rfl⟩
 · rw [if_neg hj,if_neg hj];exact⟨_,rfl⟩
theorem EC (hc:X.calm=true):df X (.builtin "min") (fun xs H Q=>∃i j,xs=[.int i,.int j]∧Q (.int (if j<i then j else i)) H):=by
 intro pins s σ H xs us Q I r h
 obtain⟨i,j,rfl,q⟩:=h
 obtain⟨u,w',rfl,⟨t,rfl⟩,⟨t',rfl⟩⟩:=vals2 r
 refine min_two_ints (I.ok.hd hc) fun h' tk k=>⟨_,H,I.kept k,?_,q⟩
 by_cases hj:j<i
 · rw [if_pos hj,if_pos hj];exact⟨_,rfl⟩
 · rw [if_neg hj,if_neg hj];exact⟨_,rfl⟩
theorem EK:df X (.type "int") (fun xs H Q=>(∃i,xs=[.int i]∧Q (.int i) H)∨∃k,xs=[.bl k]∧Q (.int (if k then 1 else 0)) H):=by
 intro pins s σ H xs us Q I r h
 rcases h with ⟨i,rfl,q⟩|⟨k,rfl,q⟩
 · obtain⟨u,rfl,t,rfl⟩:=vals1 r
   exact call_int_int ⟨.int i,H,I,⟨_,rfl⟩,q⟩
 · obtain⟨u,rfl,r1⟩:=vals1 r
   cases r1
   exact call_int_bool ⟨.int (if k then 1 else 0),H,I.tok _,⟨_,rfl⟩,q⟩
end
end L2
namespace L2
open PySem PySem.Spec PyProof.Rows
structure HE (h:Heap) (x dx C:Addr) (mA:Str→Option Value):Prop where
 obj:h.get? x=some (PySem.W.instObj C dx)
 ns:h.Ns1 dx mA
 ne:dx≠x
theorem Fd {h:Heap}{dx:Addr}{mA:Str→Option Value} (n:h.Ns1 dx mA):∃od,h.get? dx=some od∧∀name,PySem.W.lookIn name od=some (mA name):=by
 obtain⟨o,es,ep,ho,hd,hk,_,hm⟩:=n
 refine⟨o,ho,fun name=>?_⟩
 have e:=hm name
 unfold nsFind findBy at e
 rw [←Array.find?_toList] at e
 unfold PySem.W.lookIn
 rw [hd]
 dsimp only
 split
 · rename_i y q
   rw [q] at e
   exact congrArg some e
 · rename_i q
   rw [q] at e
   have a:es.toList.any (·.refKey)=false:=by
    rw [List.any_eq_false]
    intro y hy
    obtain⟨z,t,UQ⟩:=hk y (Array.mem_toList_iff.mp hy)
    simp [DictEntry.refKey,UQ]
   have a':¬es.toList.any (·.refKey)=true:=by rw [a];exact Bool.false_ne_true
   rw [if_neg a']
   exact congrArg some e
theorem HE.look {h:Heap}{x dx C:Addr}{mA:Str→Option Value} (I:HE h x dx C mA):∃od,PySem.W.InstAt h x (PySem.W.instObj C dx) C (some od)∧∀name,PySem.W.lookIn name od=some (mA name):=
 let ⟨od,ho,hl⟩:=Fd I.ns
 ⟨od,⟨I.obj,rfl,rfl,ho⟩,hl⟩
section
variable {prog : Program} {w : World} {A : Around} {E : Value→Shared→Prop} {s : Shared} {K : PySem.W.Frag} {x dx C f : Addr} {mA : Str→Option Value} {name : Str} {v : Value}
theorem Dy {ns:List Str}{Q:Unit→Shared→Prop} (X:K.In s.heap) (I:HE s.heap x dx C mA)
 (hs:PySem.W.findIn K (.ref C) "__setattr__"=some (some (.builtin "object.__setattr__"))) (hp:PySem.W.plainOver K C=true) (ht:PySem.W.takerIn K C name=some none) (hh:PySem.W.hasDictIn K C=true)
 (hw:PySem.Within mA ns) (hsz:ns.length≤sizeLine)
 (h:∀h',HE h' x dx C (fun y=>if y=name then some v else mA y)→Heap.SameBut dx s.heap h'→Q () {s with heap:=h',toks:=s.toks+2}) :
 wpAny (model prog w) A (setAttr (.ref x) name v) Q E s:=by
 obtain⟨od,J,hl⟩:=I.look
 refine PySem.W.set_plain X J hs (PySem.W.osa_open (s:={s with toks:=s.toks+1}) (r:=none) X J hp ht fun b=>?_)
 obtain⟨cd,hc,hd'⟩:=PySem.W.any_some hh
 have hx:s.heap.get? x=some ⟨.ref C,some dx,.plain,#[]⟩:=I.obj
 refine wpAny_bind (wpAny_pure (wpAny_bind (wpAny_bind (wpAny_loadPart hx (wpAny_bind (PySem.W.Looks.here (s:={s with toks:=s.toks+1}) (PySem.W.looks_clsIn X hc) ?_))))))
 rw [hd']
 refine wpAny_pure (a:=some dx) (wpAny_bind (wpAny_pure (wpAny_bind ?_)))
 refine wpAny_nsSet1 (s:={s with toks:=s.toks+1}) I.ns fun h' uW jf=>?_
 obtain⟨oD,esD,epD,hoD,hdD,hcD⟩:=uW.count (PySem.Within.cons name v hw)
 refine wpAny_bind (wpAny_lookBehind hoD (by rw [hdD];exact pastItsLine_dict (Nat.le_trans hcD (by rw [List.length_cons];omega))) ?_)
 exact wpAny_pure (h _ ⟨(jf.2 _ (Ne.symm I.ne)).trans I.obj,uW,I.ne⟩ jf)
end
theorem su.some_of {v:V}{o:Option Value} (r:su (some v) o):∃u,o=some u∧RelV v u:=by
 cases o with
 | none=>exact(show False from r).elim
 | some u=>exact⟨u,rfl,r⟩
section
variable {P : Program} {w : World} {H H' : Hp} {h h' : Heap} {a C dx : Addr} {fs ZC : List (Str × V)}
theorem JT (aX:iW P w H h) (e:H a=some (.ins C dx fs)):∃mA,HE h a dx C mA∧(∀f,su (fs.lookup f) (mA f))∧PySem.Within mA (fs.map (·.1))∧fs.length≤1000∧H dx=some (.own a):=by
 obtain⟨d,z,ne,ob,mA,n,r,q⟩:=(show cv P w H h a (.ins C dx fs) from aX a _ e)
 exact⟨mA,⟨ob,n,ne⟩,r,q,z,d⟩
end
structure Cls (K:PySem.W.Frag) (C:Addr):Prop where
 pg:PySem.W.plainGet K C Str.empty=true
 hd:PySem.W.hasDictIn K C=true
 po:PySem.W.plainOver K C=true
 sa:PySem.W.findIn K (.ref C) "__setattr__"=some (some (.builtin "object.__setattr__"))
theorem Cls.get {K:PySem.W.Frag}{C:Addr} (c:Cls K C) (f:Str):PySem.W.plainGet K C f=true:=c.pg
structure Con (K:PySem.W.Frag) (C:Addr) (f:Str) (v:V) (u:Value):Prop where
 at_:PySem.W.findIn K (.ref C) f=some (some u)
 rel:RelV v u
 get:PySem.W.specialIn K u "__get__"=some none
 cp:PySem.W.copiedNames.contains f=false
structure Meth (K:PySem.W.Frag) (C:Addr) (m:Str) (f:Addr):Prop where
 at_:PySem.W.findIn K (.ref C) m=some (some (.ref f))
 fn:PySem.W.isFn K (.ref f)=true
 kp:PySem.W.keepIn K (.ref f)=true
section
variable {X : Cx} {pins : List (Addr × Obj)} {σ : St} {H : Hp} {s : Shared} {a C dx : Addr} {fs : List (Str × V)} {f : Str} {v : V} {A : Around} {E : Value→Shared→Prop}
theorem Inv.made (I:Inv X pins σ H s):Inv X pins σ (upd (upd H s.heap.objs.size (.own (s.heap.objs.size+1))) (s.heap.objs.size+1) (.ins C s.heap.objs.size []))
 {s with heap:=(s.heap.push PySem.W.emptyDict).push (PySem.W.instObj C s.heap.objs.size)}:=by
 have e1:(s.heap.push PySem.W.emptyDict).get? s.heap.objs.size=some PySem.W.emptyDict:=Heap.get?_push_size s.heap rfl
 have e2:((s.heap.push PySem.W.emptyDict).push (PySem.W.instObj C s.heap.objs.size)).get? (s.heap.objs.size+1)=some (PySem.W.instObj C s.heap.objs.size):=by
  have:=Heap.get?_push_size (s.heap.push PySem.W.emptyDict) (o:=PySem.W.instObj C s.heap.objs.size) rfl
  rwa [Heap.size_push] at this
 have e3:(s.heap.push PySem.W.emptyDict).Ns s.heap.objs.size (fun _=>none):=⟨PySem.W.emptyDict,#[],_,e1,rfl,(fun e he=>absurd he (by simp)),fun _=>rfl⟩
 have I1:=I.laid (a:=s.heap.objs.size) (o:=.own (s.heap.objs.size+1)) (h':=s.heap.push PySem.W.emptyDict) (t':=s.toks) (fun b u q=>Heap.get?_push_of_some _ q) (Nat.le_refl _) ⟨_,e1⟩
 refine I1.laid (a:=s.heap.objs.size+1) (o:=.ins C s.heap.objs.size []) (t':=s.toks) (fun b u q=>Heap.get?_push_of_some _ q) (Nat.le_of_eq (Heap.size_push _ _)) ?_
 have ne:s.heap.objs.size≠s.heap.objs.size+1:=Nat.ne_of_lt (Nat.lt_succ_self _)
 refine⟨by rw [bg ne,bI],Nat.zero_le _,ne,e2,fun _=>none,(Heap.Ns1.of_empty e3).at fun o q=>Heap.get?_push_of_some _ q,fun _=>True.intro,fun y hy=>absurd rfl hy⟩
end
section
variable {X : Cx} {o e value : Expr} {f : Str} {pos pos' YO : Pos} {ta tv : TE}
end
section
variable {X : Cx} {pins : List (Addr × Obj)} {σ : St} {H : Hp} {s : Shared} {A : Around} {E : Value→Shared→Prop} {Q : Value→Shared→Prop} {c : Value} {b : Bool}
inductive sC (K:PySem.W.Frag) (H:Hp):V→Value→Prop where
 | non:sC K H .non (.type "NoneType")
 | bl (x:Bool):sC K H (.bl x) (.type "bool")
 | int (i:Int):sC K H (.int i) (.type "int")
 | str (x:Str):sC K H (.str x) (.type "str")
 | flt (x:UInt64):sC K H (.flt x) (.type "float")
 | lst {a:Addr}{xs:List V} (e:H a=some (.lst xs)):sC K H (.ref a) (.type "list")
 | frz {a:Addr}{o:Obj}{xs:List V} (e:H a=some (.frz o (.lst xs))):sC K H (.ref a) (.type "list")
 | tup {a:Addr}{xs:List V} (e:H a=some (.tup xs)):sC K H (.ref a) (.type "tuple")
 | dK {a:Addr}{aS:List (Key×V)} (e:H a=some (.dK aS)):sC K H (.ref a) (.type "dict")
 | dT {a:Addr}{aS:List (List Key×V)} (e:H a=some (.dT aS)):sC K H (.ref a) (.type "dict")
 | ins {a C dx:Addr}{fs:List (Str×V)} (e:H a=some (.ins C dx fs)) (cl:Cls K C) (ha:PySem.W.findIn K (.ref C) "__class__"=some (some (.builtin "object.__class__")))
  (hn:PySem.W.specialIn K (.builtin "object.__class__") "__get__"=some (some (.builtin "getset_descriptor.__get__"))) (htk:PySem.W.takesIn K (.builtin "object.__class__")=some true)
  (hm:PySem.W.mroIn K C (.type "object")=some true):sC K H (.ref a) (.ref C)
theorem ig {x:V}{u t:Value} (I:Inv X pins σ H s) (rx:RelV x u) (ty:sC X.K H x t) (e:PySem.W.kitOne X.K t c=some b) (h:∀tk,Q (.bool b) {s with toks:=tk}) :
 wpAny (model X.prog X.w) A (call (.builtin "isinstance") [u,c]) Q E s:=by
 cases ty with
 | non=>cases (show u=Value.none from rx);exact PySem.W.kia_one PySem.W.kitx_none I.xk True.intro e (fun z=>nomatch z) h
 | bl y=>cases (show u=Value.bool y from rx);exact PySem.W.kia_one PySem.W.kitx_bool I.xk True.intro e (fun z=>nomatch z) h
 | int i=>obtain⟨t,q⟩:=(show ∃t,u=Value.int i t from rx);cases q;exact PySem.W.kia_one PySem.W.kitx_int I.xk True.intro e (fun z=>nomatch z) h
 | str y=>obtain⟨t,q⟩:=(show ∃t,u=Value.str y t from rx);cases q;exact PySem.W.kia_one PySem.W.kitx_str I.xk True.intro e (fun z=>nomatch z) h
 | flt y=>obtain⟨t,q⟩:=(show ∃t,u=Value.float y t from rx);cases q;exact PySem.W.kia_one PySem.W.kitx_float I.xk True.intro e (fun z=>nomatch z) h
 | @lst a xs ea=>
  cases (show u=Value.ref a from rx)
  obtain⟨_,_,n,_,h1⟩:=(show cv X.prog X.w H s.heap a (.lst xs) from I.aX a _ ea)
  exact PySem.W.kia_one PySem.W.kitx_list I.xk ⟨_,h1,rfl⟩ e (fun z=>nomatch z) h
 | @frz a ob xs ea=>
  cases (show u=Value.ref a from rx)
  obtain⟨_,_,_,n,_,h1⟩:=(show cv X.prog X.w H s.heap a (.frz ob (.lst xs)) from I.aX a _ ea)
  exact PySem.W.kia_one PySem.W.kitx_list I.xk ⟨_,h1,rfl⟩ e (fun z=>nomatch z) h
 | @tup a xs ea=>
  cases (show u=Value.ref a from rx)
  obtain⟨_,_,_,p⟩:=(show cv X.prog X.w H s.heap a (.tup xs) from I.aX a _ ea)
  obtain⟨o,h1,h2,_⟩:=p
  exact PySem.W.kia_one PySem.W.kitx_tuple I.xk ⟨o,h1,h2⟩ e (fun z=>nomatch z) h
 | @dK a aS ea=>
  cases (show u=Value.ref a from rx)
  obtain⟨_,_,vs,_,p⟩:=(show cv X.prog X.w H s.heap a (.dK aS) from I.aX a _ ea)
  obtain⟨o,es,ep,h1,h2,_⟩:=p
  exact PySem.W.kia_one PySem.W.kitx_dict I.xk ⟨o,h1,h2.1⟩ e (fun z=>nomatch z) h
 | @dT a aS ea=>
  cases (show u=Value.ref a from rx)
  obtain⟨_,_,xs,_,o,es,ep,h1,h2,_⟩:=(show cv X.prog X.w H s.heap a (.dT aS) from I.aX a _ ea)
  exact PySem.W.kia_one PySem.W.kitx_dict I.xk ⟨o,h1,h2.1⟩ e (fun z=>nomatch z) h
 | @ins a C dx fs ea cl ha hn htk hm=>
  cases (show u=Value.ref a from rx)
  obtain⟨mA,O,_⟩:=JT I.aX ea
  obtain⟨od,J,_⟩:=O.look
  exact PySem.W.kia_one (PySem.W.kitx_own (cl.get _) cl.hd ha hn htk hm) I.xk J e (fun z=>nomatch z) h
end
end L2
namespace L2
open PySem PySem.Spec PyProof.Rows
structure gy (k:Nat) (A:Around):Prop where
 hd:A.handled=none
 dp:A.depth+3*k+5<recursionLimit
 un:A.units+16*k+200<cLine
 gd:A.guards=some []
theorem gy.mono {j k:Nat}{A:Around} (r:gy k A) (h:j≤k):gy j A:=⟨r.hd,by have:=r.dp;omega,by have:=r.un;omega,r.gd⟩
theorem gy.deeper {k:Nat}{A:Around} (r:gy (k+1) A) (env:Env):gy k (A.deeper env):=
 ⟨r.hd,by have:=r.dp;show A.depth+1+3*k+5<_;omega,by have:=r.un;show A.units+3+16*k+200<_;omega,r.gd⟩
theorem gy.in1 {k:Nat}{A:Around} (r:gy (k+1) A):gy k A.in1:=
 ⟨r.hd,by have:=r.dp;show A.depth+3*k+5<_;omega,by have:=r.un;show A.units+1+16*k+200<_;omega,r.gd⟩
theorem gy.depth {k:Nat}{A:Around} (r:gy k A):A.depth<recursionLimit:=by have:=r.dp;omega
theorem gy.units {k:Nat}{A:Around} (r:gy k A):A.units+64<cLine:=by have:=r.un;omega
noncomputable def Nz:TA:=fun _ H Q=>Q [] H
noncomputable def HG (ta:TE) (tr:TA):TA:=fun σ H Q=>ta σ H fun x H1=>tr σ H1 fun xs H2=>Q (x::xs) H2
section
variable {X : Cx} {e : Expr} {es : List Expr} {te : TE} {t : TA} {pos : Pos}
theorem af:PA X [] Nz:=fun _ _ _ _ H Q I h=>Calls.spliced_nil ⟨[],H,I,.nil,h⟩
theorem aa (ha:PE X e te) (hr:PA X es t) (hs:starEach (e::es) X.env=(false,eval e X.env)::starEach es X.env:=by rfl):PA X (e::es) (HG te t):=by
 intro pos pins s σ H Q I h
 rw [hs]
 show wpAny _ _ (spliced ((false,eval e X.env)::backTo pos (starEach es X.env))) _ _ s
 refine Calls.spliced_cons (ck (ha pins s σ H _ I h) fun u s1 ⟨x,H1,I1,r1,q1⟩=>?_)
 exact ck (hr pos pins s1 σ H1 _ I1 q1) fun us s2 ⟨xs,H2,I2,r2,q2⟩=>⟨x::xs,H2,I2,.cons r1 r2,q2⟩
noncomputable def NJ (t:TA):TE:=fun σ H Q=>t σ H fun xs H1=>xs.length≤sizeLine∧∀p,H1 p=none→Q (.ref p) (upd H1 p (.tup xs))
noncomputable def RW (t:TA):TE:=fun σ H Q=>t σ H fun xs H1=>xs.length≤sizeLine∧∀p,H1 p=none→Q (.ref p) (upd H1 p (.lst xs))
theorem aV {x1} (h:PA X es t):PE X (.Tuple es x1 pos) (NJ t):=by
 intro pins s σ H Q I hq
 refine wpAny_Tuple_spliced (ck (h pos pins s σ H _ I hq) fun us s1 ⟨xs,H1,I1,r,z,q⟩=>⟨by rw [←r.length];exact z,?_⟩)
 have hf:H1 s1.heap.objs.size=none:=I1.aX.fresh (Nat.le_refl _)
 refine⟨.ref s1.heap.objs.size,upd H1 s1.heap.objs.size (.tup xs),I1.laid (t':=s1.toks) (fun b u e=>Heap.get?_push_of_some _ e) (Nat.le_refl _) ?_,rfl,q _ hf⟩
 exact⟨z,us,r,⟨_,Heap.get?_push_size _ rfl,rfl,_,rfl⟩⟩
theorem bb (h:PA X es t):PE X (.List es pos) (RW t):=by
 intro pins s σ H Q I hq
 refine wpAny_List_spliced (ck (h pos pins s σ H _ I hq) fun us s1 ⟨xs,H1,I1,r,z,q⟩=>⟨by rw [←r.length];exact z,?_⟩)
 have hf:H1 s1.heap.objs.size=none:=I1.aX.fresh (Nat.le_refl _)
 refine⟨.ref s1.heap.objs.size,upd H1 s1.heap.objs.size (.lst xs),I1.laid (t':=s1.toks) (fun b u e=>Heap.get?_push_of_some _ e) (Nat.le_refl _) ?_,rfl,q _ hf⟩
 exact⟨z,us,0,r,Heap.get?_push_size _ rfl⟩
end
noncomputable abbrev Sp:=List V→Hp→VK→XK→Prop
noncomputable abbrev CXT:=List Env→Hp→Shared→XK→Value→Shared→Prop
structure BF (P:Program) (w:World) (K:PySem.W.Frag) (mg:Str→Option Value) (base:Heap) (A:Around) (outer:List Env) (s:Shared) (H:Hp):Prop where
 frames:A.frames=some outer
 mod:Mod K mg base
 bs:∀b o,base.get? b=some o→s.heap.get? b=some o∧H b=none
 Bo:base.objs.size≤s.heap.objs.size
 lP:s.heap.FunFrames base outer
 Fu:∀b∈kO outer,H b=none
 aX:iW P w H s.heap
 bare:AllBare s.gens
noncomputable def CE (outer:List Env) (P:Program) (w:World) (H:Hp) (s:Shared) (Q:VK) (u:Value) (s':Shared):Prop:=
 ∃v H',s'.os=s.os∧AllBare s'.gens∧Un (kO outer) [] H H' s.heap s'.heap∧iW P w H' s'.heap∧RelV v u∧Q v H'
noncomputable def CR (CX:CXT) (outer:List Env) (P:Program) (w:World) (H:Hp) (s:Shared) (Q:VK) (E:XK) (r:Result) (s':Shared):Prop:=
 match r with
 | .ok (.ret u)=>CE outer P w H s Q u s'
 | .ok _=>False
 | .error e=>CX outer H s E e s'
structure bz (P:Program) (w:World) (K:PySem.W.Frag) (mg:Str→Option Value) (base:Heap) (CX:CXT) (k:Nat) (f:Addr) (fd:FuncData) (ps:List Str) (sp:Sp):Prop where
 len:∀vs H Q E,sp vs H Q E→vs.length=ps.length
 run:∀(A:Around) (outer:List Env) (s:Shared) (H:Hp) (args:Args) (us:List Value) (vs:List V) (Q:VK) (E:XK),gy k A→BF P w K mg base A outer s H→BindsTo s fd args (ps.zip us)→Vals vs us→sp vs H Q E→
  codeAny (model P w) A (.call (.ref f) args) (CR CX outer P w H s Q E) s
theorem bz.mono {P:Program}{w:World}{K:PySem.W.Frag}{mg:Str→Option Value}{base:Heap}{CX:CXT}{j k:Nat}{f:Addr}{fd:FuncData}{ps:List Str}{sp:Sp} (F:bz P w K mg base CX j f fd ps sp) (h:j≤k) :
 bz P w K mg base CX k f fd ps sp:=⟨F.len,fun A outer s H args us vs Q E hr=>F.run A outer s H args us vs Q E (hr.mono h)⟩
theorem BF.in1 {P:Program}{w:World}{K:PySem.W.Frag}{mg:Str→Option Value}{base:Heap}{A:Around}{outer:List Env}{s:Shared}{H:Hp} (e:BF P w K mg base A outer s H) :
 BF P w K mg base A.in1 outer s H:=⟨e.frames,e.mod,e.bs,e.Bo,e.lP,e.Fu,e.aX,e.bare⟩
section
variable {X : Cx} {pins : List (Addr × Obj)} {σ : St} {H : Hp} {s s' : Shared}
theorem Inv.aeu (I:Inv X pins σ H s):BF X.prog X.w X.K X.mg X.base X.A X.stack s H:=
 ⟨I.ok.frames,I.ok.mod,I.bs,Nat.le_trans I.ok.Bo I.sz,I.stack,I.sM,I.aX,I.bare⟩
theorem Inv.after {Q:VK}{u:Value} (I:Inv X pins σ H s) (h:CE X.stack X.prog X.w H s Q u s'):EP X pins σ Q u s':=by
 obtain⟨v,H',os,bare,un,aX,r,q⟩:=h
 obtain⟨hh,g,d,t,os'⟩:=s'
 obtain rfl:os'=s.os:=os
 exact⟨v,H',I.call (h':=hh) (g':=g) (d':=d) (t':=t) (ch:=[]) un aX bare (fun b z=>absurd z (by simp)),r,q⟩
end
noncomputable def L7 (sp:Sp) (Fq:List V) (E:XK) (t:TA):TE:=fun σ H Q=>t σ H fun vs H1=>sp (vs++Fq) H1 Q E
noncomputable def Binds (K:PySem.W.Frag) (fd:FuncData) (ps:List Str) (ds:List Value):Prop:=
 ∀(s:Shared) (us:List Value),K.In s.heap→(us++ds).length=ps.length→BindsTo s fd ⟨us,[]⟩ (ps.zip (us++ds))
theorem Binds.all {K:PySem.W.Frag}{fd:FuncData}{ps:List Str} (h:∀us:List Value,us.length=ps.length→bindArgs fd ⟨us,[]⟩=pure (ps.zip us)):Binds K fd ps []:=fun s us _ hl=>by
 rw [List.append_nil] at hl ⊢
 exact .of_eq (h us hl)
noncomputable def Passes (CX:CXT) (X:Cx) (E:XK):Prop:=∀(pins:List (Addr×Obj)) (σ:St) (H:Hp) (s:Shared) (e:Value) (s':Shared),Inv X pins σ H s→CX X.stack H s E e s'→X.xe e s'
section
variable {X : Cx} {CX : CXT} {k : Nat} {f C : Addr} {fd : FuncData} {ps : List Str} {sp : Sp} {Fq : List V} {ds : List Value} {E : XK} {x m : Str} {p pos apos : Pos} {e o : Expr} {es : List Expr} {ta : TE} {t : TA}
theorem MP {pins:List (Addr×Obj)}{σ:St}{H:Hp}{s:Shared}{Q:VK}{us:List Value}{vs:List V} (F:bz X.prog X.w X.K X.mg X.base CX k f fd ps sp) (hr:gy k X.A) (hb:Binds X.K fd ps ds) (hd:Vals Fq ds) (hx:Passes CX X E)
 (I:Inv X pins σ H s) (r:Vals vs us) (h:sp (vs++Fq) H Q E):wpAny (model X.prog X.w) X.A (call (.ref f) us) (EP X pins σ Q) X.xe s:=by
 have r2:Vals (vs++Fq) (us++ds):=r.append hd
 have hl:(us++ds).length=ps.length:=by rw [←r2.length];exact F.len _ _ _ _ h
 refine wpAny_call (codeAny_mono (F.run X.A X.stack s H ⟨us,[]⟩ (us++ds) (vs++Fq) Q E hr I.aeu (hb s us I.xk hl) r2 h) fun r s' hq=>?_)
 cases r with
 | error e=>exact hx pins σ H s e s' I hq
 | ok fl=>
  cases fl with
  | ret u=>exact I.after hq
  | next=>exact False.elim hq
  | brk=>exact False.elim hq
  | cont=>exact False.elim hq
theorem ao (F:bz X.prog X.w X.K X.mg X.base CX k f fd ps sp) (hr:gy k X.A) (hg:Gl X x) (hm:X.mg x=some (.ref f)) (hk:PySem.W.keepIn X.K (.ref f)=true) (hb:Binds X.K fd ps ds) (hd:Vals Fq ds) (hx:Passes CX X E)
 (ha:PA X (e::es) t) (N4:(x==("__debug__":Str))=false:=by decide) (he:starEach (e::es) X.env=(false,eval e X.env)::starEach es X.env:=by rfl) (nJ:(backTo pos (starEach es X.env)).any (·.1)=false:=by rfl) :
 PE X (.Call (.Name x p) (e::es) [] pos) (L7 sp Fq E t):=by
 intro pins s σ H Q I h
 refine wpAny_Call_Name_kw (pE I hg hm ?_ N4)
 refine PySem.W.callWith_K (h₀:=X.base) I.ok.mod.Qx hk (ck (ha pos pins s σ H _ I h) fun us s1 ⟨vs,H1,I1,r,q⟩=>⟨I1.xk,?_⟩) he nJ
 exact MP F hr hb hd hx I1 r q
structure Mk (K:PySem.W.Frag) (C f:Addr):Prop where
 makes:PySem.W.makesIn K C=true
 init:PySem.W.findIn K (.ref C) "__init__"=some (some (.ref f))
 fn:PySem.W.isFn K (.ref f)=true
 kp:PySem.W.keepIn K (.ref C)=true
end
section
variable {X : Cx} {CX : CXT} {k : Nat} {f C : Addr} {fd : FuncData} {ps ks : List Str} {sp : Sp} {E : XK} {x m : Str} {p pos apos aik : Pos} {e o : Expr} {es : List Expr} {kws : List Keyword} {te ta : TE} {t tk : TA} {nm : Option Str}
structure acE (K:PySem.W.Frag) (fd:FuncData) (ps ks:List Str) (g:List Value→List Value→List Value) (gV:List V→List V→List V):Prop where
 to:∀(s:Shared) (us ws:List Value),K.In s.heap→(g us ws).length=ps.length→BindsTo s fd ⟨us,ks.zip ws⟩ (ps.zip (g us ws))
 rel:∀{vs:List V}{us:List Value}{zs:List V}{ws:List Value},Vals vs us→Vals zs ws→Vals (gV vs zs) (g us ws)
variable {g : List Value→List Value→List Value} {gV : List V→List V→List V}
end
structure aM (N P:List Str) (sc:Scope):Prop where
 kind:sc.kind = .function
 co:sc.isCoroutine=false
 gen:sc.isGenerator=false
 nd:N.Nodup
 pre:N.take P.length=P
 par:∀x∈P,sc.names.lookup x=some .local ∨ sc.names.lookup x=some .cell
 MC:∀y∈sc.names,y.2 ≠ .free
theorem vR {kindOf:Str→Option NameKind}{x:Str}:∀{binds:List (Str×Value)}{m:Str→Option Value},(∀v,(x,v)∉binds)→bindL kindOf binds m x=m x
 | [],_,_=>rfl
 | (n,v)::r,m,h=>by
  unfold bindL
  rw [vR fun w hw=>h w (List.mem_cons_of_mem _ hw)]
  split
  · have:x≠n:=by rintro rfl;exact h v List.mem_cons_self
    simp [this]
  · rfl
theorem wL {kindOf:Str→Option NameKind}{x:Str}:∀{binds:List (Str×Value)}{m:Str→Option Value},(∀v,(x,v)∉binds)→bindC kindOf binds m x=m x
 | [],_,_=>rfl
 | (n,v)::r,m,h=>by
  unfold bindC
  rw [wL fun w hw=>h w (List.mem_cons_of_mem _ hw)]
  split
  · rfl
  · have:x≠n:=by rintro rfl;exact h v List.mem_cons_self
    simp [this]
theorem wA {kindOf:Str→Option NameKind}{x:Str}{v:Value}:∀{P:List Str}{vs:List Value}{i:Nat}{m:Str→Option Value},P.Nodup→P[i]? = some x→vs[i]? = some v→kindOf x=some .local →
 bindL kindOf (P.zip vs) m x=some v
 | [],_,_,_,_,h,_,_=>by simp at h
 | _::_,[],_,_,_,_,h,_=>by simp at h
 | p::P,w::vs,0,m,nd,h1,h2,hk=>by
  simp at h1 h2;subst h1;subst h2
  show bindL kindOf ((p,w)::P.zip vs) m p=_
  unfold bindL
  rw [vR fun v hv=>(List.nodup_cons.mp nd).1 (List.of_mem_zip hv).1,if_pos hk]
  simp
 | p::P,w::vs,i+1,m,nd,h1,h2,hk=>by
  show bindL kindOf ((p,w)::P.zip vs) m x=_
  unfold bindL
  exact wA (i:=i) (List.nodup_cons.mp nd).2 (by simpa using h1) (by simpa using h2) hk
theorem wx {kindOf:Str→Option NameKind}{x:Str}{v:Value}:∀{P:List Str}{vs:List Value}{i:Nat}{m:Str→Option Value},P.Nodup→P[i]? = some x→vs[i]? = some v→kindOf x≠some .local →
 bindC kindOf (P.zip vs) m x=some v
 | [],_,_,_,_,h,_,_=>by simp at h
 | _::_,[],_,_,_,_,h,_=>by simp at h
 | p::P,w::vs,0,m,nd,h1,h2,hk=>by
  simp at h1 h2;subst h1;subst h2
  show bindC kindOf ((p,w)::P.zip vs) m p=_
  unfold bindC
  rw [wL fun v hv=>(List.nodup_cons.mp nd).1 (List.of_mem_zip hv).1,if_neg hk]
  simp
 | p::P,w::vs,i+1,m,nd,h1,h2,hk=>by
  show bindC kindOf ((p,w)::P.zip vs) m x=_
  unfold bindC
  exact wx (i:=i) (List.nodup_cons.mp nd).2 (by simpa using h1) (by simpa using h2) hk
noncomputable def start (N:List Str) (vs:List V):St:=vs.map some++List.replicate (N.length - vs.length) none
noncomputable def xD (CX:CXT) (P:Program) (w:World) (K:PySem.W.Frag) (mg:Str→Option Value) (base:Heap) (N:List Str) (qual:Str) (scope:Scope) (f:Addr) (cd:Value) (A:Around) (outer:List Env) (s:Shared) (H:Hp) (E:XK):Cx where
 prog:=P
 w:=w
 K:=K
 mg:=mg
 base:=base
 A:=A.deeper (envOfC qual scope s.heap.objs.size f cd)
 N:=N
 s₀:=s
 H₀:=H
 env:=envOfC qual scope s.heap.objs.size f cd
 outer:=outer
 stack:=envOfC qual scope s.heap.objs.size f cd::outer
 ex:=[]
 calm:=true
 fn:=fun _=>true
 pn:=[]
 xe:=fun e s'=>wpAny (model P w) (A.deeper (envOfC qual scope s.heap.objs.size f cd)) (leaving (envOfC qual scope s.heap.objs.size f cd) e) (fun _ KJ=>CX outer H s E e KJ) (fun e' KJ=>CX outer H s E e' KJ) s'
theorem zS {sc:Scope}{n:Nat}{x:Str} (h:sc.names.lookup x=some .cell):∃c,(cellsFrom n sc.names []).lookup x=some c:=by
 have q:=PySem.W.cellsFrom_some sc.names n [] (.inl h)
 exact Option.isSome_iff_exists.mp q
theorem En {CX:CXT}{P:Program}{w:World}{K:PySem.W.Frag}{mg:Str→Option Value}{base:Heap}{N ps:List Str}{qual:Str}{scope:Scope}{f:Addr}{cd:Value}{A:Around}{outer:List Env}{s s1:Shared}{H:Hp}{E:XK}{us:List Value}{vs:List V}
 (S:aM N ps scope) (hd:A.handled=none) (e0:BF P w K mg base A outer s H) (hl:vs.length=ps.length) (r:Vals vs us)
 (x:InCallC s s.heap.objs.size (bindL (envOfC qual scope s.heap.objs.size f cd).kindOf (ps.zip us) fun _=>none) (cellsFrom (s.heap.objs.size+1) scope.names []) (bindC (envOfC qual scope s.heap.objs.size f cd).kindOf (ps.zip us) fun _=>none) s1) :
 Inv (xD CX P w K mg base N qual scope f cd A outer s H E) [] (start N vs) H s1:=by
 have nJ:ps.length≤N.length:=by have:=congrArg List.length S.pre;rw [List.length_take] at this;omega
 obtain⟨h1,tk,rfl,hk⟩:=x.done
 have P6:∀b:Addr,b∉(xD CX P w K mg base N qual scope f cd A outer s H E).ex:=fun b z=>absurd (show b∈([]:List Addr) from z) (by simp)
 refine⟨⟨e0.mod,S.kind,rfl,rfl,Nat.le_refl _,fun y z c h1 h2=>?_,fun y hy=>?_,fun y c _ h=>?_,fun _=>hd,Around.frames_deeper e0.frames,.inr ⟨rfl,rfl⟩,fun b z=>absurd z (P6 b),e0.bs,e0.Bo,fun b _ _=>P6 b,fun b z=>absurd z (P6 b),e0.lP,e0.Fu⟩,
  rfl,e0.bare,Un.kept hk,⟨_,x.toInCall.ns,fun i y v h1 h2 h3=>?_⟩,fun y c h=>⟨_,x.cell y c h⟩,e0.aX.fresh (Nat.le_refl _),fun y c h=>?_,fun p hp=>absurd (show p∈([]:List (Addr×Obj)) from hp) (by simp),e0.aX.kept hk,?_⟩
 · exact name_of_addr x.apart (PySem.mem_of_lookup h1) (PySem.mem_of_lookup h2)
 · have hy:scope.names.lookup y=some .cell∨scope.names.lookup y=some .free:=hy
   rcases hy with hy|hy
   · exact zS hy
   · exact absurd rfl (S.MC _ (PySem.mem_of_lookup hy))
 · exact Nat.le_of_lt (x.above y c (PySem.mem_of_lookup h))
 · have hi:i<vs.length:=by
    unfold start at h2
    by_cases hi:i<vs.length
    · exact hi
    · rw [List.getElem?_append_right (by simpa using hi)] at h2
      rw [List.getElem?_replicate] at h2
      split at h2<;>cases h2
   have ha:vs[i]? = some v:=by
    unfold start at h2
    rw [List.getElem?_append_left (by simpa using hi),List.getElem?_map] at h2
    cases e:vs[i]? with
    | none=>rw [e] at h2;cases h2
    | some a=>rw [e] at h2;cases h2;rfl
   obtain⟨u,hu,rv⟩:=r.get ha
   have hp:ps[i]? = some y:=by
    rw [←S.pre,List.getElem?_take_of_lt (by omega)];exact h1
   have ndP:ps.Nodup:=by rw [←S.pre];exact S.nd.sublist (List.take_sublist _ _)
   refine⟨u,rv,?_⟩
   rcases S.par y (List.mem_of_getElem? hp) with k|k
   · exact .inl ⟨k,wA ndP hp hu k⟩
   · obtain⟨c,e⟩:=zS (n:=s.heap.objs.size+1) k
     refine .inr ⟨.inl k,c,e,?_⟩
     have q:=x.cell y c e
     rw [wx ndP hp hu (by show scope.names.lookup y≠_;rw [k];decide)] at q
     exact q
 · exact e0.aX.fresh (Nat.le_of_lt (x.above y c (PySem.mem_of_lookup h)))
 · unfold start
   show _=N.length
   rw [List.length_append,List.length_map,List.length_replicate]
   omega
theorem L0 {CX:CXT}{P:Program}{w:World}{K:PySem.W.Frag}{mg:Str→Option Value}{base:Heap}{k:Nat}{f:Addr}{name qual:Str}{params:Arguments}{body:List Stmt}{scope:Scope}{dV kV doc pm bJ ct oc:Value}{an od:Option Addr}
 {JI:Array (Option Value)}{N ps:List Str}{sp:Sp} (lk:K.lookup f=some ⟨oc,od,.func (PySem.W.fnOf name qual params body scope dV kV doc pm an bJ ct),JI⟩) (EI:PySem.W.codeIn K bJ qual=true) (S:aM N ps scope)
 (len:∀vs H Q E,sp vs H Q E→vs.length=ps.length)
 (zY:∀(A:Around) (outer:List Env) (s:Shared) (H:Hp) (vs:List V) (Q:VK) (E:XK),gy k (A.deeper (envOfC qual scope s.heap.objs.size f bJ))→sp vs H Q E→
   ∃t,lg (xD CX P w K mg base N qual scope f bJ A outer s H E) body t∧t {nx:=fun _ H'=>Q .non H',rt:=Q} (start N vs) H) :
 bz P w K mg base CX (k+1) f (PySem.W.fnOf name qual params body scope dV kV doc pm an bJ ct) ps sp:=by
 refine⟨len,fun A outer s H args us vs Q E hr e0 hb r pF=>?_⟩
 have hl:=len _ _ _ _ pF
 have KX:K.In s.heap:=e0.mod.Qx.keeps fun b o e=>(e0.bs b o e).1
 have lim:s.heap.NoLimit:=e0.mod.nolimit.keeps fun b o e=>(e0.bs b o e).1
 have RB:∀y∈ps.zip us,scope.names.lookup y.1=some .local ∨ (scope.names.lookup y.1=some .cell∧((cellsFrom (s.heap.objs.size+1) scope.names []).lookup y.1).isSome=true):=fun ⟨n,v⟩ hy=>by
  rcases S.par n (List.of_mem_zip hy).1 with q|q
  · exact .inl q
  · exact .inr ⟨q,PySem.W.cellsFrom_some _ _ _ (.inl q)⟩
 refine codeAny_call_function hr.depth (KX _ _ lk) rfl S.co S.gen rfl (PySem.W.codeRec_of KX EI) (hb _ _ _ _ ?_)
 refine wpAny_newFunctionEnv_cells S.kind RB fun env he s1 x=>?_
 subst he
 refine⟨lim.keeps x.toInCall.keep,codeAny_func ?_⟩
 obtain⟨t,ht,hq⟩:=zY A outer s H vs Q E (hr.deeper _) pF
 have I:Inv (xD CX P w K mg base N qual scope f bJ A outer s H E) [] (start N vs) H s1:=En S hr.hd e0 hl r x
 refine wpAny_mono (ht [] s1 (start N vs) H _ I hq) (fun fl s' hs=>?_) fun e s' hs=>hs
 have fin:∀{σ':St}{H':Hp}{v:V}{u:Value},Inv (xD CX P w K mg base N qual scope f bJ A outer s H E) [] σ' H' s'→RelV v u→Q v H'→CE outer P w H s Q u s':=
  fun {σ' H' v u} J rv q=>⟨v,H',J.os,J.bare,J.base,J.aX,rv,q⟩
 cases fl with
 | ret u=>
  obtain⟨v,σ',H',J,rv,q⟩:=hs
  exact fin J rv q
 | next=>
  obtain⟨σ',H',J,q⟩:=hs
  exact fin (v:=V.non) (u:=Value.none) J rfl q
 | brk=>
  obtain⟨_,_,_,q⟩:=hs
  exact False.elim q
 | cont=>
  obtain⟨_,_,_,q⟩:=hs
  exact False.elim q
end L2
namespace L2
open PySem PySem.Spec PyProof.Rows
section
variable {X : Cx} {x : Str} {p pos : Pos} {e : Expr} {es : List Expr} {t : TA} {id T : String} {r : List V→Hp→VK→Prop}
noncomputable def tCB (r:List V→Hp→VK→Prop) (t:TA):TE:=fun σ H Q=>t σ H fun vs H1=>r vs H1 Q
theorem aO (hc:df X (.builtin id) r) (hg:Gl X x) (hm:X.mg x=none) (hv:bootBuiltins x=some (.builtin id)) (ha:PA X (e::es) t) (hn:x≠"__name__":=by decide) (N4:(x==("__debug__":Str))=false:=by decide)
 (he:starEach (e::es) X.env=(false,eval e X.env)::starEach es X.env:=by rfl) (nJ:(backTo pos (starEach es X.env)).any (·.1)=false:=by rfl):PE X (.Call (.Name x p) (e::es) [] pos) (tCB r t):=by
 intro pins s σ H Q I h
 refine wpAny_Call_Name_kw (tH I hg hm hv ?_ hn N4)
 exact PyProof.Rows.callWith_builtin1 (ck (ha pos pins s σ H _ I h) fun us s1 ⟨vs,H1,I1,r1,q1⟩=>hc pins s1 σ H1 vs us Q I1 r1 q1) he nJ
theorem bL (hc:df X (.type T) r) (hg:Gl X x) (hm:X.mg x=none) (hv:bootBuiltins x=some (.type T)) (ha:PA X (e::es) t) (hn:x≠"__name__":=by decide) (N4:(x==("__debug__":Str))=false:=by decide)
 (he:starEach (e::es) X.env=(false,eval e X.env)::starEach es X.env:=by rfl) (nJ:(backTo pos (starEach es X.env)).any (·.1)=false:=by rfl):PE X (.Call (.Name x p) (e::es) [] pos) (tCB r t):=by
 intro pins s σ H Q I h
 refine wpAny_Call_Name_kw (tH I hg hm hv ?_ hn N4)
 exact PyProof.Rows.callWith_type1 (ck (ha pos pins s σ H _ I h) fun us s1 ⟨vs,H1,I1,r1,q1⟩=>hc pins s1 σ H1 vs us Q I1 r1 q1) he nJ
end
end L2
namespace HT
open PySem PyProof.Rows
section
open PySem.SeqAt
open PySem.AutoSeq1 (wpAny_loadPart')
open PySem.MeetsSeq PySem.MeetsSeq2 PySem.MeetsSeq3
end
section
variable {prog : Program} {w : World} {A : Around} {E : Value→Shared→Prop} {s : Shared}
theorem Jg {t b:Addr}{vs ws:List Value}{Q:Value→Shared→Prop} (ht:IsTup s.heap t vs.toArray) (hb:IsTup s.heap b ws.toArray) (hv:vs≠[])
 (h1:ws=[]→Q (.ref t) s) (h2:ws≠[]→Q (.ref s.heap.objs.size) {s with heap:=s.heap.push {cls:=.type "tuple",data:=.seq (vs++ws).toArray}})
 (hsz:vs.length+ws.length≤sizeLine):wpAny (model prog w) A (binaryOp .Add (.ref t) (.ref b)) Q E s:=by
 obtain⟨⟨cls,dd,data,sl⟩,ho,hc,n,hd⟩:=id ht
 obtain⟨⟨V0,T2,data2,MF⟩,ho2,iS,n2,hd2⟩:=id hb
 simp only at hc hd iS hd2
 subst hc hd iS hd2
 have e:vs.toArray++ws.toArray=(vs++ws).toArray:=by simp
 by_cases hw:ws=[]
 · exact concat_meets ⟨_,ho,rfl⟩ ⟨_,ho2,rfl⟩ noFill_tuple_add seq_tuple_add PySem.F.slot_tuple_add PySem.F.entry_tuple_add (PySem.F.args_tuple_add_2 _ _)
    (tuple_addW1 t b vs.toArray ws.toArray n n2 dd T2 sl MF (by simpa using hv) (by simp [hw])) ⟨ho,ho2,h1 hw⟩
 · refine concat_meets ⟨_,ho,rfl⟩ ⟨_,ho2,rfl⟩ noFill_tuple_add seq_tuple_add PySem.F.slot_tuple_add PySem.F.entry_tuple_add (PySem.F.args_tuple_add_2 _ _)
    (tuple_addW2 t b vs.toArray ws.toArray n n2 dd T2 sl MF (by simpa using hv) (by simpa using hw) (by rw [List.size_toArray,List.size_toArray];exact hsz)) ⟨ho,ho2,?_⟩
   rw [e]
   exact h2 hw
noncomputable def cW (n d:Nat):Option Int→Nat
 | none=>d
 | some v=>if v<0 then (v+(n:Int)).toNat else min v.toNat n
theorem C0 (n d k:Nat):cW n d (some (k:Int))=min k n:=by
 show (if (k:Int)<0 then ((k:Int)+(n:Int)).toNat else min (k:Int).toNat n)=min k n
 rw [if_neg (by omega),Int.toNat_natCast]
theorem M8 (n d:Nat) (hd:d≤n) (o:Option Int):cW n d o≤n:=by
 cases o with
 | none=>exact hd
 | some v=>
  show (if v<0 then (v+(n:Int)).toNat else min v.toNat n)≤n
  by_cases hv:v<0
  · rw [if_pos hv];omega
  · rw [if_neg hv];exact Nat.min_le_right _ _
theorem DN (v:Int) (n d:Nat):(if v<0 then max (v+(n:Int)) 0 else min v (n:Int))=((cW n d (some v):Nat):Int):=by
 show (if v<0 then max (v+(n:Int)) 0 else min v (n:Int))=(((if v<0 then (v+(n:Int)).toNat else min v.toNat n):Nat):Int)
 by_cases hv:v<0
 · simp only [if_pos hv];omega
 · simp only [if_neg hv];omega
theorem BO (lo hi:Option Int) (n:Nat):Builtin.Slice.sliceAdjust lo hi 1 (n:Int)=(((cW n 0 lo:Nat):Int),((cW n n hi:Nat):Int)):=by
 have h1:¬((1:Int)<0):=by omega
 unfold Builtin.Slice.sliceAdjust
 simp only [h1,if_false]
 refine Prod.ext ?_ ?_
 · cases lo with
   | none=>rfl
   | some v=>exact DN v n 0
 · cases hi with
   | none=>rfl
   | some v=>exact DN v n n
theorem AV (i j:Nat):Builtin.Slice.slicePlaces (i:Int) (j:Int) 1=j - i:=by
 unfold Builtin.Slice.slicePlaces
 have h1:(1:Int) > 0:=by omega
 simp only [h1,if_true,Int.ediv_one]
 split<;>omega
theorem tu {v:Value}{o:Option Int}{Q:Option Int→Shared→Prop} (p:IsPart v o) (h:Q o s):wpAny (model prog w) A (Builtin.Slice.slicePartIndex v) Q E s:=by
 cases p with
 | none=>exact slicePart_none h
 | int i t=>exact slicePart_int h
theorem jU {sl:Addr}{vl vu:Value}{lo hi:Option Int}{n:Nat}{Q:Int×Int×Nat→Shared→Prop} (hs:s.heap.IsSliceOf sl vl vu .none) (pl:IsPart vl lo) (pu:IsPart vu hi)
 (h:Q (((cW n 0 lo:Nat):Int),1,cW n n hi - cW n 0 lo) s):wpAny (model prog w) A (Builtin.Slice.sliceApplied (.ref sl) (pure (n:Int))) Q E s:=by
 obtain⟨os,Qs,hcs,NS⟩:=id hs
 unfold Builtin.Slice.sliceApplied Builtin.Slice.sliceFields
 refine wpAny_bind (wpAny_bind (wpAny_field Qs NS (x:=vl) rfl (wpAny_bind (wpAny_field Qs NS (x:=vu) rfl (wpAny_bind (wpAny_field Qs NS (x:=.none) rfl (wpAny_pure ?_)))))))
 refine wpAny_bind (slicePart_none ?_)
 show wpAny _ _ (if ((1:Int)==0)=true then _ else _) _ _ s
 rw [if_neg (by decide)]
 refine wpAny_bind (tu pl (wpAny_bind (tu pu (wpAny_bind (wpAny_pure ?_)))))
 show wpAny _ _ (match Builtin.Slice.sliceAdjust lo hi 1 (n:Int) with|(lo,hi)=>pure (lo,(1:Int),Builtin.Slice.slicePlaces lo hi 1)) _ _ s
 rw [BO lo hi n]
 show wpAny _ _ (pure (((cW n 0 lo:Nat):Int),(1:Int),Builtin.Slice.slicePlaces ((cW n 0 lo:Nat):Int) ((cW n n hi:Nat):Int) 1)) _ _ s
 rw [AV]
 exact wpAny_pure h
theorem Hn (xs:Array Value) (i k:Nat):((List.range k).filterMap fun (m:Nat)=>xs[((i:Int)+(m:Int)*1).toNat]?).toArray=((xs.toList.drop i).take k).toArray:=by
 have e:(fun (m:Nat)=>xs[((i:Int)+(m:Int)*1).toNat]?)=fun m=>xs[i+m]?:=by
  funext m
  have:((i:Int)+(m:Int)*1).toNat=i+m:=by omega
  rw [this]
 rw [e]
 have:=pick_run xs i k
 rw [List.filterMap_map] at this
 have e2:((fun x=>xs[x]?)∘fun x=>i+x)=fun m=>xs[i+m]?:=rfl
 rw [e2] at this
 rw [this]
theorem pL {t sl:Addr}{items:Array Value}{vl vu:Value}{lo hi:Option Int}{Q:Value→Shared→Prop} (ht:IsTup s.heap t items) (hs:s.heap.IsSliceOf sl vl vu .none) (pl:IsPart vl lo) (pu:IsPart vu hi)
 (hw:¬(cW items.size 0 lo=0∧cW items.size items.size hi=items.size))
 (h:Q (.ref s.heap.objs.size) {s with heap:=s.heap.push {cls:=.type "tuple",data:=.seq ((items.toList.drop (cW items.size 0 lo)).take (cW items.size items.size hi - cW items.size 0 lo)).toArray}})
 (hsz:items.size≤sizeLine):wpAny (model prog w) A (getItem (.ref t) (.ref sl)) Q E s:=by
 have DX:sizeOk (.seq ((items.toList.drop (cW items.size 0 lo)).take (cW items.size items.size hi - cW items.size 0 lo)).toArray):=by
  show ((items.toList.drop (cW items.size 0 lo)).take (cW items.size items.size hi - cW items.size 0 lo)).toArray.size≤sizeLine
  rw [List.size_toArray,List.length_take,List.length_drop,Array.length_toList]
  omega
 have hj:cW items.size items.size hi≤items.size:=M8 _ _ (Nat.le_refl _) hi
 obtain⟨os,Qs,hcs,NS⟩:=id hs
 have hTs:s.TypeIs (.ref sl) "slice":=⟨os,Qs,hcs⟩
 unfold getItem
 try with_reducible refine wpAny_holding ?_
 first|refine wpAny_bind (wpAny_pure ?_)|skip
 refine wpAny_bind (wpAny_sequenceKey ht.typeIs (by decide) ?_)
 refine wpAny_bind (wpAny_callSpecial?_slot (name:=Str.ofString "__getitem__") ht.typeIs PyProof.Rows.slot_tuple_getitem
  (wpAny_call_entry PyProof.Rows.slot_tuple_getitem ht.typeIs entry_tuple_getitem ?_ (args_tuple_getitem _ _)))
 show wpAny _ _ (Builtin.Tuple.tupleItemsOf (.ref t) >>= _) _ _ s
 refine wpAny_bind (tupleItemsOf_ ht ?_)
 refine wpAny_bind (wpAny_typeOf hTs ?_)
 rw [if_pos (by decide)]
 refine wpAny_bind (jU hs pl pu ?_)
 have hno:¬((((cW items.size 0 lo:Nat):Int)==0&&(1:Int)==1&&(cW items.size items.size hi - cW items.size 0 lo)==items.size)=true):=by
  intro q
  rw [Bool.and_eq_true,Bool.and_eq_true] at q
  have q1:((cW items.size 0 lo:Nat):Int)=0:=eq_of_beq q.1.1
  have q2:cW items.size items.size hi - cW items.size 0 lo=items.size:=eq_of_beq q.2
  exact hw ⟨by omega,by omega⟩
 show wpAny _ _ (if (((cW items.size 0 lo:Nat):Int)==0&&(1:Int)==1&&(cW items.size items.size hi - cW items.size 0 lo)==items.size)=true then _ else _) _ _ s
 rw [if_neg hno,Hn]
 first
  | exact wpAny_bind (m:=Builtin.Tuple.tupleExact _) (wpAny_newObj_type (wpAny_pure ⟨_,rfl,wpAny_pure h⟩) DX)
  | exact wpAny_bind (m:=Builtin.Tuple.tupleExact _) (wpAny_newObj_type (wpAny_bind (wpAny_pure (wpAny_pure ⟨_,rfl,wpAny_pure h⟩))) DX)
  | exact wpAny_bind (wpAny_bind (m:=Builtin.Tuple.tupleExact _) (wpAny_newObj_type (wpAny_pure (wpAny_pure ⟨_,rfl,wpAny_pure h⟩)) DX))
  | exact wpAny_bind (wpAny_bind (m:=Builtin.Tuple.tupleExact _) (wpAny_newObj_type (wpAny_pure ⟨_,rfl,wpAny_pure h⟩) DX))
end
end HT
namespace L2
open PySem PySem.Spec PyProof.Rows
noncomputable abbrev TO:=St→Hp→(Option Int→Hp→Prop)→Prop
noncomputable def PO (X:Cx) (e:Option Expr) (t:TO):Prop:=
 ∀(pins:List (Addr×Obj)) (s:Shared) (σ:St) (H:Hp) (Q:Option Int→Hp→Prop),Inv X pins σ H s→t σ H Q→
  wpAny (model X.prog X.w) X.A (evalPart e X.env) (fun u s'=>∃o H',Inv X pins σ H' s'∧IsPart u o∧Q o H') X.xe s
noncomputable def DD:TO:=fun _ H Q=>Q none H
noncomputable def LL (t:TE):TO:=fun σ H Q=>t σ H fun x H1=>∃i,x = .int i∧Q (some i) H1
section
variable {X : Cx} {e : Expr} {te : TE} {lo hi : Option Expr} {tl th : TO} {pos p2 : Pos}
theorem m8:PO X none DD:=by
 intro pins s σ H Q I h
 rw [evalPart_none]
 exact wpAny_pure ⟨none,H,I,.none,h⟩
theorem ff (h:PE X e te):PO X (some e) (LL te):=by
 intro pins s σ H Q I hw
 rw [evalPart_some]
 refine ck (h pins s σ H _ I hw) fun u s1 ⟨x,H1,I1,r1,q1⟩=>?_
 obtain⟨i,rfl,q⟩:=q1
 obtain⟨t,rfl⟩:=r1
 exact⟨some i,H1,I1,.int i t,q⟩
noncomputable def IB (X:Cx) (r:V→Option Int→Option Int→Hp→VK→Prop):Prop:=
 ∀(pins:List (Addr×Obj)) (s:Shared) (σ:St) (H:Hp) (x:V) (v vl vu:Value) (lo hi:Option Int) (sl:Addr) (Q:VK),Inv X pins σ H s→RelV x v→s.heap.IsSliceOf sl vl vu .none→IsPart vl lo→IsPart vu hi→r x lo hi H Q→
  ∃T id,typeLookup (.type T) "__getitem__"=pure (some (.builtin id))∧s.TypeIs v T∧wpAny (model X.prog X.w) X.A (getItem v (.ref sl)) (EP X pins σ Q) X.xe s
theorem IB.or {r r':V→Option Int→Option Int→Hp→VK→Prop} (h:IB X r) (h':IB X r'):IB X (fun x lo hi H Q=>r x lo hi H Q∨r' x lo hi H Q):=by
 intro pins s σ H x v vl vu lo hi sl Q I rx hs pl pu q
 rcases q with q|q
 · exact h pins s σ H x v vl vu lo hi sl Q I rx hs pl pu q
 · exact h' pins s σ H x v vl vu lo hi sl Q I rx hs pl pu q
noncomputable def tSl (r:V→Option Int→Option Int→Hp→VK→Prop) (te:TE) (tl th:TO):TE:=fun σ H Q=>te σ H fun x H1=>tl σ H1 fun l H2=>th σ H2 fun u H3=>r x l u H3 Q
theorem fO {r:V→Option Int→Option Int→Hp→VK→Prop} (hr:IB X r) (he:PE X e te) (hl:PO X lo tl) (hu:PO X hi th):PE X (.Subscript e (.Slice lo hi none p2) pos) (tSl r te tl th):=by
 intro pins s σ H Q I h
 refine Subscript_ (ck (he pins s σ H _ I h) fun v s1 ⟨x,H1,I1,r1,q1⟩=>?_)
 refine wpAny_Slice (ck (hl pins s1 σ H1 _ I1 q1) fun vl s2 ⟨l,H2,I2,pl,q2⟩=>ck (hu pins s2 σ H2 _ I2 q2) fun vu s3 ⟨u,H3,I3,pu,q3⟩=>?_)
 rw [evalPart_none]
 refine wpAny_pure ?_
 have I4:Inv X pins σ H3 {s3 with heap:=s3.heap.push {cls:=.type "slice",data:=.fields #[vl,vu,.none]}}:=I3.kept (t':=s3.toks) fun b ob q=>Heap.get?_push_of_some _ q
 obtain⟨T,id,hT,ht,hg⟩:=hr pins {s3 with heap:=s3.heap.push {cls:=.type "slice",data:=.fields #[vl,vu,.none]}} σ H3 x v vl vu l u s3.heap.objs.size Q I4 r1 (Heap.IsSliceOf.new ..) pl pu q3
 show wpAny (model X.prog X.w) X.A (subscriptTail e (.Slice lo hi none p2) v (.ref s3.heap.objs.size)) (EP X pins σ Q) X.xe {s3 with heap:=s3.heap.push {cls:=.type "slice",data:=.fields #[vl,vu,.none]}}
 exact tail_any (ops:=[.ref s3.heap.objs.size,v]) ht hT hg (by with_unfolding_all rfl)
noncomputable def jj (xs:List V) (lo hi:Option Int):List V:=(xs.drop (HT.cW xs.length 0 lo)).take (HT.cW xs.length xs.length hi - HT.cW xs.length 0 lo)
theorem r8 (xs:List V) (lo hi:Option Int):(jj xs lo hi).length≤xs.length:=by
 unfold jj
 rw [List.length_take,List.length_drop]
 omega
noncomputable def PJ (K:PySem.W.Frag):V→Option Int→Option Int→Hp→VK→Prop:=fun x lo hi H Q=>∃a xs,x = .ref a∧jE K H a xs∧
 ¬(HT.cW xs.length 0 lo=0∧HT.cW xs.length xs.length hi=xs.length)∧∀p,H p=none→Q (.ref p) (upd H p (.tup (jj xs lo hi)))
theorem NO:IB X (PJ X.K):=by
 intro pins s σ H x v vl vu lo hi sl Q I rx hs pl pu h
 obtain⟨a,xs,rfl,hx,hw,q⟩:=h
 cases rx
 obtain⟨aG,r,ht,hz⟩:=I.tuple hx
 have hlen:aG.toArray.size=xs.length:=by rw [List.size_toArray];exact r.length.symm
 refine⟨"tuple",_,PyProof.Rows.slot_tuple_getitem.lookup,ht.typeIs,?_⟩
 refine HT.pL ht hs pl pu (by rw [hlen];exact hw) ?_ (by rw [hlen];exact hz)
 rw [hlen]
 refine⟨.ref s.heap.objs.size,_,I.laid (t':=s.toks) (o:=.tup (jj xs lo hi)) (fun b ob q=>Heap.get?_push_of_some _ q) (Nat.le_refl _) ?_,rfl,q _ (I.aX.fresh (Nat.le_refl _))⟩
 exact⟨Nat.le_trans (r8 xs lo hi) hz,_,(r.drop (HT.cW xs.length 0 lo)).take (HT.cW xs.length xs.length hi - HT.cW xs.length 0 lo),IsTup.new _ _⟩
noncomputable def Pk (K:PySem.W.Frag):R2:=fun x y H Q=>∃a b xs ys,x = .ref a∧y = .ref b∧jE K H a xs∧jE K H b ys∧xs≠[]∧xs.length+ys.length≤sizeLine∧
 (ys=[]→Q (.ref a) H)∧(ys≠[]→∀p,H p=none→Q (.ref p) (upd H p (.tup (xs++ys))))
theorem Vals.yq {xs:List V}{us:List Value} (r:Vals xs us):us=[]↔xs=[]:=by
 cases r with
 | nil=>simp
 | cons _ _=>simp
theorem Je:lh X (binaryOp .Add) (Pk X.K):=by
 intro pins s σ H x y v u Q I rx ry h
 obtain⟨a,b,xs,ys,rfl,rfl,ha,hb,hx,hz,q1,q2⟩:=h
 cases rx
 cases ry
 obtain⟨aG,r1,p1,_⟩:=I.tuple ha
 obtain⟨yB,r2,p2,_⟩:=I.tuple hb
 refine HT.Jg p1 p2 (fun z=>hx (r1.yq.mp z)) (fun z=>⟨.ref a,H,I,rfl,q1 (r2.yq.mp z)⟩) (fun z=>?_) (by rw [←r1.length,←r2.length];exact hz)
 refine⟨.ref s.heap.objs.size,_,I.laid (t':=s.toks) (o:=.tup (xs++ys)) (fun b ob q=>Heap.get?_push_of_some _ q) (Nat.le_refl _) ?_,rfl,q2 (fun w=>z (r2.yq.mpr w)) _ (I.aX.fresh (Nat.le_refl _))⟩
 exact⟨by rw [List.length_append];exact hz,_,r1.append r2,IsTup.new _ _⟩
end
end L2
namespace L2
open PySem PySem.Spec PyProof.Rows
noncomputable def DG (n:Nat) (i:Int):Option Nat:=if 0≤i then (if i<n then some i.toNat else none) else if -(n:Int)≤i then some (i+n).toNat else none
noncomputable def kX {α:Type} (xs:List α) (i:Int):Option α:=(DG xs.length i).bind fun j=>xs[j]?
theorem DC {n:Nat}{i:Int}{j:Nat} (h:DG n i=some j):seqIndex? i n=some j∧j<n ∧ -(n:Int)≤i∧i<n:=by
 unfold DG at h
 by_cases h0:0≤i
 · rw [if_pos h0] at h
   by_cases h1:i<n
   · rw [if_pos h1] at h
     have e:i.toNat=j:=Option.some.inj h
     exact⟨by rw [seqIndex_of h0 h1,e],by omega,by omega,h1⟩
   · rw [if_neg h1] at h;cases h
 · rw [if_neg h0] at h
   by_cases h1 : -(n:Int)≤i
   · rw [if_pos h1] at h
     have e:(i+n).toNat=j:=Option.some.inj h
     exact⟨by rw [seqIndex_neg (by omega) h1,e],by omega,h1,by omega⟩
   · rw [if_neg h1] at h;cases h
theorem xq {α:Type}{xs:List α}{i:Int}{v:α} (h:kX xs i=some v):∃j,seqIndex? i xs.length=some j∧xs[j]? = some v∧j<xs.length ∧ -(xs.length:Int)≤i∧i<xs.length:=by
 unfold kX at h
 cases e:DG xs.length i with
 | none=>rw [e] at h;cases h
 | some j=>
  rw [e] at h
  obtain⟨h1,h2,h3,h4⟩:=DC e
  exact⟨j,h1,h,h2,h3,h4⟩
theorem h7 {α:Type}{xs:List α}{j:Nat}{v:α} (h:xs[j]? = some v):kX xs (j:Int)=some v:=by
 have hj:j<xs.length:=(List.getElem?_eq_some_iff.mp h).1
 have e:DG xs.length (j:Int)=some j:=by
  unfold DG
  rw [if_pos (by omega),if_pos (by omega)];simp
 unfold kX;rw [e];exact h
theorem um {α:Type} (xs:List α) (v:α):kX (xs++[v]) (-1)=some v:=by
 have hl:(xs++[v]).length=xs.length+1:=by simp
 have e:DG (xs++[v]).length (-1)=some xs.length:=by
  unfold DG
  rw [hl,if_neg (by decide),if_pos (by omega)]
  congr 1
  omega
 unfold kX
 rw [e]
 show (xs++[v])[xs.length]? = some v
 simp
noncomputable def Jl (b:Expr):Prop:=∀o i,subscripted b false o i=operate [o,i] (getItem o i)
noncomputable def Kg (X:Cx) (r:R2):Prop:=
 ∀(value slice:Expr) (pins:List (Addr×Obj)) (s:Shared) (σ:St) (H:Hp) (x y:V) (v u:Value) (Q:VK),Inv X pins σ H s→RelV x v→RelV y u→r x y H Q→
  subscripted slice false v u=operate [v,u] (getItem v u)→wpAny (model X.prog X.w) X.A (subscriptTail value slice v u) (EP X pins σ Q) X.xe s
noncomputable def IK (X:Cx) (id:String) (r:V→List V→Hp→VK→Prop):Prop:=
 ∀(pins:List (Addr×Obj)) (s:Shared) (σ:St) (H:Hp) (x:V) (xs:List V) (v:Value) (us:List Value) (Q:VK),Inv X pins σ H s→RelV x v→Vals xs us→r x xs H Q→
  wpAny (model X.prog X.w) X.A (call (.builtin id) (v::us)) (EP X pins σ Q) X.xe s
section
variable {X : Cx} {a b : Expr} {ta tb : TE} {pos : Pos}
theorem Kg.or {r r':R2} (h:Kg X r) (h':Kg X r'):Kg X (fun x y H Q=>r x y H Q∨r' x y H Q):=by
 intro value slice pins s σ H x y v u Q I rx ry q hs
 rcases q with q|q
 · exact h value slice pins s σ H x y v u Q I rx ry q hs
 · exact h' value slice pins s σ H x y v u Q I rx ry q hs
theorem IK.or {id:String}{r r':V→List V→Hp→VK→Prop} (h:IK X id r) (h':IK X id r'):IK X id (fun x xs H Q=>r x xs H Q∨r' x xs H Q):=by
 intro pins s σ H x xs v us Q I rx rs q
 rcases q with q|q
 · exact h pins s σ H x xs v us Q I rx rs q
 · exact h' pins s σ H x xs v us Q I rx rs q
theorem ar {r:R2} (hr:Kg X r) (ha:PE X a ta) (hb:PE X b tb) (hs:Jl b):PE X (.Subscript a b pos) (O4 r ta tb):=by
 intro pins s σ H Q I h
 exact Subscript_ (OA ha hb I h fun v u s2 x y H2 I2 rx ry q=>hr a b pins s2 σ H2 x y v u Q I2 rx ry q (hs _ _))
noncomputable def Ql (K:PySem.W.Frag):R2:=fun x y H Q=>∃p xs i v,x = .ref p∧y = .int i∧fQ K H p xs∧kX xs i=some v∧Q v H
noncomputable def Wu (K:PySem.W.Frag):R2:=fun x y H Q=>∃p xs i v,x = .ref p∧y = .int i∧jE K H p xs∧kX xs i=some v∧Q v H
noncomputable def Ru:R2:=fun x y H Q=>∃z i c,x = .str z∧y = .int i∧z.length≤sizeLine∧kX z.cps.toList i=some c∧Q (.str ⟨#[c]⟩) H
theorem xf:Kg X (Ql X.K):=by
 intro value slice pins s σ H x y v u Q I rx ry h hs
 obtain⟨p,xs,i,z,rfl,rfl,hq,he,q⟩:=h
 cases rx
 obtain⟨t,rfl⟩:=ry
 obtain⟨aG,r,pl,hz⟩:=I.list hq
 obtain⟨j,h1,h2,h3,h4,h5⟩:=xq he
 obtain⟨w,ew,NR⟩:=r.get h2
 have hl:=r.length
 have hn:=qf
 have fin:EP X pins σ Q w s:=⟨z,H,I,NR,q⟩
 by_cases h0:0≤i
 · have hj:i.toNat=j:=by
    rw [seqIndex_of h0 h5] at h1
    exact Option.some.inj h1
   exact item_listR pl.isList h0 (by omega) (by rw [hj];simpa using ew) fin hs
 · have hj:(i+(aG.toArray.size:Int)).toNat=j:=by
    rw [seqIndex_neg (by omega) h4] at h1
    rw [List.size_toArray,←hl]
    exact Option.some.inj h1
   exact subscriptTail_builtinR (x:=w) pl.isList.typeIs slot_list_getitem.lookup
    (wpAny_getItem_list_neg (Q:=fun r s'=>r=w∧EP X pins σ Q r s') pl.isList (by omega) (by rw [List.size_toArray]<;>omega) (by omega) (by rw [hj];simpa using ew) ⟨rfl,fin⟩) hs
theorem N1:Kg X (Wu X.K):=by
 intro value slice pins s σ H x y v u Q I rx ry h hs
 obtain⟨p,xs,i,z,rfl,rfl,hq,he,q⟩:=h
 cases rx
 obtain⟨t,rfl⟩:=ry
 obtain⟨aG,r,pl,hz⟩:=I.tuple hq
 obtain⟨j,h1,h2,h3,h4,h5⟩:=xq he
 obtain⟨w,ew,NR⟩:=r.get h2
 have hl:=r.length
 have hn:=qf
 have fin:EP X pins σ Q w s:=⟨z,H,I,NR,q⟩
 exact subscriptTail_builtinR (x:=w) pl.typeIs slot_tuple_getitem.lookup
  (getItem_tuple (j:=j) (Q:=fun r s'=>r=w∧EP X pins σ Q r s') pl (by omega) (by omega) (by rw [List.size_toArray,←hl];exact h1) (by simpa using ew) ⟨rfl,fin⟩) hs
theorem qd:Kg X Ru:=by
 intro value slice pins s σ H x y v u Q I rx ry h hs
 obtain⟨z,i,c,rfl,rfl,hz,he,q⟩:=h
 obtain⟨t,rfl⟩:=rx
 obtain⟨t',rfl⟩:=ry
 obtain⟨j,h1,h2,h3,h4,h5⟩:=xq he
 have hl:z.cps.toList.length=z.length:=by simp [Str.length]
 rw [hl] at h1 h4 h5
 have hn:=qf
 exact tail_any (typeIs_str s z t) slot_str_getitem.lookup (getItem_str (c:=c) (by
  have e1:decide (i < -(2^63:Int))=false:=decide_eq_false (by omega)
  have e2:decide (i≥2^63)=false:=decide_eq_false (by omega)
  rw [e1,e2,Bool.or_false]) (by rw [h1];simpa using h2) ⟨.str ⟨#[c]⟩,H,I.tok _,⟨_,rfl⟩,q⟩) hs
theorem Cm (aG:List Value) (n j:Nat) (u:Value):Obj.mapSeq (·.setIfInBounds j u) {cls:=.type "list",data:=.seq aG.toArray n}={cls:=.type "list",data:=.seq (aG.set j u).toArray n}:=by
 simp [Obj.mapSeq]
theorem Inv.lst {pins:List (Addr×Obj)}{σ:St}{H:Hp}{s:Shared}{p:Addr}{xs:List V} (I:Inv X pins σ H s) (h:H p=some (.lst xs)) :
 ∃(aG:List Value) (n:Nat),Vals xs aG∧s.heap.get? p=some {cls:=.type "list",data:=.seq aG.toArray n}∧xs.length≤sizeLine:=by
 obtain⟨z,aG,n,r,e⟩:=I.aX p _ h
 exact⟨aG,n,r,e,z⟩
theorem Inv.N5 {pins:List (Addr×Obj)}{σ:St}{H:Hp}{s:Shared}{p:Addr}{xs ys:List V}{aG its':List Value}{n n':Nat}{f:Obj→Obj} (I:Inv X pins σ H s) (h:H p=some (.lst xs))
 (ho:s.heap.get? p=some {cls:=.type "list",data:=.seq aG.toArray n}) (hf:f {cls:=.type "list",data:=.seq aG.toArray n}={cls:=.type "list",data:=.seq its'.toArray n'}) (r:Vals ys its') (hz:ys.length≤sizeLine) (t:Nat) :
 Inv X pins σ (upd H p (.lst ys)) {s with heap:=s.heap.update p f,toks:=t}:=by
 have e:(s.heap.update p f).get? p=some {cls:=.type "list",data:=.seq its'.toArray n'}:=by
  rw [Heap.get?_update_self f ho (by rw [hf]<;>rfl),hf]
 refine I.write (x:=p) (e:=p) (by rw [h];trivial) (.inl rfl) (fun b u hb q=>(Heap.get?_update_other _ _ (Ne.symm hb)).trans q) ⟨_,e⟩ ?_
 exact⟨hz,its',n',r,e⟩
noncomputable def LU:V→V→V→Hp→(Hp→Prop)→Prop:=fun o i v H Q=>∃p xs k j,o = .ref p∧i = .int k∧H p=some (.lst xs)∧DG xs.length k=some j∧Q (upd H p (.lst (xs.set j v)))
theorem set_list:Qj X LU:=by
 intro pins s σ H o i v ov iv u Q I ro ri rv h
 obtain⟨p,xs,k,j,rfl,rfl,hp,hj,q⟩:=h
 cases ro
 obtain⟨t,rfl⟩:=ri
 obtain⟨aG,n,r,ho,hz⟩:=I.lst hp
 obtain⟨h1,h2,h3,h4⟩:=DC hj
 have hl:=r.length
 have hn:=qf
 have I':Inv X pins σ (upd H p (.lst (xs.set j v))) {s with heap:=s.heap.update p (Obj.mapSeq (·.setIfInBounds j u))}:=
  I.N5 hp ho (Cm aG n j u) (r.set rv j) (by rw [List.length_set];exact hz) s.toks
 by_cases h0:0≤k
 · have hk:k.toNat=j:=by
    rw [seqIndex_of h0 h4] at h1
    exact Option.some.inj h1
   exact PySem.W.ki_setAt ho h0 (by omega) (by rw [List.size_toArray,←hl];exact h4) (by rw [hk];exact⟨_,I',q⟩)
 · have hk:(k+(aG.toArray.size:Int)).toNat=j:=by
    rw [seqIndex_neg (by omega) h3] at h1
    rw [List.size_toArray,←hl]
    exact Option.some.inj h1
   exact PySem.W.ki_setBack ho (by omega) (by rw [List.size_toArray,←hl];exact h3) (by omega) (by rw [hk];exact⟨_,I',q⟩)
theorem yf (lo hi:Option Int) (n:Nat):(sliceBounds lo hi none n).1=((HT.cW n 0 lo:Nat):Int)∧(sliceBounds lo hi none n).2.1=((HT.cW n n hi:Nat):Int)∧(sliceBounds lo hi none n).2.2=1:=by
 refine⟨?_,?_,rfl⟩
 · cases lo with
   | none=>simp [sliceBounds,HT.cW]
   | some i=>
    simp only [sliceBounds,HT.cW,Option.getD_none,show (1:Int) > 0 by decide,if_true]
    by_cases h:i<0
    · simp only [h,if_true]<;>omega
    · simp only [h,if_false]<;>omega
 · cases hi with
   | none=>simp [sliceBounds,HT.cW]
   | some i=>
    simp only [sliceBounds,HT.cW,Option.getD_none,show (1:Int) > 0 by decide,if_true]
    by_cases h:i<0
    · simp only [h,if_true]<;>omega
    · simp only [h,if_false]<;>omega
theorem vM (aG:List Value) (lo hi:Option Int):slicePick aG.toArray lo hi none=((aG.drop (HT.cW aG.length 0 lo)).take (HT.cW aG.length aG.length hi - HT.cW aG.length 0 lo)).toArray:=by
 obtain⟨h1,h2,h3⟩:=yf lo hi aG.toArray.size
 unfold slicePick
 rw [h1,h2,h3]
 simp only [sliceRange_one,pick_run,List.size_toArray]<;>rfl
noncomputable def YE (K:PySem.W.Frag):V→Option Int→Option Int→Hp→VK→Prop:=fun x lo hi H Q=>∃a xs,x = .ref a∧fQ K H a xs∧∀p,H p=none→Q (.ref p) (upd H p (.lst (jj xs lo hi)))
theorem JS:IB X (YE X.K):=by
 intro pins s σ H x v vl vu lo hi sl Q I rx hs pl pu h
 obtain⟨a,xs,rfl,hx,q⟩:=h
 cases rx
 obtain⟨aG,r,ht,hz⟩:=I.list hx
 have hlen:=r.length
 refine⟨"list",_,slot_list_getitem.lookup,ht.isList.typeIs,?_⟩
 refine wpAny_getItem_list_slice ht.isList hs pl pu .none (by simp) ?_ (by rw [List.size_toArray]<;>omega)
 rw [vM,←hlen]
 refine⟨.ref s.heap.objs.size,_,I.laid (t':=s.toks) (o:=.lst (jj xs lo hi)) (fun b ob q=>Heap.get?_push_of_some _ q) (Nat.le_refl _) ?_,rfl,q _ (I.aX.fresh (Nat.le_refl _))⟩
 exact⟨Nat.le_trans (r8 xs lo hi) hz,_,0,(r.drop (HT.cW xs.length 0 lo)).take (HT.cW xs.length xs.length hi - HT.cW xs.length 0 lo),Heap.get?_push_size _ rfl⟩
theorem fF:df X (.builtin "len") (fun xs H Q=>∃p ys,xs=[.ref p]∧(fQ X.K H p ys∨jE X.K H p ys)∧Q (.int ys.length) H):=by
 intro pins s σ H xs us Q I r h
 obtain⟨p,ys,rfl,hq,q⟩:=h
 obtain⟨u,rfl,rx⟩:=vals1 r
 cases rx
 have hn:=qf
 rcases hq with hq|hq
 · obtain⟨aG,r',pl,hz⟩:=I.list hq
   have hlen:=r'.length
   exact Calls.call_len_list pl.isList (by simp only [List.size_toArray]<;>omega) ⟨.int ys.length,H,I.tok _,⟨s.toks+1,by rw [List.size_toArray,hlen]⟩,q⟩
 · obtain⟨aG,r',pl,hz⟩:=I.tuple hq
   have hlen:=r'.length
   exact len_tuple pl (by simp only [List.size_toArray]<;>omega) ⟨.int ys.length,H,I.tok _,⟨s.toks+1,by rw [List.size_toArray,hlen]⟩,q⟩
theorem gZ:df X (.builtin "len") (fun xs H Q=>∃z,xs=[.str z]∧z.length≤sizeLine∧Q (.int z.length) H):=by
 intro pins s σ H xs us Q I r h
 obtain⟨z,rfl,hz,q⟩:=h
 obtain⟨u,rfl,t,rfl⟩:=vals1 r
 have hn:=qf
 exact len_str (by omega) ⟨.int z.length,H,I.tok _,⟨_,rfl⟩,q⟩
theorem df.or {f:Value}{r r':List V→Hp→VK→Prop} (h:df X f r) (h':df X f r'):df X f (fun xs H Q=>r xs H Q∨r' xs H Q):=by
 intro pins s σ H xs us Q I rs q
 rcases q with q|q
 · exact h pins s σ H xs us Q I rs q
 · exact h' pins s σ H xs us Q I rs q
theorem yc:df X (.type "list") (fun xs H Q=>∃p ys,xs=[.ref p]∧(fQ X.K H p ys∨jE X.K H p ys)∧∀l,H l=none→Q (.ref l) (upd H l (.lst ys))):=by
 intro pins s σ H xs us Q I r h
 obtain⟨p,ys,rfl,hq,q⟩:=h
 obtain⟨u,rfl,rx⟩:=vals1 r
 cases rx
 have fin:∀(aG:List Value),Vals ys aG→ys.length≤sizeLine→∀(h':Heap) (c':Nat),(∀b o',s.heap.get? b=some o'→h'.get? b=some o')→
  h'.get? s.heap.objs.size=some {cls:=.type "list",dict:=none,data:=.seq aG.toArray c',slots:=#[]}→EP X pins σ Q (.ref s.heap.objs.size) {s with heap:=h'}:=fun aG r' hz h' c' kp e=>
  ⟨.ref s.heap.objs.size,_,I.laid (t':=s.toks) kp (Nat.le_refl _) (show cv X.prog X.w _ h' _ (.lst ys) from ⟨hz,aG,c',r',e⟩),rfl,q _ (I.aX.fresh (Nat.le_refl _))⟩
 rcases hq with hq|hq
 · obtain⟨aG,r',pl,hz⟩:=I.list hq
   have hlen:=r'.length
   obtain⟨o,ho,hc,n,hd⟩:=pl.isList
   exact call_list_seq p (.inl rfl) ho hc hd (fun h' c' kp e=>fin aG r' hz h' c' kp e) (by simp only [List.size_toArray]<;>omega)
 · obtain⟨aG,r',pl,hz⟩:=I.tuple hq
   have hlen:=r'.length
   obtain⟨o,ho,hc,n,hd⟩:=pl
   exact call_list_seq p (.inr rfl) ho hc hd (fun h' c' kp e=>fin aG r' hz h' c' kp e) (by simp only [List.size_toArray]<;>omega)
theorem vK:df X (.type "tuple") (fun xs H Q=>∃p ys,xs=[.ref p]∧((fQ X.K H p ys∧∀l,H l=none→Q (.ref l) (upd H l (.tup ys)))∨(jE X.K H p ys∧Q (.ref p) H))):=by
 intro pins s σ H xs us Q I r h
 obtain⟨p,ys,rfl,h⟩:=h
 obtain⟨u,rfl,rx⟩:=vals1 r
 cases rx
 rcases h with ⟨hq,q⟩|⟨hq,q⟩
 · obtain⟨aG,r',pl,hz⟩:=I.list hq
   have hlen:=r'.length
   refine call_tuple_list pl.isList (fun h' kp=>?_) (by simp only [List.size_toArray]<;>omega)
   have I1:Inv X pins σ H {s with heap:=h'}:=I.kept (t':=s.toks) kp
   have I2:Inv X pins σ (upd H h'.objs.size (.tup ys)) {s with heap:=h'.push {cls:=.type "tuple",data:=.seq aG.toArray}}:=
    I1.laid (t':=s.toks) (fun b o e=>Heap.get?_push_of_some _ e) (Nat.le_refl _) (show cv X.prog X.w _ _ _ (.tup ys) from ⟨hz,aG,r',IsTup.new _ _⟩)
   exact⟨.ref h'.objs.size,_,I2,rfl,q _ (I1.aX.fresh (Nat.le_refl _))⟩
 · obtain⟨aG,r',pl,hz⟩:=I.tuple hq
   exact call_tuple_same pl ⟨.ref p,H,I,rfl,q⟩
noncomputable def O0 (K:PySem.W.Frag) (T:String) (x:V) (H:Hp):Prop:=match x with
 | .str _=>T="str"
 | .int _=>T="int"
 | .ref p=>(T="list"∧∃xs,fQ K H p xs)∨(T="tuple"∧∃o,K.lookup p=some o∧o.cls = .type "tuple"∧o.dict=none) ∨
  (T="dict"∧((∃aS,H p=some (.dK aS))∨∃aS,H p=some (.dT aS)))∨(T="set"∧∃S n,H p=some (.set S n))
 | _=>False
theorem OB {pins:List (Addr×Obj)}{σ:St}{H:Hp}{s:Shared}{T:String}{x:V}{v:Value} (I:Inv X pins σ H s) (r:RelV x v) (ty:O0 X.K T x H) :
 s.TypeIs v T∧∀a,v = .ref a→∃ob,s.heap.get? a=some ob∧ob.dict=none:=by
 cases x with
 | str z=>
  obtain⟨t,rfl⟩:=r
  cases (show T="str" from ty)
  exact⟨typeIs_str s z t,fun _ e=>nomatch e⟩
 | int i=>
  obtain⟨t,rfl⟩:=r
  cases (show T="int" from ty)
  exact⟨typeIs_int s i t,fun _ e=>nomatch e⟩
 | ref p=>
  cases r
  rcases ty with ⟨rfl,xs,hq⟩|⟨rfl,o,hk,hc,hd⟩|⟨rfl,hk⟩|⟨rfl,S,n,hk⟩
  · obtain⟨aG,_,pl,_⟩:=I.list hq
    refine⟨pl.isList.typeIs,fun a e=>?_⟩
    cases e
    obtain⟨o,n,e,c,hd,_⟩:=pl
    exact⟨o,e,hd⟩
  · refine⟨⟨o,I.xk p o hk,hc⟩,fun a e=>?_⟩
    cases e
    exact⟨o,I.xk _ o hk,hd⟩
  · have z:∃o,s.heap.get? p=some o∧o.ExactDict:=by
     rcases hk with ⟨aS,hk⟩|⟨aS,hk⟩
     · obtain⟨_,_,_,_,o,_,_,e,ex,_⟩:=I.aX p _ hk
       exact⟨o,e,ex⟩
     · obtain⟨_,_,_,_,o,_,_,e,ex,_⟩:=I.aX p _ hk
       exact⟨o,e,ex⟩
    obtain⟨o,e,ex⟩:=z
    refine⟨⟨o,e,ex.1⟩,fun a e2=>?_⟩
    cases e2
    exact⟨o,e,ex.2.1⟩
  · obtain⟨o,_,_,_,e,ex,_⟩:=I.aX p _ hk
    refine⟨⟨o,e,ex.1⟩,fun a e2=>?_⟩
    cases e2
    exact⟨o,e,ex.2.1⟩
 | _=>exact False.elim ty
noncomputable def Ub (K:PySem.W.Frag) (T:String) (r:V→List V→Hp→VK→Prop) (to:TE) (t:TA):TE:=fun σ H Q=>to σ H fun x H1=>O0 K T x H1∧t σ H1 fun xs H2=>r x xs H2 Q
variable {o e : Expr} {es : List Expr} {to : TE} {t : TA} {name : Str} {apos fE : Pos} {T id : String} {r : V→List V→Hp→VK→Prop}
theorem jR (pa:PlainAttrs T) (slot:Slot T name id) (IU:typeOf (.builtin id)=pure (.type "method_descriptor")) (hm:IK X id r) (ho:PE X o to) (ha:PA X (e::es) t)
 (PX:attributeBase o name X.env (eval o X.env)=eval o X.env:=by rfl)
 (X6:((backTo fE (starEach (e::es) X.env)).all (fun x=>!x.1)&&(backToKw fE (keywordEach [] X.env)).all (fun x=>x.1.isSome)
   && decide ((e::es).length+([]:List Keyword).length+(if ([]:List Keyword).isEmpty then 0 else 1)<30))=true:=by rfl)
 (Qu:(apos.endLine==fE.line)=true:=by rfl) (hs:starEach (e::es) X.env=(false,eval e X.env)::starEach es X.env:=by rfl) (NN:(backTo fE (starEach es X.env)).any (·.1)=false:=by rfl) :
 PE X (.Call (.Attribute o name apos) (e::es) [] fE) (Ub X.K T r to t):=by
 intro pins s σ H Q I h
 refine wpAny_Call_method_late PX X6 Qu rfl (ck (ho pins s σ H _ I h) fun v s1 ⟨x,H1,I1,r1,ty,q1⟩=>?_)
 obtain⟨h1,h2⟩:=OB I1 r1 ty
 refine⟨T,id,pa,slot,IU,h1,h2,?_⟩
 have hA:=ha fE pins s1 σ H1 _ I1 q1
 rw [hs] at hA ⊢
 refine Calls.callWith_builtin (by show (false||(backTo fE (starEach es X.env)).any (·.1))=false;rw [NN]<;>rfl) (Calls.evalArgs_plain ?_)
 exact ck hA fun us s2 ⟨vs,H2,I2,r2,q2⟩=>hm pins s2 σ H2 x vs v us Q I2 r1 r2 q2
end
end L2
namespace L2
open PySem PySem.Spec PyProof.Rows
noncomputable def MtM (X:Cx) (id:String) (r:V→List V→Hp→VK→Prop):Prop:=
 ∀(pins:List (Addr×Obj)) (s:Shared) (σ:St) (H:Hp) (x:V) (xs:List V) (v:Value) (us:List Value) (Q:VK),Inv X pins σ H s→RelV x v→Vals xs us→r x xs H Q→
  wpAny (model X.prog X.w) X.A (call (.builtin id) (v::us)) (EP X pins σ Q) X.xe s
theorem Vals.one:∀{x:V}{us:List Value},Vals [x] us→∃u,us=[u]∧RelV x u
 | _,_,.cons r .nil=>⟨_,rfl,r⟩
theorem Vals.two:∀{x y:V}{us:List Value},Vals [x,y] us→∃u v,us=[u,v]∧RelV x u∧RelV y v
 | _,_,_,.cons r (.cons q .nil)=>⟨_,_,rfl,r,q⟩
theorem Vals.zero:∀{us:List Value},Vals [] us→us=[]
 | _,.nil=>rfl
theorem Vals.dropLast {xs:List V}{us:List Value} (h:Vals xs us):Vals xs.dropLast us.dropLast:=by
 induction h with
 | nil=>exact .nil
 | cons r t ih=>
  cases t with
  | nil=>exact .nil
  | cons q t'=>exact .cons r ih
theorem Vals.reverse {xs:List V}{us:List Value} (h:Vals xs us):Vals xs.reverse us.reverse:=by
 induction h with
 | nil=>exact .nil
 | cons r t ih=>rw [List.reverse_cons,List.reverse_cons];exact Vals.append ih (.cons r .nil)
theorem Vals.rep {xs:List V}{us:List Value} (h:Vals xs us):∀k:Nat,Vals (List.replicate k xs).flatten (List.replicate k us).flatten
 | 0=>.nil
 | k+1=>by
  rw [List.replicate_succ,List.replicate_succ,List.flatten_cons,List.flatten_cons]
  exact Vals.append h (Vals.rep h k)
theorem foldl_rep (aG:List Value):∀(k:Nat) (acc:List Value),
 List.foldl (fun x1 x2=>x1++x2) acc.toArray (List.replicate k aG.toArray)=(acc++(List.replicate k aG).flatten).toArray
 | 0,acc=>by simp
 | k+1,acc=>by
  have e:acc.toArray++aG.toArray=(acc++aG).toArray:=by simp
  have e2:(acc++aG)++(List.replicate k aG).flatten=acc++(List.replicate (k+1) aG).flatten:=by
   rw [List.replicate_succ,List.flatten_cons,List.append_assoc]
  rw [←e2,←foldl_rep aG k (acc++aG),←e,List.replicate_succ,List.foldl_cons]
section
variable {X : Cx} {pins : List (Addr × Obj)} {σ : St} {H : Hp} {s : Shared} {l b : Addr} {xs ys zs : List V}
theorem Inv.Rz {aG its':List Value}{n:Nat}{f:Array Value→Array Value}{t':Nat} (I:Inv X pins σ H s) (hH:H l=some (.lst xs))
 (e:s.heap.get? l=some {cls:=.type "list",data:=.seq aG.toArray n}) (hf:f aG.toArray=its'.toArray) (hv:Vals ys its') (hz:ys.length≤sizeLine) :
 Inv X pins σ (upd H l (.lst ys)) {s with heap:=s.heap.update l (Obj.mapSeq f),toks:=t'}:=by
 have q:=PySem.IsL.update e f
 rw [hf] at q
 refine I.write (x:=l) (e:=l) (by rw [hH];exact trivial) (.inl rfl) (fun b' u hb hu=>(Heap.get?_update_other s.heap (Obj.mapSeq f) (Ne.symm hb)).trans hu) ⟨_,q⟩ ?_
 exact⟨hz,its',_,hv,q⟩
theorem Inv.QK {aG:List Value}{t':Nat} (I:Inv X pins σ H s) (hv:Vals ys aG) (hz:ys.length≤sizeLine) :
 Inv X pins σ (upd H s.heap.objs.size (.lst ys)) {s with heap:=s.heap.push {cls:=.type "list",data:=.seq aG.toArray},toks:=t'}:=
 I.laid (fun _ _ q=>Heap.get?_push_of_some _ q) (Nat.le_refl _) ⟨hz,aG,0,hv,Heap.get?_push_size _ rfl⟩
theorem Inv.fresh (I:Inv X pins σ H s):H s.heap.objs.size=none:=I.aX.fresh (Nat.le_refl _)
theorem Inv.CI (I:Inv X pins σ H s) (hH:H l=some (.lst xs)):xs.length≤sizeLine∧∃(aG:List Value) (n:Nat),Vals xs aG∧xs.length=aG.length∧s.heap.get? l=some {cls:=.type "list",data:=.seq aG.toArray n}:=by
 obtain⟨z,aG,n,r,e⟩:=I.aX l _ hH
 exact⟨z,aG,n,r,r.length,e⟩
theorem zP {n:Nat} (h:n≤sizeLine):Builtin.List.listTooLong n=false:=by
 unfold Builtin.List.listTooLong
 exact decide_eq_false (by omega)
end
section
variable {X : Cx}
noncomputable def DV:V→List V→Hp→VK→Prop:=fun x vs H Q=>∃l xs y,x = .ref l∧vs=[y]∧H l=some (.lst xs)∧xs.length<sizeLine∧Q .non (upd H l (.lst (xs++[y])))
theorem jN:MtM X "list.append" DV:=by
 intro pins s σ H x vs v us Q I rx rv h
 obtain⟨l,xs,y,rfl,rfl,hH,hz,q⟩:=h
 cases rx
 obtain⟨u,rfl,ru⟩:=rv.one
 obtain⟨z,aG,n,r,hl,e⟩:=I.CI hH
 refine call_meets F.slot_list_append ⟨_,e,rfl⟩ F.entry_list_append (F.args_list_append_2 _ _) (PySem.list_append l aG.toArray n u (by rw [List.size_toArray];omega)) ⟨e,?_⟩
 refine⟨.non,_,I.Rz (its':=aG++[u]) hH e (by simp) (r.append (.cons ru .nil)) ?_,rfl,q⟩
 rw [List.length_append,List.length_singleton]
 omega
noncomputable def Dz:V→List V→Hp→VK→Prop:=fun x vs H Q=>∃l b xs zs,x = .ref l∧vs=[.ref b]∧H l=some (.lst xs)∧H b=some (.lst zs)∧xs.length+zs.length≤sizeLine∧Q .non (upd H l (.lst (xs++zs)))
theorem Ej:MtM X "list.extend" Dz:=by
 intro pins s σ H x vs v us Q I rx rv h
 obtain⟨l,b,xs,zs,rfl,rfl,hH,hB,hz,q⟩:=h
 cases rx
 obtain⟨u,rfl,ru⟩:=rv.one
 cases ru
 obtain⟨z,aG,n,r,hl,e⟩:=I.CI hH
 obtain⟨z2,yB,n2,r2,HK,e2⟩:=I.CI hB
 have hsz:aG.toArray.size+yB.toArray.size≤sizeLine:=by rw [List.size_toArray,List.size_toArray];omega
 have Iu:¬(!aG.toArray.isEmpty&&Builtin.List.listTooLong (aG.toArray.size+yB.toArray.size))=true:=by
  rw [zP hsz,Bool.and_false]
  exact Bool.false_ne_true
 refine call_meets F.slot_list_extend ⟨_,e,rfl⟩ F.entry_list_extend (F.args_list_extend_2 _ _)
  (AutoSeq1.list_extend_list_list_0 l aG.toArray n b yB.toArray n2 Iu (by rw [List.size_toArray];omega) (by omega)) ⟨e,e2,?_⟩
 refine⟨.non,_,I.Rz (its':=aG++yB) hH e (by simp) (r.append r2) ?_,rfl,q⟩
 rw [List.length_append]
 omega
noncomputable def RI:R2:=fun x y H Q=>∃l b xs zs,x = .ref l∧y = .ref b∧H l=some (.lst xs)∧H b=some (.lst zs)∧xs.length+zs.length≤sizeLine∧∀p,H p=none→Q (.ref p) (upd H p (.lst (xs++zs)))
theorem eO:lh X (binaryOp .Add) RI:=by
 intro pins s σ H x y v u Q I rx ry h
 obtain⟨l,b,xs,zs,rfl,rfl,hH,hB,hz,q⟩:=h
 cases rx
 cases ry
 obtain⟨z,aG,n,r,hl,e⟩:=I.CI hH
 obtain⟨z2,yB,n2,r2,HK,e2⟩:=I.CI hB
 refine PySem.P.add_list e e2 ?_ (by rw [List.size_toArray,List.size_toArray];omega)
 have ea:aG.toArray++yB.toArray=(aG++yB).toArray:=by simp
 rw [ea]
 exact⟨.ref _,_,I.QK (t':=s.toks) (r.append r2) (by rw [List.length_append];omega),rfl,q _ I.fresh⟩
noncomputable def Qq:R2:=fun x y H Q=>∃l k xs,x = .ref l∧y = .int k∧H l=some (.lst xs) ∧ -(2^63)≤k∧k<2^63∧xs.length*k.toNat≤sizeLine∧
 ∀p,H p=none→Q (.ref p) (upd H p (.lst (List.replicate k.toNat xs).flatten))
theorem len_rep {α:Type} (xs:List α) (k:Nat):(List.replicate k xs).flatten.length=k*xs.length:=by
 induction k with
 | zero=>simp
 | succ k ih=>rw [List.replicate_succ,List.flatten_cons,List.length_append,ih,Nat.succ_mul,Nat.add_comm]
theorem ox:lh X (binaryOp .Mult) Qq:=by
 intro pins s σ H x y v u Q I rx ry h
 obtain⟨l,k,xs,rfl,rfl,hH,h1,h2,hz,q⟩:=h
 cases rx
 obtain⟨t,rfl⟩:=ry
 obtain⟨z,aG,n,r,hl,e⟩:=I.CI hH
 have hlen:aG.toArray.size*k.toNat≤sizeLine:=by rw [List.size_toArray,←hl];exact hz
 have Zi:¬aG.toArray.size*k.toNat > (2^63 - 1) / 8:=by
  have:(sizeLine:Nat)≤(2^63 - 1) / 8:=by decide
  omega
 have abE:¬(!Builtin.List.listFitsIndex k)=true:=by
  rw [fitsIndex_both h1 h2]
  exact Bool.false_ne_true
 have Iu:¬Builtin.List.listTooLong (aG.toArray.size*k.toNat)=true:=by
  rw [zP hlen]
  exact Bool.false_ne_true
 have aef:List.foldl (fun x1 x2=>x1++x2) #[] (List.replicate (if aG.toArray.isEmpty=true then 0 else k.toNat) aG.toArray)=(List.replicate k.toNat aG).flatten.toArray:=by
  have f0:∀m:Nat,List.foldl (fun x1 x2=>x1++x2) #[] (List.replicate m aG.toArray)=(List.replicate m aG).flatten.toArray:=fun m=>by
   have:=foldl_rep aG m []
   rw [List.nil_append] at this
   exact this
  rw [f0]
  cases aG with
  | nil=>simp
  | cons a r'=>rw [if_neg (by simp)]
 refine wpAny_binaryOp_repeat_ref (T:="list") (U:="int") (by decide) ⟨_,e,rfl⟩ (fun s'=>typeIs_int s' k t) noFill_list_mul F.fills_int_mul F.slot_int_rmul repeat_list F.slot_int_index.lookup
  (call_meets F.slot_int_rmul (typeIs_int s k t) F.entry_int_rmul (F.args_int_rmul_2 _ _) (int___rmul___int_list k t l aG.toArray n)
    ⟨e,rfl,⟨_,e,rfl⟩,call_meets F.slot_list_mul ⟨_,e,rfl⟩ F.entry_list_mul (F.args_list_mul_2 _ _) (AutoListH.list___mul___list_int_3 l aG.toArray n k t abE Zi Iu) ⟨e,?_⟩⟩)
 rw [aef]
 exact⟨.ref _,_,I.QK (t':=s.toks) (r.rep k.toNat) (by rw [len_rep,Nat.mul_comm];exact hz),rfl,q _ I.fresh⟩
end
section
variable {prog : Program} {w : World} {A : Around} {E : Value→Shared→Prop} {s : Shared}
set_option maxRecDepth 100000 in
end
section
variable {X : Cx}
end
end L2
namespace L2
open PySem PySem.Spec PyProof.Rows
section
variable {κ : Type} [DecidableEq κ]
noncomputable def dQ (aS:List (κ×V)) (k:κ):Option V:=(aS.find? fun kv=>decide (kv.1=k)).map (·.2)
noncomputable def putK (aS:List (κ×V)) (k:κ) (v:V):List (κ×V):=
 if (aS.any fun kv=>decide (kv.1=k))=true then aS.map (fun kv=>if kv.1=k then (kv.1,v) else kv) else aS++[(k,v)]
noncomputable def Lf (aS:List (κ×V)) (k:κ):List (κ×V):=aS.filter fun kv=>decide (kv.1≠k)
theorem IA {k:κ}:dQ ([]:List (κ×V)) k=none:=rfl
theorem dW {p:κ×V}{r:List (κ×V)}{k:κ} (e:p.1=k):dQ (p::r) k=some p.2:=by simp [dQ,List.find?_cons,e]
theorem dU {p:κ×V}{r:List (κ×V)}{k:κ} (e:¬p.1=k):dQ (p::r) k=dQ r k:=by simp [dQ,List.find?_cons,e]
theorem pG (k:κ):∀aS:List (κ×V),(aS.any fun kv=>decide (kv.1=k))=(dQ aS k).isSome
 | []=>rfl
 | p::r=>by
  rw [List.any_cons]
  by_cases e:p.1=k
  · simp only [dW e,decide_eq_true e,Bool.true_or,Option.isSome_some]
  · rw [dU e,decide_eq_false e,Bool.false_or];exact pG k r
theorem As (k j:κ) (y:V):∀aS:List (κ×V),dQ (aS.map fun kv=>if kv.1=k then (kv.1,y) else kv) j=(dQ aS j).map fun x=>if j=k then y else x
 | []=>rfl
 | p::r=>by
  have ih:=As k j y r
  rw [List.map_cons]
  by_cases h:p.1=k
  · rw [if_pos h]
    by_cases e:p.1=j
    · rw [dW (p:=(p.1,y)) e,dW e,Option.map_some,if_pos (e.symm.trans h)]
    · rw [dU (p:=(p.1,y)) e,dU e,ih]
  · rw [if_neg h]
    by_cases e:p.1=j
    · rw [dW (p:=p) e,dW e,Option.map_some,if_neg (fun z=>h (e.trans z))]
    · rw [dU (p:=p) e,dU e,ih]
theorem wG (k j:κ) (y:V):∀aS:List (κ×V),dQ aS k=none→dQ (aS++[(k,y)]) j=if j=k then some y else dQ aS j
 | [],_=>by
  by_cases e:k=j
  · rw [if_pos e.symm];exact dW (p:=(k,y)) e
  · rw [if_neg (fun z=>e z.symm)];exact dU (p:=(k,y)) e
 | p::r,hn=>by
  rw [List.cons_append]
  have hk:¬p.1=k:=fun z=>by rw [dW z] at hn;cases hn
  rw [dU hk] at hn
  have ih:=wG k j y r hn
  by_cases e:p.1=j
  · rw [dW e,dW e,if_neg (fun z=>hk (e.trans z))]
  · rw [dU e,dU e,ih]
theorem Hs (aS:List (κ×V)) (k j:κ) (y:V):dQ (putK aS k y) j=if j=k then some y else dQ aS j:=by
 unfold putK
 by_cases a:(aS.any fun kv=>decide (kv.1=k))=true
 · rw [if_pos a,As]
   rw [pG] at a
   by_cases e:j=k
   · obtain⟨x,hx⟩:=Option.isSome_iff_exists.mp a
     rw [if_pos e,e,hx,Option.map_some,if_pos rfl]
   · rw [if_neg e]
     cases dQ aS j with
     | none=>rfl
     | some x=>rw [Option.map_some,if_neg e]
 · rw [if_neg a]
   refine wG k j y aS ?_
   rw [pG] at a
   cases q:dQ aS k with
   | none=>rfl
   | some x=>rw [q] at a;exact(a rfl).elim
theorem lU (aS:List (κ×V)) (k:κ) (v:V):(putK aS k v).length≤aS.length+1:=by
 unfold putK
 split
 · rw [List.length_map];omega
 · rw [List.length_append,List.length_cons,List.length_nil];omega
theorem su.nu {o:Option V}{u:Option Value} (r:su o u):o.isSome=u.isSome:=by
 cases o with
 | none=>cases u with
  | none=>rfl
  | some _=>exact(show False from r).elim
 | some _=>cases u with
  | none=>exact(show False from r).elim
  | some _=>rfl
theorem su.getD {o:Option V}{u:Option Value}{d:V}{d':Value} (r:su o u) (rd:RelV d d'):RelV (o.getD d) (u.getD d'):=by
 cases o with
 | none=>cases u with
  | none=>exact rd
  | some _=>exact(show False from r).elim
 | some _=>cases u with
  | none=>exact(show False from r).elim
  | some _=>exact r
theorem KV.val {aS:List (κ×V)}{vs:List (κ×Value)} (r:KV aS vs) (k:κ):su (dQ aS k) (valueAt vs k):=by
 unfold KV at r
 induction r with
 | nil=>exact True.intro
 | @cons p q ps qs h t ih=>
  obtain⟨h1,h2⟩:=h
  by_cases e:p.1=k
  · have e':q.1=k:=h1.symm.trans e
    have b:valueAt (q::qs) k=some q.2:=by simp [valueAt,List.find?_cons,e']
    rw [dW e,b];exact h2
  · have e':¬q.1=k:=fun z=>e (h1.trans z)
    have b:valueAt (q::qs) k=valueAt qs k:=by simp [valueAt,List.find?_cons,e']
    rw [dU e,b];exact ih
theorem KV.any {aS:List (κ×V)}{vs:List (κ×Value)} (r:KV aS vs) (k:κ):(aS.any fun kv=>decide (kv.1=k))=vs.any fun kv=>decide (kv.1=k):=by
 unfold KV at r
 induction r with
 | nil=>rfl
 | cons h t ih=>rw [List.any_cons,List.any_cons,ih,h.1]
theorem KV.Oq {aS:List (κ×V)}{vs:List (κ×Value)} (r:KV aS vs) (k:κ) {y:V}{u:Value} (ry:RelV y u) :
 KV (aS.map fun kv=>if kv.1=k then (kv.1,y) else kv) (vs.map fun kv=>if kv.1=k then (kv.1,u) else kv):=by
 unfold KV at r ⊢
 induction r with
 | nil=>exact .nil
 | @cons p q ps qs h t ih=>
  rw [List.map_cons,List.map_cons]
  refine .cons ?_ ih
  obtain⟨h1,h2⟩:=h
  by_cases e:p.1=k
  · rw [if_pos e,if_pos (h1.symm.trans e)];exact⟨h1,ry⟩
  · rw [if_neg e,if_neg (fun z=>e (h1.trans z))];exact⟨h1,h2⟩
theorem KV.put {aS:List (κ×V)}{vs:List (κ×Value)} (r:KV aS vs) (k:κ) {y:V}{u:Value} (ry:RelV y u):KV (putK aS k y) (stored vs k u):=by
 unfold putK stored
 rw [r.any k]
 by_cases e:(vs.any fun kv=>decide (kv.1=k))=true
 · rw [if_pos e,if_pos e];exact r.Oq k ry
 · rw [if_neg e,if_neg e];exact Paired.snoc r ⟨rfl,ry⟩
theorem KV.drop {aS:List (κ×V)}{vs:List (κ×Value)} (r:KV aS vs) (k:κ):KV (Lf aS k) (without vs k):=by
 unfold KV at r ⊢
 unfold Lf without
 induction r with
 | nil=>exact .nil
 | @cons p q ps qs h t ih=>
  obtain⟨h1,h2⟩:=h
  rw [List.filter_cons,List.filter_cons]
  by_cases e:p.1=k
  · have a:¬decide (p.1≠k)=true:=by simp [e]
    have b:¬decide (q.1≠k)=true:=by simp [h1.symm.trans e]
    rw [if_neg a,if_neg b];exact ih
  · have e':¬q.1=k:=fun z=>e (h1.trans z)
    have a:decide (p.1≠k)=true:=by simp [e]
    have b:decide (q.1≠k)=true:=by simp [e']
    rw [if_pos a,if_pos b];exact .cons ⟨h1,h2⟩ ih
theorem KV.keys {aS:List (κ×V)}{vs:List (κ×Value)} (r:KV aS vs):aS.map (·.1)=vs.map (·.1):=by
 unfold KV at r
 induction r with
 | nil=>rfl
 | cons h t ih=>rw [List.map_cons,List.map_cons,ih,h.1]
theorem KV.length {aS:List (κ×V)}{vs:List (κ×Value)} (r:KV aS vs):aS.length=vs.length:=Paired.length r
end
theorem Ai {P:Program}{w:World}{k:Key}{u:Value} (r:RelV (kV k) u):(cz P w).is k u=true:=by
 cases k with
 | inl i=>obtain⟨t,e⟩:=(show ∃t,u=Value.int i t from r);subst e;exact y4 P w i t
 | inr x=>obtain⟨t,e⟩:=(show ∃t,u=Value.str x t from r);subst e;exact Aw P w x t
theorem wY {P:Program}{w:World}:∀{ks:List Key}{us:List Value},Vals (ks.map kV) us→ItemsAre (cz P w) ks us
 | [],_,r=>by rw [List.map_nil] at r;cases r;exact .nil
 | k::ks,_,r=>by
  rw [List.map_cons] at r
  cases r with
  | cons h t=>exact .cons (Ai h) (wY t)
noncomputable abbrev KT (H:Hp):List (List Key×V)→List (List Key×Addr×Value)→Prop:=Paired fun p q=>p.1=q.1∧H q.2.1=some (.tup (p.1.map kV))∧RelV p.2 q.2.2
theorem KT.val {H:Hp}{aS:List (List Key×V)}{xs:List (List Key×Addr×Value)} (r:KT H aS xs) (k:List Key):su (dQ aS k) ((atKey xs k).map (·.2)):=by
 induction r with
 | nil=>exact True.intro
 | @cons p q ps qs h t ih=>
  obtain⟨h1,_,h2⟩:=h
  by_cases e:p.1=k
  · have e':q.1=k:=h1.symm.trans e
    have b:atKey (q::qs) k=some q.2:=by simp [atKey,List.find?_cons,e']
    rw [dW e,b];exact h2
  · have e':¬q.1=k:=fun z=>e (h1.trans z)
    have b:atKey (q::qs) k=atKey qs k:=by simp [atKey,List.find?_cons,e']
    rw [dU e,b];exact ih
theorem KT.Oq {H:Hp}{aS:List (List Key×V)}{xs:List (List Key×Addr×Value)} (r:KT H aS xs) (k:List Key) {y:V}{u:Value} (ry:RelV y u) :
 KT H (aS.map fun kv=>if kv.1=k then (kv.1,y) else kv) (xs.map (putAt k u)):=by
 induction r with
 | nil=>exact .nil
 | @cons p q ps qs h t ih=>
  rw [List.map_cons,List.map_cons]
  refine .cons ?_ ih
  obtain⟨h1,h2,h3⟩:=h
  unfold putAt
  by_cases e:p.1=k
  · rw [if_pos e,if_pos (h1.symm.trans e)];exact⟨h1,h2,ry⟩
  · rw [if_neg e,if_neg (fun z=>e (h1.trans z))];exact⟨h1,h2,h3⟩
theorem KT.put {H:Hp}{aS:List (List Key×V)}{xs:List (List Key×Addr×Value)} (r:KT H aS xs) (k:List Key) {b:Addr}{y:V}{u:Value} (hb:H b=some (.tup (k.map kV))) (ry:RelV y u) :
 KT H (putK aS k y) (storedH xs k b u):=by
 have e:(aS.any fun kv=>decide (kv.1=k))=(atKey xs k).isSome:=by
  rw [pG,(r.val k).nu,Option.isSome_map]
 unfold putK storedH
 rw [e]
 by_cases q:(atKey xs k).isSome=true
 · rw [if_pos q,if_pos q];exact r.Oq k ry
 · rw [if_neg q,if_neg q];exact Paired.snoc r ⟨rfl,hb,ry⟩
theorem KT.keeps {H H':Hp}{aS:List (List Key×V)}{xs:List (List Key×Addr×Value)} (r:KT H aS xs) (ht:∀b ys,H b=some (.tup ys)→H' b=some (.tup ys)):KT H' aS xs:=
 Paired.NX r fun _ _ z=>⟨z.1,ht _ _ z.2.1,z.2.2⟩
section
variable {P : Program} {w : World} {H : Hp} {h : Heap} {a : Addr}
theorem Lo {u:HO} (ok:iW P w H h) (e:Rd H a u):cv P w H h a u:=e.ok ok
theorem LY {aS:List (Key×V)} (ok:iW P w H h) (e:Rd H a (.dK aS)):aS.length≤sizeLine∧(a==sysModules)=false∧∃vs,KV aS vs∧h.DictOf (cz P w) a vs:=
 show cv P w H h a (.dK aS) from Lo ok e
theorem PM {aS:List (Key×V)} (ok:iW P w H h) (e:H a=some (.dK aS)):aS.length≤sizeLine∧(a==sysModules)=false∧∃vs,KV aS vs∧h.DictOf (cz P w) a vs:=LY ok (.inl e)
theorem AW {ks:List Key} (ok:iW P w H h) (e:H a=some (.tup (ks.map kV))):(tupleKind (cz P w)).is h ks a:=by
 obtain⟨_,aG,r,o,h1,h2,n,h3⟩:=(show cv P w H h a (.tup (ks.map kV)) from ok a _ e)
 exact⟨o,aG.toArray,n,h1,h2,h3,by simpa using wY r⟩
theorem LW {aS:List (List Key×V)} (ok:iW P w H h) (e:Rd H a (.dT aS)):aS.length≤sizeLine∧(a==sysModules)=false∧
 ∃xs,KT H aS xs∧h.DictOfH (tupleKind (cz P w)) a xs:=by
 obtain⟨z,y,xs,r,o,es,ep,h1,h2,h3,h4,h5⟩:=(show cv P w H h a (.dT aS) from Lo ok e)
 refine⟨z,y,xs,r,o,es,ep,h1,h2,h3,h4,fun x hx=>?_,h5⟩
 have all:∀{l:List (List Key×V)}{m:List (List Key×Addr×Value)},KT H l m→∀x∈m,(tupleKind (cz P w)).is h x.1 x.2.1:=by
  intro l m q
  induction q with
  | nil=>intro x hx;exact nomatch hx
  | @cons p q ps qs hq t ih=>
   intro x hx
   rcases List.mem_cons.mp hx with e|hx
   · subst e
     exact AW ok (by rw [←hq.1];exact hq.2.1)
   · exact ih x hx
 exact all r x hx
theorem P0 {aS:List (List Key×V)} (ok:iW P w H h) (e:H a=some (.dT aS)):aS.length≤sizeLine∧(a==sysModules)=false∧
 ∃xs,KT H aS xs∧h.DictOfH (tupleKind (cz P w)) a xs:=LW ok (.inl e)
end
noncomputable def vI (H:Hp) (a:Addr) (y:V) (r:Option V):Prop:=
 (∃aS k,Rd H a (.dK aS)∧y=kV k∧r=dQ aS k)∨∃aS k b,Rd H a (.dT aS)∧y = .ref b∧H b=some (.tup (k.map kV))∧r=dQ aS k
noncomputable def Aj (H:Hp) (a:Addr) (y v:V) (H':Hp):Prop:=
 (∃aS k,H a=some (.dK aS)∧y=kV k∧aS.length<sizeLine∧H'=upd H a (.dK (putK aS k v))) ∨
 ∃aS k b,H a=some (.dT aS)∧y = .ref b∧H b=some (.tup (k.map kV))∧aS.length<sizeLine∧H'=upd H a (.dT (putK aS k v))
theorem vI.k {H:Hp}{a:Addr}{aS:List (Key×V)}{k:Key} (e:H a=some (.dK aS)):vI H a (kV k) (dQ aS k):=.inl ⟨aS,k,.inl e,rfl,rfl⟩
theorem vI.t {H:Hp}{a b:Addr}{aS:List (List Key×V)}{k:List Key} (e:H a=some (.dT aS)) (eb:H b=some (.tup (k.map kV))):vI H a (.ref b) (dQ aS k):=.inr ⟨aS,k,b,.inl e,rfl,eb,rfl⟩
theorem Aj.k {H:Hp}{a:Addr}{aS:List (Key×V)}{k:Key}{v:V} (e:H a=some (.dK aS)) (hl:aS.length<sizeLine):Aj H a (kV k) v (upd H a (.dK (putK aS k v))):=.inl ⟨aS,k,e,rfl,hl,rfl⟩
theorem Aj.t {H:Hp}{a b:Addr}{aS:List (List Key×V)}{k:List Key}{v:V} (e:H a=some (.dT aS)) (eb:H b=some (.tup (k.map kV))) (hl:aS.length<sizeLine) :
 Aj H a (.ref b) v (upd H a (.dT (putK aS k v))):=.inr ⟨aS,k,b,e,rfl,eb,hl,rfl⟩
section
variable {X : Cx} {pins : List (Addr × Obj)} {σ : St} {H : Hp} {s : Shared} {a : Addr} {y v : V} {u r : Value} {o : Option V} {A : Around} {E : Value→Shared→Prop}
theorem Inv.big (I:Inv X pins σ H s):sysModules<s.heap.objs.size:=by
 have h:mainGlobals<s.heap.objs.size:=(I.mod.glob.keeps I.bk).lt
 exact Nat.lt_trans (by decide) h
theorem ada {Q:Value→Shared→Prop} (hu:A.units+1<cLine) (I:Inv X pins σ H s) (g:vI H a y o) (ry:RelV y u) (h:∀s',Inv X pins σ H s'→Q (.bool o.isSome) s') :
 wpAny (model X.prog X.w) A (compareOp .In u (.ref a)) Q E s:=by
 rcases g with ⟨aS,k,e,ey,l⟩|⟨aS,k,b,e,ey,eb,l⟩
 · subst ey
   obtain⟨z,hd,vs,rel,dd⟩:=LY I.aX e
   refine wpAny_in_of (Ai ry) hd dd.mapOf ?_
   rw [←(rel.val k).nu,←l]
   exact h _ (I.tok _)
 · subst ey
   cases (show u=Value.ref b from ry)
   obtain⟨z,hd,xs,rel,dd⟩:=LW I.aX e
   refine wpAny_in_heap (tupleKind_room_in1 hu) (AW I.aX eb) hd dd ?_
   have q:=(rel.val k).nu
   rw [Option.isSome_map] at q
   rw [←q,←l]
   exact h _ (I.tok _)
theorem DF {h':Heap}{t':Nat}{ob:HO} (I:Inv X pins σ H s) (mu:Q1 (H a)) (hs:Heap.SameBut a s.heap h') (he:∃q,h'.get? a=some q) (new:cv X.prog X.w (upd H a ob) h' a ob) :
 Inv X pins σ (upd H a ob) {s with heap:=h',toks:=t'}:=
 I.write (x:=a) (e:=a) mu (.inl rfl) (fun b q hb z=>(hs.2 b hb).trans z) he new
theorem Nb {P:Program}{w:World}{H':Hp}{h':Heap}{aS:List (Key×V)}{vs:List (Key×Value)} (z:aS.length≤sizeLine) (hd:(a==sysModules)=false) (rel:KV aS vs) (dd:h'.DictOf (cz P w) a vs) :
 cv P w H' h' a (.dK aS):=⟨z,hd,vs,rel,dd⟩
theorem Fg {H':Hp}{Q:Unit→Shared→Prop} (hu:A.units+1<cLine) (I:Inv X pins σ H s) (g:Aj H a y v H') (ry:RelV y u) (rv:RelV v r) (h:∀s',Inv X pins σ H' s'→Q () s') :
 wpAny (model X.prog X.w) A (setItem (.ref a) u r) Q E s:=by
 rcases g with ⟨aS,k,e,ey,l,eH⟩|⟨aS,k,b,e,ey,eb,l,eH⟩
 · subst ey eH
   obtain⟨z,hd,vs,rel,dd⟩:=PM I.aX e
   have hz:vs.length≤sizeLine:=by rw [←rel.length];exact z
   have hl:(putK aS k v).length≤sizeLine:=by have:=lU aS k v;omega
   refine wpAny_setItem_pairs (hsz:=hz) (Ai ry) dd fun h' SY hs=>h _ ?_
   have he:∃q,h'.get? a=some q:=let ⟨q,_,_,hq,_⟩:=SY;⟨q,hq⟩
   exact DF I (by rw [e];exact True.intro) hs he (Nb hl hd (rel.put k rv) SY)
 · subst ey eH
   cases (show u=Value.ref b from ry)
   obtain⟨z,hd,xs,rel,dd⟩:=P0 I.aX e
   have hz:xs.length≤sizeLine:=by rw [←Paired.length rel];exact z
   have hl:(putK aS k v).length≤sizeLine:=by have:=lU aS k v;omega
   refine wpAny_setItem_heap (hsz:=hz) (tupleKind_room_in1 hu) (AW I.aX eb) dd fun h' SY hs=>h _ ?_
   obtain⟨q,es,ep,hq,h2,h3,h4,_,h5⟩:=SY
   refine DF I (by rw [e];exact True.intro) hs ⟨q,hq⟩ ⟨hl,hd,_,(rel.put k eb rv).keeps fun c ys ec=>?_,q,es,ep,hq,h2,h3,h4,h5⟩
   rw [bg (gB ec e (fun z=>nomatch z))]
   exact ec
end
section
variable {X : Cx} {pins : List (Addr × Obj)} {σ : St} {H : Hp} {s : Shared} {a : Addr} {aS : List (Key × V)} {k : Key} {u : Value} {A : Around} {E : Value→Shared→Prop}
end
noncomputable def R9 (i:Expr):Prop:=∀ov iv,subscripted i false ov iv=operate [ov,iv] (getItem ov iv)
theorem JG {prog:Program}{w:World}{A:Around}{E:Value→Shared→Prop}{s:Shared}{env:Env}{value slice:Expr}{pos:Pos}{T id:String}{Q:Value→Shared→Prop}
 (hl:typeLookup (.type T) "__getitem__"=pure (some (.builtin id))) (hs:R9 slice)
 (h:wpAny (model prog w) A (eval value env) (fun o s₁=>wpAny (model prog w) A (eval slice env) (fun i s₂=>s₂.TypeIs o T∧wpAny (model prog w) A (getItem o i) Q E s₂) E s₁) E s) :
 wpAny (model prog w) A (eval (.Subscript value slice pos) env) Q E s:=by
 refine Subscript_ (wpAny_mono h (fun o s₁ h₁=>wpAny_mono h₁ (fun i s₂ h₂=>?_) fun _ _ x=>x) fun _ _ x=>x)
 obtain⟨hT,h₂⟩:=h₂
 unfold subscriptTail
 refine wpAny_bind ?_
 rw [getitemInPython_of_ne hT.not_modules]
 refine wpAny_bind (wpAny_specialOf hT hl ?_)
 have fin:wpAny (model prog w) A (subscripted slice false o i) (fun r s₃=>wpAny (model prog w) A (letTemporaryGo value o r >>= fun _=>pure r) Q E s₃) E s₂:=by
  rw [hs o i]
  exact wpAny_operating (wpAny_mono h₂ (fun r s₃ h₃=>wpAny_bind (wpAny_letTemporaryGo (wpAny_pure h₃))) fun _ _ x=>x)
 first
  | exact wpAny_pure (wpAny_bind fin)
  | exact wpAny_bind (wpAny_pure (wpAny_bind fin))
  | exact wpAny_bind fin
noncomputable def Pt (ty td:TE):TE:=fun σ H Q=>ty σ H fun y H1=>td σ H1 fun x H2=>∃a o,x = .ref a∧vI H2 a y o∧Q (.bl o.isSome) H2
noncomputable def Mp (td ty tv:TE):TS:=fun D σ H=>tv σ H fun v H1=>td σ H1 fun x H2=>ty σ H2 fun y H3=>∃a H4,x = .ref a∧Aj H3 a y v H4∧D.nx σ H4
section
variable {X : Cx} {o i e value : Expr} {pos pos' YO : Pos} {td ty tv : TE}
theorem M7 (hu:X.A.units+1<cLine) (hi:PE X i ty) (ho:PE X o td):PC X .In i o (Pt ty td):=by
 intro pins s σ H Q I h
 refine ck (hi pins s σ H _ I h) fun iv s1 ⟨y,H1,I1,ry,q1⟩=>ck (ho pins s1 σ H1 _ I1 q1) fun u s2 ⟨x,H2,I2,rx,a,ov,ex,g,q2⟩=>?_
 subst ex
 obtain rfl:u=Value.ref a:=rx
 exact ada hu I2 g ry fun s3 I3=>⟨.bl ov.isSome,H2,I3,rfl,q2⟩
theorem JD (hu:X.A.units+1<cLine) (ho:PE X o td) (hi:PE X i ty) (hv:PE X value tv) (hs:swapsWith value (some (.Subscript o i pos')) pos.line X.env=pure false) :
 PS X (.Assign [.Subscript o i pos'] value pos) (Mp td ty tv):=by
 intro pins s σ H D I h
 refine wpAny_Assign_Subscript (ck (hv pins s σ H _ I h) fun r s1 ⟨v,H1,I1,rv,q1⟩=>ck (ho pins s1 σ H1 _ I1 q1) fun u s2 ⟨x,H2,I2,rx,q2⟩=>ck (hi pins s2 σ H2 _ I2 q2) fun iv s3 ⟨y,H3,I3,ry,a,H4,ex,g,q3⟩=>?_) hs
 subst ex
 obtain rfl:u=Value.ref a:=rx
 exact Fg hu I3 g ry rv fun s4 I4=>⟨σ,H4,I4,q3⟩
end
theorem FI {P:Program}{w:World}{H:Hp} (h:Heap) (hb:sysModules<h.objs.size):cv P w H (h.push {cls:=.type "dict",data:=.dict #[]}) h.objs.size (.dK []):=
 ⟨Nat.zero_le _,beq_eq_false_iff_ne.mpr (Ne.symm (Nat.ne_of_lt hb)),[],.nil,Heap.DictOf.new h⟩
noncomputable def Gd:TE:=fun _ H Q=>∀p,H p=none→Q (.ref p) (upd H p (.dK []))
section
variable {X : Cx} {pos : Pos}
theorem Gs:PE X (.Dict [] [] pos) Gd:=fun pins s σ H Q I h=>
 wpAny_Dict_empty ⟨.ref s.heap.objs.size,_,I.laid (a:=s.heap.objs.size) (o:=.dK []) (t':=s.toks) (fun _ _ q=>Heap.get?_push_of_some _ q) (Nat.le_refl _) (FI s.heap I.big),rfl,h _ (I.aX.fresh (Nat.le_refl _))⟩
end
noncomputable abbrev VV:List (V×V)→List (Value×Value)→Prop:=Paired fun p q=>RelV p.1 q.1∧RelV p.2 q.2
noncomputable def Ov (aS more:List (Key×V)):List (Key×V):=more.foldl (fun acc kv=>putK acc kv.1 kv.2) aS
theorem KV.merge:∀{more:List (Key×V)}{rs:List (Key×Value)}{aS:List (Key×V)}{vs:List (Key×Value)},KV more rs→KV aS vs→KV (Ov aS more) (merged vs rs):=by
 intro more rs aS vs r
 unfold KV at r
 induction r generalizing aS vs with
 | nil=>intro q;exact q
 | @cons p q ps qs h t ih=>
  intro r0
  have e:KV (putK aS p.1 p.2) (stored vs q.1 q.2):=by
   have:=r0.put p.1 h.2
   rw [←h.1];exact this
  exact ih e
structure M1 (X:Cx) (o:Expr) (m:Str) (apos:Pos) (e:Expr) (fE:Pos):Prop where
 base:attributeBase o m X.env (eval o X.env)=eval o X.env
 M6:((backTo fE (starEach [e] X.env)).all (fun x=>!x.1)&&(backToKw fE (keywordEach [] X.env)).all (fun x=>x.1.isSome)
  && decide (([e]:List Expr).length+([]:List Keyword).length+(if ([]:List Keyword).isEmpty then 0 else 1)<30))=true
 line:(apos.endLine==fE.line)=true
 trees:backTo fE (starEach [e] X.env)=[(false,eval e X.env)]
structure M2 (X:Cx) (o:Expr) (m:Str) (apos:Pos) (e f:Expr) (fE:Pos):Prop where
 base:attributeBase o m X.env (eval o X.env)=eval o X.env
 M6:((backTo fE (starEach [e,f] X.env)).all (fun x=>!x.1)&&(backToKw fE (keywordEach [] X.env)).all (fun x=>x.1.isSome)
  && decide (([e,f]:List Expr).length+([]:List Keyword).length+(if ([]:List Keyword).isEmpty then 0 else 1)<30))=true
 line:(apos.endLine==fE.line)=true
 trees:backTo fE (starEach [e,f] X.env)=[(false,eval e X.env),(false,eval f X.env)]
section
variable {X : Cx} {pins : List (Addr × Obj)} {σ : St} {H : Hp} {s : Shared} {a : Addr} {y d : V} {u r : Value} {o : Option V} {A : Around} {E : Value→Shared→Prop}
end
section
variable {X : Cx} {o e f : Expr} {apos fE : Pos} {td ty tx : TE}
end
section
variable {X : Cx} {pins : List (Addr × Obj)} {σ : St} {H : Hp} {s : Shared} {a : Addr} {aS : List (Key × V)} {A : Around} {E : Value→Shared→Prop}
end
section
variable {X : Cx} {pins : List (Addr × Obj)} {σ : St} {H : Hp} {s : Shared} {a : Addr} {y : V} {u : Value} {A : Around} {E : Value→Shared→Prop}
end
end L2
namespace Att
open PySem PySem.W PySem.Calls PyProof.Rows
theorem sg {P:Params}{h:Heap}:∀(ns:List Int) (vs:List Value),WellAll P h vs (ns.map WData.int)→IntsAre vs ns:=by
 intro ns
 induction ns with
 | nil=>
  intro vs w
  rw [List.map_nil] at w
  cases w
  exact .nil
 | cons n ns ih=>
  intro vs w
  rw [List.map_cons] at w
  cases w with
  | cons a b=>
   cases a
   exact .cons _ _ (ih _ b)
theorem EO {l:OpenLaw}{n:Nat} (hn:l.most=some n) {P:Params}{h:Heap}{args:List WData}{vals:List Value}
 (Kv:l.row.toRowW.claim.pre args=true) (IJ:WellAll P h vals args) :
 ∃a vs ns,vals=[Value.ref a]∧args=[WData.list (ns.map WData.int)]∧h.get? a=some {cls:=.type "list",data:=.seq vs.toArray}∧IntsAre vs ns∧ns.length≤n:=by
 have hsh:WShape.hasAll [] args [.list .int]=true:=(pre_splitW Kv).1
 have hc:l.pre.holds [] {args:=args}=true:=(pre_splitW Kv).2
 obtain⟨d,r,rfl,h1,h2⟩:=hasAllW_cons hsh
 obtain rfl:=hasAllW_nil h2
 obtain⟨xs,rfl,h3⟩:=hasW_list h1
 obtain⟨ns,rfl⟩:=items_int h3
 have hlen:ns.length≤n:=by
  unfold OpenLaw.pre at hc
  have h4:(WTm.not (.lt (.lit (.int (n:Int))) (.len (.arg 0)))).holds [] {args:=[.list (ns.map .int)]}=true:=by
   have h4:=(holds_andW hc).1
   rw [hn] at h4
   exact h4
  have h5:=condW_of h4 (w_not (w_lt w_lit (w_len_list (w_arg rfl))))
  rw [List.length_map] at h5
  refine Nat.le_of_not_lt fun q=>?_
  have q':(n:Int)<((ns.length:Nat):Int):=by omega
  first
   | (rw [decide_eq_true q'] at h5;exact absurd h5 (by decide))
   | (simp at h5;omega)
 cases IJ with
 | cons w1 w2=>
  cases w2
  cases w1 with
  | list ho hall=>exact⟨_,_,ns,rfl,rfl,ho,sg ns _ hall,hlen⟩
theorem Fj (l:OpenLaw) (args:List WData):l.row.toRowW.claim.post args (.bool true) args=true:=
 postW_of (r:=l.row.toRowW) (X:=(true==true))
  (show WShape.has [] (.bool true) .bool=true by first|rfl|decide|simp [WShape.has,WShape.arms,WShape.armsAll])
  (show (WTm.eq .res (.lit (.bool true))).value [] {args:=args,res:=some (.bool true),after:=args}=some (.bool (true==true)) from w_eq_bool (w_res rfl) w_lit) rfl
theorem Aa {l:OpenLaw}{n:Nat}{q:Program}{loose:List Str}{XP:(Str→Option Value)→Heap→Prop}{YP:World→Heap→Prop}{d:DefRec}
 (hn:l.most=some n) (Q0:d.params.defaults=[])
 (call:∀(w:World) (s₀ s₁:Shared) (mg mb:Str→Option Value) (fa:Addr) (o:Obj) (pm cd doc:Value) (a:Addr) (vs:List Value) (ns:List Int),
   Ground q loose [] XP w s₀ mg mb s₁.heap→YP w s₁.heap→
   s₁.heap.get? fa=some o→o.data = .func (docDef d.name d.params d.body d.scope pm cd doc)→s₁.heap.CodeRec cd d.name→mg d.name=some (.ref fa)→
   s₁.heap.get? a=some {cls:=.type "list",data:=.seq vs.toArray}→IntsAre vs ns→ns.length≤n→s₁.gens = #[]→
   codeAny (model l.prog w) callerA (.call (.ref fa) ⟨[.ref a],[]⟩) (fun r s'=>r = .ok (.ret (.bool true))∧OldK s₁.heap s'.heap∧s'.os=s₁.os∧AllBare s'.gens) s₁) :
 WalkO q loose XP YP l.row.toRowW d [] (fun f vs=>PySem.call f vs):=by
 intro w s₀ s₁ mg mb G Y fa o pm cd doc dV kV ho hd EI hD Qo hg args vals as Kv agb hrd IJ hlo
 obtain rfl:dV = .none:=Dflts.none hD Q0
 obtain rfl:kV = .none:=Dflts.noKw hD
 obtain⟨a,vs,ns,rfl,rfl,Oj,hints,hlen⟩:=EO hn Kv IJ
 refine enter_call (codeAny_mono (call w s₀ s₁ mg mb fa o pm cd doc a vs ns G Y ho (fd_plain hd) EI Qo Oj hints hlen hg) fun r s' hq=>?_)
 obtain⟨rfl,h2,h3,h4⟩:=hq
 exact⟨.inl ⟨.bool true,.bool true,[],rfl,fun _=>rfl,.bool true,Fj l _,fun _=>⟨List.Pairwise.nil,fun _ hm=>(nomatch hm)⟩⟩,h2,h3,h4⟩
section
variable {prog : Program} {w : World} {A : Around} {E : Value→Shared→Prop} {s : Shared} {K : Frag}
noncomputable def ledger (h:Heap) (L d:Addr):List (Addr×Obj):=(List.range h.objs.size).filterMap fun a=>if a=L∨a=d then none else (h.get? a).map fun o=>(a,o)
end
end Att
namespace L2
open PySem PySem.Spec PyProof.Rows
theorem wR:∀{vs:List Value}{ns:List Int},IntsAre vs ns→Vals (ns.map V.int) vs
 | _,_,.nil=>.nil
 | _,_,.cons n t h=>.cons ⟨t,rfl⟩ (wR h)
noncomputable def NC (H:Hp):Prop:=∀b,H b=none∨∃o xs,H b=some (.frz o (.lst xs))
theorem Iw {P:Program}{w:World}{K:PySem.W.Frag}{mg mb:Str→Option Value}{CX:CXT}{k:Nat}{fa a:Addr}{fd:FuncData}{x:Str}{sp:Sp}{s₁:Shared}{vs:List Value}{ns:List Int}
 (KX:K.In s₁.heap) (OR:s₁.heap.Ns mainGlobals mg) (hb:s₁.heap.Ns builtinsNs mb) (hbb:∀x:Str,x≠"__name__"→mb x=bootBuiltins x) (aa6:s₁.heap.NoLimit) (hg:s₁.gens = #[])
 (ha:s₁.heap.get? a=some {cls:=.type "list",data:=.seq vs.toArray}) (hi:IntsAre vs ns) (hl:ns.length≤sizeLine) (hr:gy k callerA)
 (F:∀base:Heap,K.In base→base.Ns mainGlobals mg→bz P w K mg base CX k fa fd [x] sp) (Qw:∀(s:Shared) (u:Value),BindsTo s fd ⟨[u],[]⟩ [(x,u)])
 (pF:∀H:Hp,NC H→fQ K H a (ns.map V.int)→sp [.ref a] H (fun v _=>v = .bl true) fun _ _ _=>False)
 (hCX:∀H e s',CX [] H s₁ (fun _ _ _=>False) e s'→False) :
 codeAny (model P w) callerA (.call (.ref fa) ⟨[.ref a],[]⟩) (fun r s'=>r = .ok (.ret (.bool true))∧OldK s₁.heap s'.heap∧s'.os=s₁.os∧AllBare s'.gens) s₁:=by
 have rv:=wR hi
 have YH:=hi.length
 have core:∀H:Hp,NC H→fQ K H a (ns.map V.int)→iW P w H s₁.heap→(∀b,H b≠none→b=a)→(H a≠none→K.lookup a=none)→
  codeAny (model P w) callerA (.call (.ref fa) ⟨[.ref a],[]⟩) (fun r s'=>r = .ok (.ret (.bool true))∧OldK s₁.heap s'.heap∧s'.os=s₁.os∧AllBare s'.gens) s₁:=by
  intro H hO hS aX hA hK
  have DZ:∀{b:Addr}{o:Obj},s₁.heap.get? b=some o→H b=none→(xM s₁.heap H).get? b=some o:=fun e n=>Ha e n
  have P6:∀{b:Addr}{o:Obj}{es:Array DictEntry}{ep:Nat},s₁.heap.get? b=some o→o.data = .dict es ep→H b=none:=fun {b o es ep} e d=>by
   cases q:H b with
   | none=>rfl
   | some u=>
    have e':b=a:=hA b (by rw [q];simp)
    subst e'
    rw [ha] at e;cases e
    have d':Data.seq vs.toArray _=Data.dict es ep:=d
    cases d'
  have Tg:∀{b:Addr}{m:Str→Option Value},s₁.heap.Ns b m→(xM s₁.heap H).Ns b m:=fun {b m} ⟨o,es,ep,e,d,r⟩=>⟨o,es,ep,DZ e (P6 e d),d,r⟩
  have hKb:K.In (xM s₁.heap H):=fun b o e=>DZ (KX b o e) (by
   cases q:H b with
   | none=>rfl
   | some u=>
    have e':b=a:=hA b (by rw [q];simp)
    subst e'
    rw [hK (by rw [q];simp)] at e;cases e)
  have hM:Mod K mg (xM s₁.heap H):=⟨hKb,Tg OR,⟨mb,Tg hb,hbb⟩,let ⟨mc,h1,h2⟩:=aa6;⟨mc,Tg h1,h2⟩⟩
  have e0:BF P w K mg (xM s₁.heap H) callerA [] s₁ H:=⟨rfl,hM,fun b o e=>K6 e,Nat.le_of_eq (Ff _ _),trivial,fun b hb=>absurd (show b∈([]:List Addr) from hb) (by simp),aX,.of_eq hg⟩
  refine codeAny_mono ((F _ hKb (Tg OR)).run callerA [] s₁ H ⟨[.ref a],[]⟩ [.ref a] [.ref a] _ _ hr e0 (Qw s₁ (.ref a)) (.cons rfl .nil) (pF H hO hS)) fun r s' h=>?_
  cases r with
  | error e=>exact(hCX H e s' h).elim
  | ok fl=>
   cases fl with
   | next=>exact False.elim h
   | brk=>exact False.elim h
   | cont=>exact False.elim h
   | ret u=>
    obtain⟨v,H',os,bare,un,adG,r',q⟩:=h
    have q':v = .bl true:=q
    subst q'
    obtain rfl:u=Value.bool true:=r'
    refine⟨rfl,OldK.of_keep fun b o e=>?_,os,bare⟩
    cases q:H b with
    | none=>exact un.keep b o e q (by intro z;exact absurd (show b∈([]:List Addr) from z) (by simp)) (by simp)
    | some u=>
     rcases hO b with z|⟨ob,xs,z⟩
     · rw [q] at z;cases z
     · have z2:=un.kI b ob _ z
       obtain⟨e1,_⟩:=aX b _ z
       obtain⟨e2,_⟩:=adG b _ z2
       rw [e] at e1;cases e1
       exact e2
 cases hk:K.lookup a with
 | some o=>
  have e:=KX a o hk
  rw [ha] at e
  cases e
  refine core (fun _=>none) (fun _=>.inl rfl) (.inr ⟨_,vs.toArray,_,hk,rfl,rfl,rfl,by rw [List.size_toArray,YH];exact hl,by simpa using rv⟩) (fun b u z=>by have z':(none:Option HO)=some u:=z;cases z') (fun b z=>absurd rfl z) fun z=>absurd rfl z
 | none=>
  refine core (fun b=>if b=a then some (.frz {cls:=.type "list",data:=.seq vs.toArray} (.lst (ns.map V.int))) else none) (fun b=>?_) (.inl (.inr ⟨{cls:=.type "list",data:=.seq vs.toArray},if_pos rfl⟩)) (fun b u z=>?_) (fun b z=>?_) fun _=>hk
  · by_cases hb:b=a
    · exact .inr ⟨_,_,if_pos hb⟩
    · exact .inl (if_neg hb)
  · by_cases hb:b=a
    · have z':=(if_pos hb).symm.trans z
      cases z'
      subst hb
      exact⟨ha,by rw [List.length_map];exact hl,vs,_,rv,ha⟩
    · have z':=(if_neg hb).symm.trans z
      cases z'
  · by_cases hb:b=a
    · exact hb
    · exact absurd (if_neg hb) z
end L2
namespace L2
open PySem PySem.Spec PyProof.Rows
noncomputable abbrev KOf {K:PySem.W.Frag}{h:Heap} (_:K.In h):PySem.W.Frag:=K
theorem Jj {l:PySem.W.OpenLaw}{n k:Nat}{q:Program}{loose:List Str}{XP:(Str→Option Value)→Heap→Prop}{YP:World→Heap→Prop}{d:DefRec}{K:Params→PySem.W.Frag}{CX:World→CXT}{sp:World→Sp}{x:Str}
 (hn:l.most=some n) (uW:n≤sizeLine) (Q0:d.params.defaults=[]) (hr:gy k callerA)
 (hY:∀(w:World) (h:Heap),YP w h→(K w.params).In h)
 (F:∀(w:World) (mg:Str→Option Value) (fa:Addr) (h:Heap),(K w.params).In h→h.Ns mainGlobals mg→mg d.name=some (.ref fa)→
   ∃fd:FuncData,(∀(s:Shared) (u:Value),BindsTo s fd ⟨[u],[]⟩ [(x,u)])∧
    ∀base:Heap,(K w.params).In base→base.Ns mainGlobals mg→bz l.prog w (K w.params) mg base (CX w) k fa fd [x] (sp w))
 (pF:∀(w:World) (H:Hp) (a:Addr) (ns:List Int),ns.length≤n→NC H→fQ (K w.params) H a (ns.map V.int)→sp w [.ref a] H (fun v _=>v = .bl true) fun _ _ _=>False)
 (hCX:∀(w:World) (H:Hp) (s:Shared) (e:Value) (s':Shared),CX w [] H s (fun _ _ _=>False) e s'→False) :
 PySem.W.WalkO q loose XP YP l.row.toRowW d [] (fun f vs=>PySem.call f vs):=by
 refine Att.Aa hn Q0 fun w s₀ s₁ mg mb fa o pm cd doc a vs ns G Y ho hd EI Qo Oj hints hlen hg=>?_
 have KX:=hY w _ Y
 obtain⟨fd,hb,hF⟩:=F w mg fa _ KX G.T.g Qo
 exact Iw KX G.T.g G.T.b G.T.builtins G.T.nolimit hg Oj hints (Nat.le_trans hlen uW) hr hF hb (fun H hO hS=>pF w H a ns hlen hO hS) fun H e s'=>hCX w H s₁ e s'
end L2
namespace L2
open PySem PySem.Spec PyProof.Rows
noncomputable def aB (s:Stmt):Arguments:=match s with
 | .FunctionDef _ a _ _ _ _ _ _ _ _=>a
 | _=>{posonlyargs:=[],args:=[],vararg:=none,kwonlyargs:=[],kw_defaults:=[],kwarg:=none,defaults:=[]}
noncomputable def ax (s:Stmt):List Stmt:=match s with
 | .FunctionDef _ _ b _ _ _ _ _ _ _=>b
 | _=>[]
noncomputable def ai (s:Stmt):Scope:=match s with
 | .FunctionDef _ _ _ _ _ _ sc _ _ _=>sc
 | _=>{kind:=.function,names:=[],isGenerator:=false,isCoroutine:=false}
noncomputable abbrev CX0:CXT:=fun _ _ _ _ _ _=>False
noncomputable abbrev E0:XK:=fun _ _ _=>False
theorem aA {X:Cx}:Passes CX0 X E0:=fun _ _ _ _ _ _ _ h=>h.elim
structure eP (K:PySem.W.Frag) (x qual:Str) (st:Stmt) (f:Addr) (fd:FuncData):Prop where
 ex:∃(oc:Value) (od:Option Addr) (kV doc pm:Value) (an:Option Addr) (bJ ct:Value) (JI:Array (Option Value)),
  fd=PySem.W.fnOf x qual (aB st) (ax st) (ai st) .none kV doc pm an bJ ct∧K.lookup f=some ⟨oc,od,.func fd,JI⟩∧PySem.W.codeIn K bJ qual=true
 kp:PySem.W.keepIn K (.ref f)=true
section
variable {P : Program} {w : World} {K : PySem.W.Frag} {mg : Str→Option Value} {base : Heap}
theorem eP.ok {x qual:Str}{st:Stmt}{f:Addr}{fd:FuncData}{N ps:List Str}{k:Nat}{sp:Sp} (F:eP K x qual st f fd) (S:aM N ps (ai st)) (len:∀vs H Q E,sp vs H Q E→vs.length=ps.length)
 (zY:∀(bJ:Value) (A:Around) (outer:List Env) (s:Shared) (H:Hp) (vs:List V) (Q:VK) (E:XK),gy k (A.deeper (envOfC qual (ai st) s.heap.objs.size f bJ))→sp vs H Q E→
   ∃t,lg (xD CX0 P w K mg base N qual (ai st) f bJ A outer s H E).JB (ax st) t∧t {nx:=fun _ H'=>Q .non H',rt:=Q} (start N vs) H):bz P w K mg base CX0 (k+1) f fd ps sp:=by
 obtain⟨oc,od,kV,doc,pm,an,bJ,ct,JI,rfl,lk,EI⟩:=F.ex
 refine L0 lk EI S len fun A outer s H vs Q E hr pF=>?_
 obtain⟨t,h,q⟩:=zY bJ A outer s H vs Q E hr pF
 exact⟨t,h.JB,q⟩
theorem eP.binds {x qual:Str}{st:Stmt}{f:Addr}{fd:FuncData}{ps:List Str} (F:eP K x qual st f fd)
 (h:∀(kV doc pm:Value) (an:Option Addr) (bJ ct:Value) (us:List Value),us.length=ps.length→bindArgs (PySem.W.fnOf x qual (aB st) (ax st) (ai st) .none kV doc pm an bJ ct) ⟨us,[]⟩=pure (ps.zip us)):Binds K fd ps []:=by
 obtain⟨oc,od,kV,doc,pm,an,bJ,ct,JI,rfl,lk,EI⟩:=F.ex
 exact .all (h kV doc pm an bJ ct)
theorem aT {x qual:Str}{st:Stmt}{f:Addr}{oc:Value}{od an:Option Addr}{JI:Array (Option Value)}{kV doc pm bJ ct:Value} (l:K.lookup f=some ⟨oc,od,.func (PySem.W.fnOf x qual (aB st) (ax st) (ai st) .none kV doc pm an bJ ct),JI⟩)
 (c:PySem.W.codeIn K bJ qual=true) (k:PySem.W.keepIn K (.ref f)=true):eP K x qual st f (PySem.W.fnOf x qual (aB st) (ax st) (ai st) .none kV doc pm an bJ ct):=⟨⟨oc,od,kV,doc,pm,an,bJ,ct,JI,rfl,l,c⟩,k⟩
end
theorem LH {A:Around}{k:Nat} (hr:gy k A):A.units+1<cLine:=Nat.lt_of_le_of_lt (Nat.add_le_add_left (by decide:1≤64) _) hr.units
section
variable {X : Cx}
theorem pv (i:Nat) {x:Str}{pos:Pos} (hN:X.N[i]? = some x:=by rfl) (hv:SI X.env.scope x:=by first|exact Or.inl rfl|exact Or.inr (Or.inl rfl)|exact Or.inr (Or.inr rfl)) (hd:(x==("__debug__":Str))=false:=by decide)
 (EI:(x==("__classdict__":Str))=false:=by decide):PE X (.Name x pos) (G8 i):=MB hN hv hd EI
end
theorem d5 {A B:Prop} (h:B):if false=true then A else B:=by
 rw [if_neg Bool.false_ne_true]
 exact h
theorem eS {A B:Prop} (h:A):if true=true then A else B:=by
 rw [if_pos rfl]
 exact h
theorem cj {c A B:Prop} [Decidable c] (h1:c→A) (h2:¬c→B):if c then A else B:=by
 by_cases h:c
 · rw [if_pos h]
   exact h1 h
 · rw [if_neg h]
   exact h2 h
noncomputable def av (H H':Hp):Prop:=∀b o,H b=some o→H' b=some o
theorem av.refl (H:Hp):av H H:=fun _ _ h=>h
theorem av.trans {H H1 H2:Hp} (a:av H H1) (b:av H1 H2):av H H2:=fun c o h=>b c o (a c o h)
theorem av.free {H H':Hp} (e:av H H') {l:Addr} (h:H' l=Option.none):H l=Option.none:=by
 cases q:H l with
 | none=>rfl
 | some o=>
  rw [e l o q] at h
  cases h
theorem av.seq {K:PySem.W.Frag}{H H':Hp}{a:Addr}{xs:List V} (e:av H H') (h:fQ K H a xs):fQ K H' a xs:=by
 rcases h with (h|⟨o,h⟩)|h
 · exact .inl (.inl (e _ _ h))
 · exact .inl (.inr ⟨o,e _ _ h⟩)
 · exact .inr h
section
variable {κ : Type} [DecidableEq κ]
end
end L2
namespace M
noncomputable def dG (i:Int):Nat:=97+(i % 26).toNat
noncomputable def cD (c:Int) (many:Nat):Nat:=1+(c / 26 % (if 24<many then 7 else 8)).toNat
noncomputable def nm (c:Int) (many k:Nat):List Nat:=
 if c / 1664 % 3=0∧many≤8 then List.replicate (1+((c+k) % 8).toNat) (dG c)
 else
  let b:=(List.replicate (cD c many) (dG c)).set (c / 208 % cD c many).toNat (dG (c+1+(k % 24:Nat)))
  if 23<k then b++[dG c] else b
theorem pJ (i:Int):97≤dG i:=by unfold dG;omega
theorem pW (i:Int):dG i≤122:=by unfold dG;omega
theorem qo (c:Int) (many:Nat):1≤cD c many:=by unfold cD;omega
theorem vZ (c:Int) (many:Nat):cD c many≤8∧(24<many→cD c many≤7):=by
 unfold cD
 split<;>omega
noncomputable def good (l:List Nat):Prop:=1≤l.length∧l.length≤8∧∀x∈l,97≤x∧x≤122
theorem AJ {α:Type}{l:List α}{i:Nat}{a x:α} (h:x∈l.set i a):x=a∨x∈l:=by
 rcases List.mem_or_eq_of_mem_set h with h|h
 · exact .inr h
 · exact .inl h
theorem JW {c:Int}{many k:Nat} (hk:k<many):good (nm c many k):=by
 have s1:=qo c many
 have s2:=vZ c many
 unfold nm
 split
 · refine⟨by simp,by simp;omega,fun x hx=>?_⟩
   have e:=(List.mem_replicate.mp hx).2
   rw [e];exact⟨pJ c,pW c⟩
 · have all:∀x∈(List.replicate (cD c many) (dG c)).set (c / 208 % cD c many).toNat (dG (c+1+(k % 24:Nat))),97≤x∧x≤122:=fun x hx=>by
    rcases AJ hx with e|hx
    · rw [e];exact⟨pJ _,pW _⟩
    · have e:=(List.mem_replicate.mp hx).2
      rw [e];exact⟨pJ c,pW c⟩
   dsimp only
   split
   · refine⟨by simp,by simp;omega,fun x hx=>?_⟩
     rcases List.mem_append.mp hx with h|h
     · exact all x h
     · have e:=List.mem_singleton.mp h
       rw [e];exact⟨pJ c,pW c⟩
   · exact⟨by simpa using s1,by simp;omega,all⟩
theorem wU {i j:Int} (h:dG i=dG j):i % 26=j % 26:=by unfold dG at h;omega
theorem IH (c:Int) (n:Nat) (h:1≤n):(c / 208 % n).toNat<n:=by
 have h1:0≤c / 208 % (n:Int):=Int.emod_nonneg _ (by omega)
 have h2:c / 208 % (n:Int)<n:=Int.emod_lt_of_pos _ (by omega)
 omega
theorem N3 {c:Int}{many k k':Nat} (hm:many≤32) (hk:k<many) (hk':k'<many) (h:nm c many k=nm c many k'):k=k':=by
 have s1:=qo c many
 have hp:=IH c (cD c many) s1
 unfold nm at h
 split at h
 · have e:=congrArg List.length h
   simp at e
   omega
 · dsimp only at h
   have get:∀(a:Nat) (t:List Nat),((List.replicate (cD c many) (dG c)).set (c / 208 % cD c many).toNat a++t)[(c / 208 % cD c many).toNat]? = some a:=fun a t=>by
    rw [List.getElem?_append_left (by simpa using hp),List.getElem?_set_self (by simpa using hp)]
   have abc:∀(a:Nat),((List.replicate (cD c many) (dG c)).set (c / 208 % cD c many).toNat a)[(c / 208 % cD c many).toNat]? = some a:=fun a=>by
    rw [List.getElem?_set_self (by simpa using hp)]
   split at h<;>split at h
   · have e:=congrArg (fun l=>l[(c / 208 % cD c many).toNat]?) h
     simp only [get] at e
     have e:=wU (Option.some.inj e)
     omega
   · have e:=congrArg List.length h
     simp at e
   · have e:=congrArg List.length h
     simp at e
   · have e:=congrArg (fun l=>l[(c / 208 % cD c many).toNat]?) h
     simp only [abc] at e
     have e:=wU (Option.some.inj e)
     omega
inductive Tr (α:Type) where
 | leaf (x:α)
 | knot (f:α) (l r:Tr α)
namespace Tr
variable {α : Type}
noncomputable def lv:Tr α→List α
 | .leaf x=>[x]
 | .knot _ l r=>l.lv++r.lv
noncomputable def kn:Tr α→List α
 | .leaf _=>[]
 | .knot f l r=>f::(l.kn++r.kn)
noncomputable def dp:Tr α→Nat
 | .leaf _=>1
 | .knot _ l r=>max l.dp r.dp+1
noncomputable def eR:Tr α→Bool
 | .leaf _=>true
 | .knot _ _ _=>false
noncomputable def name:Tr α→α
 | .leaf x=>x
 | .knot f _ _=>f
noncomputable def pl:Tr α→List (List Nat)
 | .leaf _=>[[]]
 | .knot _ l r=>[]::(l.pl.map (0 :: ·)++r.pl.map (1 :: ·))
noncomputable def sub:Tr α→List Nat→Option (Tr α)
 | t,[]=>some t
 | .leaf _,_::_=>none
 | .knot _ l r,i::p=>if i=0 then l.sub p else if i=1 then r.sub p else none
noncomputable def wk:Tr α→List Nat→List (List Nat×Tr α)
 | .leaf x,p=>[(p,.leaf x)]
 | .knot f l r,p=>(p,.knot f l r)::(l.wk (p++[0])++r.wk (p++[1]))
theorem ua (t:Tr α):1≤t.lv.length:=by
 induction t with
 | leaf x=>simp [lv]
 | knot f l r ihl ihr=>simp [lv];omega
theorem lV (t:Tr α):1≤t.dp:=by cases t<;>simp [dp]
theorem Lk (t:Tr α):t.dp≤t.lv.length:=by
 induction t with
 | leaf x=>simp [lv,dp]
 | knot f l r ihl ihr=>
  have:=l.ua
  have:=r.ua
  simp [lv,dp];omega
theorem Qi (t:Tr α):∀p,(t.wk p).map (·.1)=t.pl.map (p ++ ·):=by
 induction t with
 | leaf x=>intro p;simp [wk,pl]
 | knot f l r ihl ihr=>
  intro p
  simp only [wk,pl,List.map_cons,List.map_append,ihl,ihr,List.append_nil,List.map_map]
  congr 1
  congr 1
  · apply List.map_congr_left;intro a _;simp
  · apply List.map_congr_left;intro a _;simp
theorem pQ (t:Tr α):t.pl=(t.wk []).map (·.1):=by rw [Qi];simp
theorem MD (t:Tr α):∀p q s,(q,s)∈t.wk p→∃q',q=p++q'∧t.sub q'=some s:=by
 induction t with
 | leaf x=>
  intro p q s h
  simp only [wk,List.mem_singleton,Prod.mk.injEq] at h
  exact⟨[],by simp [h.1],by simp [sub,h.2]⟩
 | knot f l r ihl ihr=>
  intro p q s h
  simp only [wk,List.mem_cons,List.mem_append,Prod.mk.injEq] at h
  rcases h with ⟨h1,h2⟩|h|h
  · exact⟨[],by simp [h1],by simp [sub,h2]⟩
  · obtain⟨q',e,hs⟩:=ihl _ _ _ h
    exact⟨0::q',by simp [e],by simp [sub,hs]⟩
  · obtain⟨q',e,hs⟩:=ihr _ _ _ h
    exact⟨1::q',by simp [e],by simp [sub,hs]⟩
theorem i7 {t s:Tr α}{q:List Nat} (h:(q,s)∈t.wk []):t.sub q=some s:=by
 obtain⟨q',e,hs⟩:=MD t _ _ _ h
 simpa [e] using hs
theorem zk (t:Tr α):∀p,((t.wk p).filter (fun q=>q.2.eR)).map (fun q=>q.2.name)=t.lv:=by
 induction t with
 | leaf x=>intro p;simp [wk,eR,lv,name]
 | knot f l r ihl ihr=>
  intro p
  have e:(Tr.knot f l r).eR=false:=rfl
  simp only [wk,lv,List.filter_cons,e,List.filter_append,List.map_append,ihl,ihr]
  simp [ihl,ihr]
theorem kD (t:Tr α):∀p,(t.wk p).length+1=2*t.lv.length:=by
 induction t with
 | leaf x=>intro p;simp [wk,lv]
 | knot f l r ihl ihr=>
  intro p
  have h1:=ihl (p++[0])
  have h2:=ihr (p++[1])
  simp only [wk,lv,List.length_cons,List.length_append]
  omega
theorem M0 (t:Tr α):t.pl.length+1=2*t.lv.length:=by
 rw [pQ,List.length_map];exact t.kD []
theorem xo (t:Tr α):∀p q s,(q,s)∈t.wk p→q.length+s.dp≤p.length+t.dp:=by
 induction t with
 | leaf x=>
  intro p q s h
  simp only [wk,List.mem_singleton,Prod.mk.injEq] at h
  simp [h.1,h.2]
 | knot f l r ihl ihr=>
  intro p q s h
  simp only [wk,List.mem_cons,List.mem_append,Prod.mk.injEq] at h
  rcases h with ⟨h1,h2⟩|h|h
  · simp [h1,h2]
  · have:=ihl _ _ _ h;simp [dp] at this ⊢;omega
  · have:=ihr _ _ _ h;simp [dp] at this ⊢;omega
end Tr
noncomputable def firstOf {α:Type} [DecidableEq α] (x:α):List (List Nat×Tr α)→Option (List Nat)
 | []=>none
 | q::r=>if q.2.eR∧q.2.name=x then some q.1 else firstOf x r
noncomputable def Lm (j:Nat) (ds:List Nat):List Nat:=
 ds.take (j % (ds.length - 1))++[max (ds.getD (j % (ds.length - 1)) 0) (ds.getD (j % (ds.length - 1)+1) 0)+1]++ds.drop (j % (ds.length - 1)+2)
noncomputable def Ji:Nat→List Nat→List Nat
 | 0,ds=>ds
 | j+1,ds=>Lm j (Ji j ds)
theorem JF:∀m:Fin 8,((Ji (24+m.val) (List.replicate (25+m.val) 1)).all (· ≤ 24))=true:=by decide +kernel
noncomputable def merge {β:Type} (p:Nat) (t:β) (ts:List β):List β:=ts.take p++[t]++ts.drop (p+2)
theorem G3 {β:Type}:∀{p:Nat}{ts:List β}{a b:β},ts[p]? = some a→ts[p+1]? = some b→ts=ts.take p++[a,b]++ts.drop (p+2)
 | 0,ts,a,b,h1,h2=>by
  cases ts with
  | nil=>simp at h1
  | cons x r=>
   cases r with
   | nil=>simp at h2
   | cons y r=>simp at h1 h2;simp [h1,h2]
 | p+1,ts,a,b,h1,h2=>by
  cases ts with
  | nil=>simp at h1
  | cons x r=>
   have e:=G3 (p:=p) (ts:=r) (by simpa using h1) (by simpa using h2)
   simp only [List.take_succ_cons,List.drop_succ_cons,List.cons_append]
   rw [←e]
structure TI {α:Type} (names deeds:List α) (many j:Nat) (ts:List (Tr α)):Prop where
 perm:(ts.flatMap Tr.lv).Perm names
 kn:∀t∈ts,∀f∈t.kn,f∈deeds
 len:ts.length+j=many
 nl:names.length=many
 qa:24<many→ts.map Tr.dp=Ji j (List.replicate many 1)
theorem TI.start {α:Type}{names deeds:List α}:TI names deeds names.length 0 (names.map Tr.leaf) where
 perm:=by
  have e:(names.map Tr.leaf).flatMap Tr.lv=names:=by
   induction names with
   | nil=>rfl
   | cons a r ih=>simp [Tr.lv,ih]
  rw [e]
 kn:=fun t ht f hf=>by
  obtain⟨x,_,rfl⟩:=List.mem_map.mp ht
  simp [Tr.kn] at hf
 len:=by simp
 nl:=rfl
 qa:=fun _=>by
  have e:∀l:List α,(l.map Tr.leaf).map Tr.dp=List.replicate l.length 1:=fun l=>by
   induction l with
   | nil=>rfl
   | cons a r ih=>simp only [List.map_cons,List.length_cons,List.replicate_succ,ih,Tr.dp]
  exact e names
theorem TI.step {α:Type}{names deeds:List α}{many j:Nat}{ts:List (Tr α)} (I:TI names deeds many j ts) {p:Nat}{a b x y:Tr α}{f:α} (h1:ts[p]? = some a) (h2:ts[p+1]? = some b) (hp:24<many→p=j % (ts.length - 1)) (hf:f∈deeds)
 (cU:(x=a∧y=b)∨(x=b∧y=a)):TI names deeds many (j+1) (merge p (.knot f x y) ts):=by
 have e:=G3 h1 h2
 have fB:p+1<ts.length:=(List.getElem?_eq_some_iff.mp h2).1
 have hd:(Tr.knot f x y).dp=max a.dp b.dp+1:=by
  rcases cU with ⟨rfl,rfl⟩|⟨rfl,rfl⟩<;>simp [Tr.dp,Nat.max_comm]
 refine⟨?_,fun t ht g hg=>?_,?_,I.nl,fun hm=>?_⟩
 · have q:=I.perm
   rw [e] at q
   refine List.Perm.trans ?_ q
   unfold merge
   simp only [List.flatMap_append,List.flatMap_cons,List.flatMap_nil,List.append_nil]
   refine List.Perm.append_right _ (List.Perm.append_left _ ?_)
   simp only [Tr.lv]
   rcases cU with ⟨rfl,rfl⟩|⟨rfl,rfl⟩
   · exact List.Perm.refl _
   · exact List.perm_append_comm
 · unfold merge at ht
   have ma:a∈ts:=List.mem_of_getElem? h1
   have mb:b∈ts:=List.mem_of_getElem? h2
   simp only [List.mem_append,List.mem_singleton] at ht
   rcases ht with (ht|rfl)|ht
   · exact I.kn t (List.mem_of_mem_take ht) g hg
   · simp only [Tr.kn,List.mem_cons,List.mem_append] at hg
     rcases hg with rfl|hg|hg
     · exact hf
     · rcases cU with ⟨rfl,rfl⟩|⟨rfl,rfl⟩
       · exact I.kn _ ma g hg
       · exact I.kn _ mb g hg
     · rcases cU with ⟨rfl,rfl⟩|⟨rfl,rfl⟩
       · exact I.kn _ mb g hg
       · exact I.kn _ ma g hg
   · exact I.kn t (List.mem_of_mem_drop ht) g hg
 · have:=I.len
   unfold merge
   simp only [List.length_append,List.length_take,List.length_drop,List.length_singleton]
   omega
 · have q:=I.qa hm
   simp only [Ji,Lm]
   rw [←q]
   have hp:=hp hm
   simp only [List.length_map]
   rw [←hp]
   unfold merge
   simp only [List.map_append,List.map_take,List.map_drop,List.map_cons,List.map_nil,hd]
   have g1:(ts.map Tr.dp).getD p 0=a.dp:=by simp [List.getD,h1]
   have g2:(ts.map Tr.dp).getD (p+1) 0=b.dp:=by simp [List.getD,h2]
   rw [g1,g2]
theorem TI.end {α:Type}{names deeds:List α}{many j:Nat}{t:Tr α} (I:TI names deeds many j [t]) (hm:many≤32):t.lv.Perm names∧(∀f∈t.kn,f∈deeds)∧t.dp≤24:=by
 have hp:t.lv.Perm names:=by have:=I.perm;simpa using this
 refine⟨hp,I.kn t (by simp),?_⟩
 by_cases h:24<many
 · have q:=I.qa h
   have hl:=I.len
   simp at hl
   have ok:=JF ⟨many - 25,by omega⟩
   have e1:24+(many - 25)=j:=by omega
   have e2:25+(many - 25)=many:=by omega
   simp only [e1,e2] at ok
   rw [←q] at ok
   simpa using ok
 · have h1:=t.Lk
   have h2:=hp.length_eq
   have h3:=I.nl
   omega
end M
namespace M
noncomputable abbrev Pl:=List Nat
namespace Tr
variable {α : Type}
noncomputable def rk:Tr α→Nat
 | .leaf _=>1
 | .knot _ l r=>if l.rk=r.rk then l.rk+1 else max l.rk r.rk
theorem G4 (t:Tr α):1≤t.rk:=by
 induction t with
 | leaf x=>simp [rk]
 | knot f l r ihl ihr=>simp only [rk];split<;>omega
theorem pq (t:Tr α):t.sub []=some t:=by cases t<;>rfl
theorem xH (t:Tr α):∀(p q:Pl),t.sub (p++q)=(t.sub p).bind (fun s=>s.sub q):=by
 induction t with
 | leaf x=>
  intro p q
  cases p with
  | nil=>simp [pq]
  | cons i p=>simp [sub]
 | knot f l r ihl ihr=>
  intro p q
  cases p with
  | nil=>simp [pq]
  | cons i p=>
   simp only [List.cons_append,sub]
   split
   · exact ihl p q
   · split
     · exact ihr p q
     · rfl
theorem Lg {t l r:Tr α}{f:α}{p:Pl} (h:t.sub p=some (.knot f l r)):t.sub (p++[0])=some l:=by
 rw [xH,h];simp [sub,pq]
theorem Lu {t l r:Tr α}{f:α}{p:Pl} (h:t.sub p=some (.knot f l r)):t.sub (p++[1])=some r:=by
 rw [xH,h];simp [sub,pq]
noncomputable def pZ (h:Pl→Bool):Tr α→Pl→Bool
 | .leaf _,p=>h p
 | .knot _ l r,p=>h p||(if l.rk=r.rk then pZ h l (p++[0])&&pZ h r (p++[1]) else if r.rk<l.rk then pZ h l (p++[0]) else pZ h r (p++[1]))
end Tr
noncomputable def cnt (p:Pl) (bx:List (Option Pl)):Nat:=bx.countP fun o=>match o with|some q=>p.isPrefixOf q|none=>false
noncomputable def held (bx:List (Option Pl)) (p:Pl):Bool:=bx.any fun o=>o==some p
theorem cnt_nil (bx:List (Option Pl)):cnt [] bx=bx.countP (·.isSome):=by
 unfold cnt
 apply List.countP_congr
 intro o _
 cases o<;>simp
theorem EZ {α:Type} (t:Tr α) (g:Pl→Bool) (hg:∀q s,(q,s)∈t.wk []→g q=s.eR):t.pl.filter g=((t.wk []).filter (fun q=>q.2.eR)).map (·.1):=by
 rw [Tr.pQ,List.filter_map]
 congr 1
 apply List.filter_congr
 intro q hq
 exact hg q.1 q.2 hq
theorem iH {α:Type} [DecidableEq α] {x:α}:∀(l:List (List Nat×Tr α)),firstOf x l=firstOf x (l.filter (fun q=>q.2.eR))
 | []=>rfl
 | q::r=>by
  have ih:=iH (x:=x) r
  by_cases hq:q.2.eR=true
  · simp only [List.filter_cons,hq,if_true]
    unfold firstOf
    rw [ih]
  · simp only [List.filter_cons,hq,if_false]
    rw [firstOf,if_neg (fun z=>hq z.1)]
    exact ih
theorem j5 {α:Type} [DecidableEq α] {x:α}:∀(l:List (List Nat×Tr α)) (i:Nat),(∀q∈l.take i,q.2.name≠x)→firstOf x l=firstOf x (l.drop i)
 | [],i,_=>by simp
 | q::r,0,_=>by simp
 | q::r,i+1,h=>by
  have ih:=j5 (x:=x) r i (fun q hq=>h q (by simp [hq]))
  rw [List.drop_succ_cons,←ih,firstOf,if_neg (fun z=>h q (by simp) z.2)]
theorem Ah {α:Type} [DecidableEq α] {x:α}{l:List (List Nat×Tr α)}{i:Nat}{q:List Nat×Tr α} (h:∀q∈l.take i,q.2.name≠x) (e:l[i]? = some q) (hl:q.2.eR=true) (hx:q.2.name=x):firstOf x l=some q.1:=by
 rw [j5 l i h]
 have:l.drop i=q::l.drop (i+1):=by
  obtain⟨hi,e'⟩:=List.getElem?_eq_some_iff.mp e
  rw [List.drop_eq_getElem_cons hi,e']
 rw [this,firstOf,if_pos ⟨hl,hx⟩]
theorem xC {α:Type}{t:Tr α}{p:Pl} (h:p∈t.pl):∃s,t.sub p=some s∧(p,s)∈t.wk []:=by
 rw [Tr.pQ] at h
 obtain⟨⟨q,s⟩,hq,rfl⟩:=List.mem_map.mp h
 exact⟨s,Tr.i7 hq,hq⟩
theorem ir {α:Type} (t:Tr α):t.pl.length≤2*t.lv.length:=by have:=t.M0;omega
theorem Lz {α:Type}{t:Tr α}{p:Pl} (h:p∈t.pl):p.length<t.dp:=by
 obtain⟨s,_,hs⟩:=xC h
 have:=t.xo [] _ _ hs
 have:=s.lV
 simp at *;omega
structure lI (many:Nat) (t:Tr (List Nat)) (c c':Int):Prop where
 perm:t.lv.Perm ((List.range many).map (nm c many))
 kn:∀f∈t.kn,f∈(List.range 3).map (nm c' 3)
 dp:t.dp≤24
theorem sr {β:Type}{g:Nat→β}{n:Nat} (h:∀i j,i<n→j<n→g i=g j→i=j):((List.range n).map g).Nodup:=by
 unfold List.Nodup
 rw [List.pairwise_map]
 have:(List.range n).Pairwise (· ≠ ·):=List.nodup_range
 refine List.Pairwise.imp_of_mem ?_ this
 intro a b ha hb CP e
 exact CP (h a b (List.mem_range.mp ha) (List.mem_range.mp hb) e)
theorem Tr.Kq {α:Type} (t:Tr α):∀p q s,(q,s)∈t.wk p→(s.eR=true→s.name∈t.lv)∧(s.eR=false→s.name∈t.kn):=by
 induction t with
 | leaf x=>
  intro p q s h
  simp only [Tr.wk,List.mem_singleton,Prod.mk.injEq] at h
  rw [h.2];simp [Tr.eR,Tr.lv,Tr.name]
 | knot f l r ihl ihr=>
  intro p q s h
  simp only [Tr.wk,List.mem_cons,List.mem_append,Prod.mk.injEq] at h
  rcases h with ⟨_,h2⟩|h|h
  · rw [h2];simp [Tr.eR,Tr.kn,Tr.name]
  · have:=ihl _ _ _ h
    simp only [Tr.lv,Tr.kn,List.mem_append,List.mem_cons]
    exact⟨fun z=>.inl (this.1 z),fun z=>.inr (.inl (this.2 z))⟩
  · have:=ihr _ _ _ h
    simp only [Tr.lv,Tr.kn,List.mem_append,List.mem_cons]
    exact⟨fun z=>.inr (this.1 z),fun z=>.inr (.inr (this.2 z))⟩
end M
set_option linter.all false
namespace M
variable {α β γ : Type}
inductive au (α:Type)
 | take (x:α) (i:Int)
 | join (f:α) (i j h:Int)
 | put (i s:Int)
 | fetch (s i:Int)
noncomputable def tO (k:Int) (i:Int):Prop:=0≤i∧i<k
noncomputable instance (k i:Int):Decidable (tO k i):=by unfold tO;infer_instance
namespace au
noncomputable def bn:au α→List Int
 | .take _ i=>[i]
 | .join _ i j h=>[i,j,h]
 | .put i _=>[i]
 | .fetch _ i=>[i]
noncomputable def sn:au α→List Int
 | .put _ s=>[s]
 | .fetch s _=>[s]
 | _=>[]
noncomputable def ok (k m:Int) (d:au α):Prop:=(∀i∈d.bn,tO k i)∧∀s∈d.sn,tO m s
noncomputable instance (k m:Int) (d:au α):Decidable (d.ok k m):=by unfold ok;infer_instance
noncomputable def set (d:au α) (v:β) (st:List β×List β):List β×List β:=match d with
 | .take _ i=>(st.1.set i.toNat v,st.2)
 | .join _ _ _ h=>(st.1.set h.toNat v,st.2)
 | .put _ s=>(st.1,st.2.set s.toNat v)
 | .fetch _ i=>(st.1.set i.toNat v,st.2)
noncomputable def val (z:β) (tk:α→β) (jn:α→β→β→β) (d:au α) (st:List β×List β):β:=match d with
 | .take x _=>tk x
 | .join f i j _=>jn f (st.1.getD i.toNat z) (st.1.getD j.toNat z)
 | .put i _=>st.1.getD i.toNat z
 | .fetch s _=>st.2.getD s.toNat z
noncomputable def go (z:β) (tk:α→β) (jn:α→β→β→β) (st:List β×List β) (d:au α):List β×List β:=d.set (d.val z tk jn st) st
theorem Jt (d:au α) (v:β) (st:List β×List β):(d.set v st).1.length=st.1.length∧(d.set v st).2.length=st.2.length:=by
 cases d<;>simp [set]
theorem xJ {z:β}{tk:α→β}{jn:α→β→β→β} (st:List β×List β) (d:au α):(go z tk jn st d).1.length=st.1.length∧(go z tk jn st d).2.length=st.2.length:=Jt d _ st
theorem Dy (d:au α) (g:β→γ) (v:β) (st:List β×List β):d.set (g v) (st.1.map g,st.2.map g)=((d.set v st).1.map g,(d.set v st).2.map g):=by
 cases d<;>simp [set,List.map_set]
noncomputable def rows (z:β) (tk:α→β) (jn:α→β→β→β) (k m:Nat) (row:List (au α)):List β×List β:=row.foldl (go z tk jn) (List.replicate k z,List.replicate m z)
theorem Iy {z:β}{tk:α→β}{jn:α→β→β→β} (row:List (au α)):∀st:List β×List β,(row.foldl (go z tk jn) st).1.length=st.1.length∧(row.foldl (go z tk jn) st).2.length=st.2.length:=by
 induction row with
 | nil=>intro st;exact⟨rfl,rfl⟩
 | cons d r ih=>intro st;have:=ih (go z tk jn st d);have:=@xJ α β z tk jn st d;simp only [List.foldl_cons];omega
noncomputable def vt (C:β→Prop) (st:List β×List β):Prop:=(∀x∈st.1,C x)∧∀x∈st.2,C x
theorem mJ {C:β→Prop}{z:β} (hz:C z) {l:List β} (h:∀x∈l,C x) (i:Nat):C (l.getD i z):=by
 rw [List.getD_eq_getElem?_getD]
 cases e:l[i]? with
 | none=>exact hz
 | some x=>exact h x (List.mem_of_getElem? e)
theorem mem_set {l:List β}{i:Nat}{v x:β} (h:x∈l.set i v):x=v∨x∈l:=by
 induction l generalizing i with
 | nil=>simp at h
 | cons a l ih=>
  cases i with
  | zero=>simp only [List.set_cons_zero,List.mem_cons] at h ⊢;rcases h with h|h;exact .inl h;exact .inr (.inr h)
  | succ i=>
   simp only [List.set_cons_succ,List.mem_cons] at h ⊢
   rcases h with h|h
   · exact .inr (.inl h)
   · rcases ih h with h|h
     · exact .inl h
     · exact .inr (.inr h)
theorem JY {C:β→Prop}{d:au α}{v:β}{st:List β×List β} (hv:C v) (h:vt C st):vt C (d.set v st):=by
 cases d<;>refine⟨fun x hx=>?_,fun x hx=>?_⟩
 all_goals first|exact h.1 x hx|exact h.2 x hx|skip
 all_goals
  rcases mem_set hx with z|z
  · exact z▸hv
  · first|exact h.1 x z|exact h.2 x z
theorem Mv {C:β→Prop}{z:β}{tk:α→β}{jn:α→β→β→β} (hz:C z) (ht:∀x,C (tk x)) (hj:∀f a b,C a→C b→C (jn f a b)) {st:List β×List β} (h:vt C st) (d:au α):vt C (go z tk jn st d):=by
 refine JY ?_ h
 cases d with
 | take x i=>exact ht x
 | join f i j k=>exact hj _ _ _ (mJ hz h.1 _) (mJ hz h.1 _)
 | put i s=>exact mJ hz h.1 _
 | fetch s i=>exact mJ hz h.2 _
theorem KZ {C:β→Prop}{z:β} (hz:C z) (k m:Nat):vt C (List.replicate k z,List.replicate m z):=⟨fun x hx=>(List.eq_of_mem_replicate hx)▸hz,fun x hx=>(List.eq_of_mem_replicate hx)▸hz⟩
end au
noncomputable def ju [DecidableEq α] (t:Tr α) (f:α) (p:List Nat):Bool:=match t.sub p with
 | some (.knot g _ _)=>decide (g=f)
 | _=>false
noncomputable def over [DecidableEq α] (t:Tr α) (f:α):Option (List Nat)→Option (List Nat)→Option (List Nat)
 | some p,some q=>if p=p.dropLast++[0]∧q=p.dropLast++[1]∧ju t f p.dropLast=true then some p.dropLast else none
 | _,_=>none
noncomputable def mark [DecidableEq α] (t:Tr α):List (Option (List Nat))×List (Option (List Nat))→au α→List (Option (List Nat))×List (Option (List Nat)):=au.go none (fun x=>firstOf x (t.wk [])) (over t)
noncomputable def Gj (t:Tr α) (o:Option (List Nat)):Prop:=∀p,o=some p→p∈t.pl
theorem Hq (t:Tr α):∀(q p:List Nat) (s:Tr α),t.sub p=some s→(q++p,s)∈t.wk q:=by
 induction t with
 | leaf x=>
  intro q p s h
  cases p with
  | nil=>simp only [Tr.sub,Option.some.injEq] at h;simp [Tr.wk,h]
  | cons i p=>simp [Tr.sub] at h
 | knot f l r ihl ihr=>
  intro q p s h
  cases p with
  | nil=>simp only [Tr.sub,Option.some.injEq] at h;simp [Tr.wk,h]
  | cons i p=>
   simp only [Tr.sub] at h
   split at h
   · rename_i e
     have:=ihl (q++[0]) p s h
     simp only [Tr.wk,List.mem_cons,List.mem_append]
     subst e
     exact .inr (.inl (by simpa using this))
   · split at h
     · rename_i _ e
       have:=ihr (q++[1]) p s h
       simp only [Tr.wk,List.mem_cons,List.mem_append]
       subst e
       exact .inr (.inr (by simpa using this))
     · cases h
theorem Ny {t s:Tr α}{p:List Nat} (h:t.sub p=some s):p∈t.pl:=by
 have:=Hq t [] p s h
 rw [Tr.pQ]
 exact List.mem_map.mpr ⟨_,this,by simp⟩
theorem zd [DecidableEq α] (t:Tr α) (x:α):Gj t (firstOf x (t.wk [])):=by
 intro p hp
 have:∀l:List (List Nat×Tr α),firstOf x l=some p→p∈l.map (·.1):=by
  intro l
  induction l with
  | nil=>intro h;cases h
  | cons q r ih=>
   intro h
   simp only [firstOf] at h
   split at h
   · cases h;simp
   · exact List.mem_cons_of_mem _ (ih h)
 rw [Tr.pQ]
 exact this _ hp
theorem ou [DecidableEq α] {t:Tr α}{f:α}{p:List Nat} (h:ju t f p=true):∃l r,t.sub p=some (.knot f l r):=by
 unfold ju at h
 split at h
 · rename_i g l r e
   exact⟨l,r,by rw [e,of_decide_eq_true h]⟩
 · cases h
theorem ng [DecidableEq α] {t:Tr α}{f:α}{a b:Option (List Nat)}{p:List Nat} (h:over t f a b=some p):a=some (p++[0])∧b=some (p++[1])∧ju t f p=true:=by
 unfold over at h
 split at h
 · split at h
   · rename_i c
     cases h
     exact⟨by rw [←c.1],by rw [←c.2.1],c.2.2⟩
   · cases h
 · cases h
theorem KS [DecidableEq α] {t:Tr α}{f:α}{p:List Nat} (h:ju t f p=true):over t f (some (p++[0])) (some (p++[1]))=some p:=by
 show (if p++[0]=(p++[0]).dropLast++[0]∧p++[1]=(p++[0]).dropLast++[1]∧ju t f (p++[0]).dropLast=true then some (p++[0]).dropLast else none)=some p
 rw [List.dropLast_concat,if_pos ⟨rfl,rfl,h⟩]
theorem GN [DecidableEq α] (t:Tr α) (f:α) (a b:Option (List Nat)):Gj t (over t f a b):=by
 intro p hp
 obtain⟨l,r,h⟩:=ou (ng hp).2.2
 exact Ny h
theorem Hu [DecidableEq α] {t:Tr α}{st:List (Option (List Nat))×List (Option (List Nat))} (h:au.vt (Gj t) st) (d:au α):au.vt (Gj t) (mark t st d):=
 au.Mv (fun p hp=>nomatch hp) (fun x=>zd t x) (fun f a b _ _=>GN t f a b) h d
noncomputable def lastOf [DecidableEq α] (x:α) (l:List (List Nat×Tr α)):Option (List Nat):=l.foldl (fun acc q=>if q.2.eR=true∧q.2.name=x then some q.1 else acc) none
theorem yI [DecidableEq α] {t:Tr α} (nd:t.lv.Nodup) (x:α):lastOf x (t.wk [])=firstOf x (t.wk []):=by
 have:∀(l:List (List Nat×Tr α)) (acc:Option (List Nat)),((l.filter fun q=>q.2.eR).map fun q=>q.2.name).Nodup→
  l.foldl (fun acc q=>if q.2.eR=true∧q.2.name=x then some q.1 else acc) acc=(match firstOf x l with|some p=>some p|none=>acc):=by
  intro l
  induction l with
  | nil=>intro acc _;rfl
  | cons q r ih=>
   intro acc nd
   simp only [List.foldl_cons,firstOf]
   have OQ:((r.filter fun q=>q.2.eR).map fun q=>q.2.name).Nodup:=by
    simp only [List.filter_cons] at nd
    split at nd
    · exact(List.nodup_cons.mp nd).2
    · exact nd
   rw [ih _ OQ]
   by_cases c:q.2.eR=true∧q.2.name=x
   · rw [if_pos c,if_pos c]
     have:firstOf x r=none:=by
      simp only [List.filter_cons,if_pos c.1,List.map_cons,List.nodup_cons] at nd
      have h:=nd.1
      rw [c.2] at h
      clear ih nd OQ
      induction r with
      | nil=>rfl
      | cons q' r ih=>
       simp only [firstOf]
       rw [if_neg]
       · refine ih fun z=>h ?_
         simp only [List.filter_cons]
         split
         · exact List.mem_cons_of_mem _ z
         · exact z
       · rintro ⟨z1,z2⟩
         apply h
         simp only [List.filter_cons,if_pos z1,List.map_cons]
         exact z2▸List.mem_cons_self
     rw [this]
   · rw [if_neg c,if_neg c]
 unfold lastOf
 rw [this _ none (by rw [Tr.zk];exact nd)]
 cases firstOf x (t.wk [])<;>rfl
noncomputable def pP [DecidableEq α] (f:α) (a b:Option (List Nat)) (l:List (List Nat×Tr α)):Option (List Nat):=l.foldl (fun acc q=>if q.2.eR=false∧q.2.name=f∧a=some (q.1++[0])∧b=some (q.1++[1]) then some q.1 else acc) none
theorem xF [DecidableEq α] (t:Tr α) (f:α) (a b:Option (List Nat)):pP f a b (t.wk [])=over t f a b:=by
 have gen:∀(l:List (List Nat×Tr α)) (acc:Option (List Nat)) (o:Option (List Nat)),
  (∀q∈l,q.2.eR=false∧q.2.name=f∧a=some (q.1++[0])∧b=some (q.1++[1])→o=some q.1)→
  ((∃q∈l,q.2.eR=false∧q.2.name=f∧a=some (q.1++[0])∧b=some (q.1++[1]))∨acc=o)→
  l.foldl (fun acc q=>if q.2.eR=false∧q.2.name=f∧a=some (q.1++[0])∧b=some (q.1++[1]) then some q.1 else acc) acc=o:=by
  intro l
  induction l with
  | nil=>intro acc o _ h;rcases h with ⟨q,hq,_⟩|h;cases hq;exact h
  | cons q r ih=>
   intro acc o h1 h2
   simp only [List.foldl_cons]
   refine ih _ o (fun q' Gp=>h1 q' (List.mem_cons_of_mem _ Gp)) ?_
   by_cases c:q.2.eR=false∧q.2.name=f∧a=some (q.1++[0])∧b=some (q.1++[1])
   · rw [if_pos c]
     exact .inr (h1 q List.mem_cons_self c).symm
   · rw [if_neg c]
     rcases h2 with ⟨q',Gp,c'⟩|h2
     · rcases List.mem_cons.mp Gp with rfl|z
       · exact absurd c' c
       · exact .inl ⟨q',z,c'⟩
     · exact .inr h2
 refine gen _ none _ (fun q hq c=>?_) ?_
 · have hs:=Tr.i7 hq
   rw [c.2.2.1,c.2.2.2]
   refine KS ?_
   unfold ju
   rw [hs]
   have h1:=c.1
   have h2:=c.2.1
   generalize q.2=s at h1 h2
   cases s with
   | leaf x=>cases h1
   | knot g l r=>exact decide_eq_true h2
 · cases e:over t f a b with
   | none=>exact .inr rfl
   | some p=>
    obtain⟨h1,h2,h3⟩:=ng e
    obtain⟨l,r,hs⟩:=ou h3
    have:=Hq t [] p _ hs
    exact .inl ⟨_,this,rfl,rfl,by simpa using h1,by simpa using h2⟩
end M
namespace L2
open PySem PySem.Spec PyProof.Rows
theorem oi {α β:Type}{f:α→β→Sem (ForInStep β)}{g:β→α→β}:∀(l:List α) (b:β),(∀x∈l,∀b,f x b=pure (.yield (g b x)))→forIn l b f=pure (l.foldl g b)
 | [],b,_=>by rw [List.forIn_nil];rfl
 | x::l,b,h=>by
  rw [List.forIn_cons,h x List.mem_cons_self b,pure_bind]
  exact oi l _ fun y hy b=>h y (List.mem_cons_of_mem _ hy) b
noncomputable def cN (cells:List (Str×Addr)) (acc:List (Str×Addr)) (x:Str×NameKind):List (Str×Addr):=
 if (x.2==NameKind.free)=true then (match cells.lookup x.1 with|some a=>(x.1,a)::acc|none=>acc) else acc
noncomputable def lF (cells:List (Str×Addr)) (names:List (Str×NameKind)):List (Str×Addr):=names.foldl (cN cells) []
theorem gj {scope:Scope}{env:Env} (h:∀y∈scope.names,y.2=NameKind.free→∃a,env.cells.lookup y.1=some a):closureFor scope env=pure (lF env.cells scope.names):=by
 simp only [closureFor]
 rw [oi (g:=cN env.cells) scope.names [] (fun x hx b=>by
  obtain⟨n,k⟩:=x
  by_cases hk:(k==NameKind.free)=true
  · have hk':k = .free:=by simpa using hk
    obtain⟨a,e⟩:=h _ hx hk'
    have e':env.cells.lookup n=some a:=e
    simp only [hk,if_true,cN,e',cellOf,pure_bind]
    try rfl
  · simp only [hk,cN]
    try rfl)]
 rw [pure_bind]
 rfl
theorem tV {cells acc:List (Str×Addr)}{y:Str×NameKind}{x:Str}{c:Addr} (h:(cN cells acc y).lookup x=some c):acc.lookup x=some c∨cells.lookup x=some c:=by
 unfold cN at h
 split at h
 · split at h
   · rename_i a e
     rw [List.lookup_cons] at h
     split at h
     · rename_i hb
       have:x=y.1:=by simpa using hb
       rw [this,e];exact .inr h
     · exact .inl h
   · exact .inl h
 · exact .inl h
theorem uN {cells:List (Str×Addr)}:∀(names:List (Str×NameKind)) (acc:List (Str×Addr)) {x:Str}{c:Addr},(names.foldl (cN cells) acc).lookup x=some c→acc.lookup x=some c∨cells.lookup x=some c
 | [],_,_,_,h=>.inl h
 | y::r,acc,x,c,h=>by
  rcases uN r _ h with h|h
  · exact tV h
  · exact .inr h
theorem bX {cells:List (Str×Addr)}{names:List (Str×NameKind)}{x:Str}{c:Addr} (h:(lF cells names).lookup x=some c):cells.lookup x=some c:=by
 rcases uN names [] h with h|h
 · simp at h
 · exact h
theorem sZ {cells acc:List (Str×Addr)}{y:Str×NameKind}{x:Str}{c:Addr} (h:acc.lookup x=some c):∃c',(cN cells acc y).lookup x=some c':=by
 unfold cN
 split
 · split
   · rw [List.lookup_cons]
     split
     · exact⟨_,rfl⟩
     · exact⟨c,h⟩
   · exact⟨c,h⟩
 · exact⟨c,h⟩
theorem uK {cells:List (Str×Addr)}:∀(names:List (Str×NameKind)) (acc:List (Str×Addr)) {x:Str}{c:Addr},acc.lookup x=some c→∃c',(names.foldl (cN cells) acc).lookup x=some c'
 | [],_,_,c,h=>⟨c,h⟩
 | y::r,acc,x,c,h=>by
  obtain⟨c',h'⟩:=sZ (cells:=cells) (y:=y) h
  exact uK r _ h'
theorem zj {cells:List (Str×Addr)}:∀(names:List (Str×NameKind)) (acc:List (Str×Addr)) {x:Str}{a:Addr},(x,NameKind.free)∈names→cells.lookup x=some a→∃c',(names.foldl (cN cells) acc).lookup x=some c'
 | [],_,_,_,h,_=>nomatch h
 | y::r,acc,x,a,h,e=>by
  rcases List.mem_cons.mp h with rfl|h
  · refine uK r (cN cells acc (x,.free)) (x:=x) (c:=a) ?_
    unfold cN
    rw [if_pos (by rfl)]
    simp only [e]
    simp
  · exact zj r _ h e
theorem oQ {cells:List (Str×Addr)}{names:List (Str×NameKind)}{x:Str}{a:Addr} (h:(x,NameKind.free)∈names) (e:cells.lookup x=some a):(lF cells names).lookup x=some a:=by
 obtain⟨c',h'⟩:=zj names [] h e
 have:=bX h'
 rw [e] at this;cases this
 exact h'
theorem lookup_mem {α:Type}:∀{l:List (Str×α)}{x:Str}{k:α},l.lookup x=some k→(x,k)∈l
 | [],_,_,h=>by simp at h
 | (n,k')::r,x,k,h=>by
  rw [List.lookup_cons] at h
  split at h
  · rename_i hb
    cases h
    have:x=n:=by simpa using hb
    rw [this];exact List.mem_cons_self
  · exact List.mem_cons_of_mem _ (lookup_mem h)
theorem mS {env:Env}:∀{names:List (Str×NameKind)}{x:Str}{k:NameKind},
 (names.map fun (n,k)=>if (k==NameKind.free&&env.scope.kind == .function&&env.kindOf n==some .cell) then (n,NameKind.cell) else (n,k)).lookup x=some k→
 names.lookup x=some k∨(k = .cell∧names.lookup x=some .free)
 | [],_,_,h=>by simp at h
 | (n,k')::r,x,k,h=>by
  have ih:=@mS env r x k
  rw [List.map_cons] at h
  by_cases hc:(k'==NameKind.free&&env.scope.kind == .function&&env.kindOf n==some .cell)=true
  · have h2:List.lookup x ((n,NameKind.cell)::(r.map fun (n,k)=>if (k==NameKind.free&&env.scope.kind == .function&&env.kindOf n==some .cell) then (n,NameKind.cell) else (n,k)))=some k:=by
     simpa only [if_pos hc] using h
    rw [List.lookup_cons] at h2 ⊢
    split at h2
    · cases h2
      have:k' = .free:=by
       cases k'<;>first|rfl|simp at hc
      simp_all
    · exact ih h2
  · have h2:List.lookup x ((n,k')::(r.map fun (n,k)=>if (k==NameKind.free&&env.scope.kind == .function&&env.kindOf n==some .cell) then (n,NameKind.cell) else (n,k)))=some k:=by
     simpa only [if_neg hc] using h
    rw [List.lookup_cons] at h2 ⊢
    split at h2
    · exact .inl h2
    · exact ih h2
theorem ky {env:Env}:∀{names:List (Str×NameKind)}{x:Str},names.lookup x=some .free→
 (names.map fun (n,k)=>if (k==NameKind.free&&env.scope.kind == .function&&env.kindOf n==some .cell) then (n,NameKind.cell) else (n,k)).lookup x=some .cell ∨
 (names.map fun (n,k)=>if (k==NameKind.free&&env.scope.kind == .function&&env.kindOf n==some .cell) then (n,NameKind.cell) else (n,k)).lookup x=some .free
 | [],_,h=>by simp at h
 | (n,k')::r,x,h=>by
  have ih:=@ky env r x
  rw [List.lookup_cons] at h
  rw [List.map_cons]
  dsimp only
  by_cases hc:(k'==NameKind.free&&env.scope.kind == .function&&env.kindOf n==some .cell)=true
  · rw [if_pos hc,List.lookup_cons]
    cases hb:(x==n) with
    | true=>exact .inl rfl
    | false=>
     rw [hb] at h
     exact ih h
  · rw [if_neg hc,List.lookup_cons]
    cases hb:(x==n) with
    | true=>
     rw [hb] at h
     exact .inr h
    | false=>
     rw [hb] at h
     exact ih h
noncomputable def pZ (X:Cx) (N:List Str) (scope:Scope) (C:Addr) (s:Shared) (H:Hp) (ex:List Addr):Cx:=
 {X with N:=N,s₀:=s,H₀:=H,env:=compEnvC scope (lF X.env.cells scope.names) C X.env,outer:=X.stack,ex:=ex,fn:=fun _=>false,pn:=[],xe:=fun _ _=>False}
structure vA (X:Cx) (scope:Scope) (x:Str) (N:List Str) (caps:List Nat):Prop where
 kind:scope.kind = .function
 xA:(scope.names.all fun y=>y.2 != NameKind.cell)=true
 Br:(scope.names.all fun y=>y.2 != NameKind.local || scope.names.lookup y.1==some NameKind.local)=true
 lx:scope.names.lookup x=some .local
 nd:N.Nodup
 n0:N[0]? = some x
 JJ:caps.map (fun j=>X.N[j]?)=N.tail.map some
 Gh:(N.tail.all fun y=>scope.names.lookup y==some NameKind.free)=true
 Cu:(scope.names.all fun y=>y.2 != NameKind.free||X.env.scope.names.lookup y.1==some NameKind.cell||X.env.scope.names.lookup y.1==some NameKind.free)=true
theorem vA.Cs {X:Cx}{scope:Scope}{x:Str}{N:List Str}{caps:List Nat} (S:vA X scope x N caps):∀y∈scope.names,y.2 ≠ .cell:=fun y hy=>by
 have h:=List.all_eq_true.mp S.xA y hy
 simpa using h
theorem vA.names {X:Cx}{scope:Scope}{x:Str}{N:List Str}{caps:List Nat} (S:vA X scope x N caps):∀y∈scope.names,y.2 = .local→scope.names.lookup y.1=some .local:=fun y hy e=>by
 have h:=List.all_eq_true.mp S.Br y hy
 simp only [e,bne_self_eq_false,Bool.false_or] at h
 simpa using h
theorem vA.aa4 {X:Cx}{scope:Scope}{x:Str}{N:List Str}{caps:List Nat} (S:vA X scope x N caps):∀y∈N.tail,scope.names.lookup y=some .free:=fun y hy=>by
 have h:=List.all_eq_true.mp S.Gh y hy
 simpa using h
theorem vA.frees {X:Cx}{scope:Scope}{x:Str}{N:List Str}{caps:List Nat} (S:vA X scope x N caps):∀y∈scope.names,y.2 = .free→(X.env.kindOf y.1=some .cell∨X.env.kindOf y.1=some .free):=fun y hy e=>by
 have h:=List.all_eq_true.mp S.Cu y hy
 simp only [e,bne_self_eq_false,Bool.false_or,Bool.or_eq_true] at h
 rcases h with h|h
 · exact .inl (by show X.env.scope.names.lookup y.1=_;simpa using h)
 · exact .inr (by show X.env.scope.names.lookup y.1=_;simpa using h)
noncomputable def bT (caps:List Nat) (σ:St) (o:Option V):St:=o::caps.map fun j=>(σ[j]?).join
theorem iW.adopt {P:Program}{w:World}{H:Hp}{h:Heap}{a:Addr}{o:HO} (x:iW P w H h) (hn:H a=none) (new:cv P w (upd H a o) h a o):iW P w (upd H a o) h:=fun b u e=>by
 by_cases hb:b=a
 · subst hb;rw [bI] at e;cases e;exact new
 · rw [bg hb] at e
   exact(x b u e).lB (fun c v _ q=>q) (fun c q=>by rw [bg (aL q hn)];exact q) fun c xs q=>by rw [bg (aL q hn)];exact q
section
variable {X : Cx} {pins : List (Addr × Obj)} {σ : St} {H : Hp} {s : Shared} {scope : Scope} {x : Str} {N : List Str} {caps : List Nat} {fp : List Addr}
theorem vA.cells (S:vA X scope x N caps) (ok:X.Ok):∀y∈scope.names,y.2=NameKind.free→∃a,X.env.cells.lookup y.1=some a:=fun y hy e=>ok.has _ (S.frees y hy e)
theorem vA.len (S:vA X scope x N caps):N.length=caps.length+1:=by
 have h:=congrArg List.length S.JJ
 simp only [List.length_map,List.length_tail] at h
 have h2:=S.n0
 cases N with
 | nil=>simp at h2
 | cons a r=>simp at h ⊢;omega
theorem vA.at (S:vA X scope x N caps) {i:Nat}{y:Str} (h:N[i+1]? = some y):∃j,caps[i]? = some j∧X.N[j]? = some y∧scope.names.lookup y=some .free:=by
 have h2:=S.n0
 cases hN:N with
 | nil=>rw [hN] at h2;simp at h2
 | cons a r=>
  rw [hN] at h
  have ht:N.tail[i]? = some y:=by rw [hN];simpa using h
  have e:=congrArg (fun l=>l[i]?) S.JJ
  simp only [List.getElem?_map,ht,Option.map_some] at e
  cases hc:caps[i]? with
  | none=>rw [hc] at e;simp at e
  | some j=>
   rw [hc] at e
   refine⟨j,rfl,?_,S.aa4 y ?_⟩
   · simpa using e
   · exact List.mem_of_getElem? ht
theorem Io (S:vA X scope x N caps) (I:Inv X pins σ H s) (hf:∀b∈fp,eX X pins H b) (fB:∀b∈fp,b<s.heap.objs.size) :
 (pZ X N scope (s.heap.objs.size+1) s H (s.heap.objs.size::fp)).Ok where
 mod:=I.ok.mod
 kind:=S.kind
 glob:=I.ok.glob
 blt:=I.ok.blt
 above:=Nat.le_succ _
 inj:=fun a b c e1 e2=>I.ok.inj a b c (bX e1) (bX e2)
 has:=fun y hy=>by
  have e:∃k,(relabel scope X.env).names.lookup y=some k∧(k = .cell∨k = .free):=by
   rcases hy with h|h
   · exact⟨_,h,.inl rfl⟩
   · exact⟨_,h,.inr rfl⟩
  obtain⟨k,e,hk⟩:=e
  have jT:scope.names.lookup y=some .free:=by
   rcases mS (env:=X.env) e with h|⟨_,h⟩
   · rcases hk with rfl|rfl
     · exact absurd rfl (S.Cs _ (lookup_mem h))
     · exact h
   · exact h
  obtain⟨a,ea⟩:=S.cells I.ok _ (lookup_mem jT) rfl
  exact⟨a,oQ (lookup_mem jT) ea⟩
 IT:=fun _ _ h=>by cases h
 hd:=I.ok.hd
 frames:=I.ok.frames
 Ad:=.inl rfl
 Ac:=fun b hb=>by
  rcases List.mem_cons.mp hb with rfl|hb
  · refine⟨Nat.ne_of_lt (Nat.lt_succ_self _),fun y c e z=>?_⟩
    exact(I.sv (Nat.le_refl _) (I.aX.fresh (Nat.le_refl _))).2.2.2.2.1 y c (bX e) z
  · refine⟨Nat.ne_of_lt (Nat.lt_succ_of_lt (fB b hb)),fun y c e z=>?_⟩
    exact(hf b hb).2.2.2.2.1 y c (bX e) z
 bs:=I.bs
 Bo:=Nat.le_trans I.ok.Bo I.sz
 uC:=fun b o e hb=>by
  rcases List.mem_cons.mp hb with rfl|hb
  · exact absurd (Heap.lt_size (I.bk _ _ e)) (Nat.lt_irrefl _)
  · rcases (hf b hb).2.2.2.1 with z|z
    · exact I.ok.uC b o e z
    · exact absurd (Nat.lt_of_lt_of_le (Heap.lt_size (I.ok.bs b o e).1) z) (Nat.lt_irrefl _)
 qR:=fun b hb hs=>by
  have eN:=I.CB b hs
  rcases List.mem_cons.mp hb with rfl|hb
  · rcases List.mem_cons.mp eN with z|z
    · exact absurd I.lt (by rw [←z];exact Nat.lt_irrefl _)
    · exact I.QZ (Nat.le_refl _) z
  · rcases List.mem_cons.mp eN with z|z
    · exact(hf b hb).2.1 z
    · exact(hf b hb).2.2.1 z
 lP:=I.stack
 Fu:=I.sM
theorem Kk (S:vA X scope x N caps) (I:Inv X pins σ H s) (hf:∀b∈fp,eX X pins H b) (fB:∀b∈fp,b<s.heap.objs.size) {h₁:Heap}{m:Str→Option Value}{tk:Nat}
 (OR:h₁.Ns (s.heap.objs.size+1) m) (old:∀b o,s.heap.get? b=some o→h₁.get? b=some o) :
 Inv (pZ X N scope (s.heap.objs.size+1) s H (s.heap.objs.size::fp)) [] (bT caps σ none) H {s with heap:=h₁,toks:=tk} where
 ok:=Io S I hf fB
 os:=rfl
 bare:=I.bare
 base:=Un.kept old
 loc:=⟨m,OR,fun i y v e1 e2 _=>by
  cases i with
  | zero=>simp [bT] at e2
  | succ i=>
   obtain⟨j,hj,hX,jT⟩:=S.at e1
   have yT:(σ[j]?).join=some v:=by
    simp only [bT,List.getElem?_cons_succ,List.getElem?_map,hj,Option.map_some] at e2
    exact Option.some.inj e2
   have e3:σ[j]? = some (some v):=by
    cases hh:σ[j]? with
    | none=>rw [hh] at yT;simp at yT
    | some o=>rw [hh] at yT;simp at yT;rw [yT]
   obtain⟨m₂,_,hl⟩:=I.loc
   have hk:=S.frees _ (lookup_mem jT) rfl
   obtain⟨u,r,l⟩:=hl j y v hX e3 (by
    rcases hk with k|k
    · exact .inr (.inl k)
    · exact .inr (.inr k))
   refine⟨u,r,.inr ?_⟩
   rcases l with ⟨k,_⟩|⟨_,c,hc,hcell⟩
   · rcases hk with k'|k'<;>(rw [k] at k';cases k')
   · obtain⟨o,ho,hd⟩:=hcell
     exact⟨ky jT,c,oQ (lookup_mem jT) hc,o,old _ _ ho,hd⟩⟩
 cell:=fun y c e=>by
  obtain⟨v,o,ho,hd⟩:=I.cell y c (bX e)
  exact⟨v,o,old _ _ ho,hd⟩
 free:=I.aX.fresh (Nat.le_succ _)
 ix:=fun y c e=>I.ix y c (bX e)
 pin:=fun p hp=>by
  have:p∈([]:List (Addr×Obj)):=hp
  simp at this
 aX:=I.aX.kept old
 len:=by
  show (bT caps σ none).length=N.length
  rw [S.len];simp [bT]
end
noncomputable def eT (X:Cx) (ifs:List Expr) (t:TT):Prop:=
 ∀(pins:List (Addr×Obj)) (s:Shared) (σ:St) (H:Hp) (Q:Bool→Hp→Prop),Inv X pins σ H s→t σ H Q→
  wpAny (model X.prog X.w) X.A (forIn ifs true fun c r=>if r=true then do let ok ←isTrue c X.env (eval c X.env);pure (ForInStep.yield ok) else pure (ForInStep.yield r)) (TP X pins σ Q) X.xe s
noncomputable def Nn:TT:=fun _ H Q=>Q true H
theorem cS {X:Cx}:eT X [] Nn:=fun pins s σ H Q I h=>wpAny_tests_nil ⟨H,I,h⟩
theorem pj {X:Cx}{c:Expr}{t:TT} (h:PT X c t):eT X [c] t:=fun pins s σ H Q I hw=>wpAny_tests_one (h pins s σ H Q I hw)
noncomputable def mH (J:It) (caps:List Nat) (tc:TT) (te:TE) (σ:St) (H1:Hp) (Q:VK):Prop:=
 ∃W:Nat→Nat→List V→Hp→Prop,(∃m,W 0 m [] H1)∧∀i m ys H,W i m ys H→
  (J.stop i H∧∀p,H p=none→Q (.ref p) (upd H p (.lst ys))) ∨
  (J.go i H∧ys.length<sizeLine∧∃N:List V→Hp→Prop,(∀ys' H',N ys' H'→∃m',m'<m∧W (i+1) m' ys' H')∧∀v H',J.Fp i H v H'→
    tc (bT caps σ (some v)) H' fun b H2=>if b=true then te (bT caps σ (some v)) H2 fun y H3=>N (ys++[y]) H3 else N ys H2)
noncomputable def Ag (wi:TI) (caps:List Nat) (tc:TT) (te:TE):TE:=fun σ H Q=>wi σ H fun J H1=>mH J caps tc te σ H1 Q
theorem Km {M:Model}{A:Around}{E:Value→Shared→Prop}{s:Shared}{m:Sem (Option Value)}{F:Value→Shared→Prop} (h:wpAny M A m (fun r s1=>∃u,r=some u∧wpAny M A (pure ():Sem Unit) (fun _ s2=>F u s2) E s1) E s) :
 wpAny M A m (fun r s1=>∃u,r=some u∧F u s1) E s:=fun Γ p hΓ=>
 Sem.wp_mono M Γ m (fun r p' s' h'=>by obtain⟨u,e,h'⟩:=h';exact⟨u,e,h' Γ p' hΓ⟩) (fun _ _ _ h'=>h') p s (h Γ p hΓ)
section
variable {X : Cx} {pins : List (Addr × Obj)} {σ : St} {H : Hp} {s : Shared} {scope : Scope} {x : Str} {N : List Str} {caps : List Nat} {fp : List Addr}
noncomputable abbrev lobj (aG:List Value) (k:Nat):Obj:={cls:=.type "list",data:=.seq aG.toArray k}
theorem uR {elt iter:Expr}{px pos:Pos}{ifs:List Expr}{tc:TT}{te:TE}{J:It}{it:Addr}{tn:Nat→Heap→Prop}{Q:VK}{RR:Value→Addr→Result→Shared→Prop}{E:Value→Shared→Prop}
 (fS:X.calm=true) (S:vA X scope x N caps) (hc:∀C s H ex,eT (pZ X N scope C s H ex) ifs tc) (he:∀C s H ex,PE (pZ X N scope C s H ex) elt te)
 (I:Inv X pins σ H s) (T:Turn X.prog X.w X.K (.Name x px) J fp it tn) (t0:tn 0 s.heap) (hf:∀b∈fp,eX X pins H b) (wc:mH J caps tc te σ H Q)
 (fin:∀D C s' m' H' ys,Inv X pins σ (upd H' D (.lst ys)) s'→Q (.ref D) (upd H' D (.lst ys))→s'.heap.Ns C m'→eX X pins (upd H' D (.lst ys)) C→C≠X.env.locals→RR (.ref D) C (.ok .next) s') :
 wpAny (model X.prog X.w) X.A (newList []) (fun acc s₃=>wpAny (model X.prog X.w) X.A (newFunctionEnv scope X.env.globals (lF X.env.cells scope.names) [] X.env.qual none .none (some X.env)) (fun Ga s₄=>
  codeAny (model X.prog X.w) X.A (.compStart (.ListComp elt [⟨.Name x px,iter,ifs,0⟩] scope pos) 0 (.ref it) acc {Ga with scope:=relabel scope X.env}) (RR acc Ga.locals) s₄) E s₃) E s:=by
 refine wpAny_newObj_type (wpAny_newFunctionEnv S.Cs (by intro y hy;simp at hy) (fun h₁ uB xT=>?_) S.kind)
 dsimp only at uB xT ⊢
 generalize Nq:s.heap.push {cls:=.type "list",dict:=none,data:=.seq ([]:List Value).toArray}=H2 at uB xT ⊢
 have hC:H2.objs.size=s.heap.objs.size+1:=by rw [←Nq,Heap.size_push]
 have Jh:s.heap.objs.size≠H2.objs.size:=by rw [hC];exact Nat.ne_of_lt (Nat.lt_succ_self _)
 have below:∀b,b<s.heap.objs.size→b≠H2.objs.size:=fun b hb=>by rw [hC];exact Nat.ne_of_lt (Nat.lt_succ_of_lt hb)
 have old:∀b o,s.heap.get? b=some o→h₁.get? b=some o:=fun b o e=>xT.extBut b o (below b (Heap.lt_size e)) (Heap.get?_push_of_some _ (Nq▸Heap.get?_push_of_some _ e))
 have GR:h₁.get? s.heap.objs.size=some (lobj [] 0):=xT.extBut _ _ Jh (Heap.get?_push_of_some _ (Nq▸Heap.get?_push_size _ rfl))
 have fB:∀b∈fp,b<s.heap.objs.size:=fun b hb=>by
  obtain⟨o,e,_⟩:=T.obj 0 _ t0 b hb
  exact Heap.lt_size e
 have AZ:s.heap.objs.size∉fp:=fun z=>Nat.lt_irrefl _ (fB _ z)
 have rn:eX X pins H s.heap.objs.size:=I.sv (Nat.le_refl _) (I.aX.fresh (Nat.le_refl _))
 have ym:eX X pins H H2.objs.size:=I.sv (by rw [hC];exact Nat.le_succ _) (I.aX.fresh (by rw [hC];exact Nat.le_succ _))
 rw [hC] at uB Jh ym ⊢
 clear hC
 generalize hD:s.heap.objs.size=D at GR AZ rn Jh
 have IY:=Kk S I hf fB (h₁:=h₁) (tk:=s.toks+([]:List (Str×Value)).length) uB old
 rw [hD] at IY uB ym
 generalize hY:pZ X N scope (D+1) s H (D::fp)=Y at IY
 have ze:Y.env=compEnvC scope (lF X.env.cells scope.names) (D+1) X.env:=by rw [←hY];rfl
 have ES:Y.ex=D::fp:=by rw [←hY];rfl
 have Zo:Y.fs=kO X.stack:=by rw [←hY];rfl
 have RC:Y.pn=[]:=by rw [←hY];rfl
 have HP:Y.env.locals=D+1:=by rw [ze];rfl
 have YB:eT Y ifs tc:=by rw [←hY];exact hc _ _ _ _
 have heY:PE Y elt te:=by rw [←hY];exact he _ _ _ _
 have prY:Y.prog=X.prog∧Y.w=X.w∧Y.K=X.K∧Y.calm=X.calm∧Y.A=X.A∧Y.N=N∧Y.xe=fun _ _=>False:=by rw [←hY];exact⟨rfl,rfl,rfl,rfl,rfl,rfl,rfl⟩
 obtain⟨BM,A9,LD,Ly,Fl,K3,Jk⟩:=prY
 have M3:∀{H':Hp}{pl:List (Addr×Obj)},(∀b∈fp,H' b=none)→(∀p∈pl,p.1=D)→∀b∈fp,eX Y pl H' b:=fun {H' pl} hn hp b hb=>by
  refine⟨hn b hb,?_,?_,.inl (by rw [ES];exact List.mem_cons_of_mem _ hb),fun y c e=>(IY.ok.Ac b (by rw [ES];exact List.mem_cons_of_mem _ hb)).2 y c e,fun p iF z=>?_⟩
  · exact(IY.ok.Ac b (by rw [ES];exact List.mem_cons_of_mem _ hb)).1
  · exact IY.ok.qR b (by rw [ES];exact List.mem_cons_of_mem _ hb)
  · rw [RC,List.nil_append] at iF
    exact AZ (by rw [←hp p iF,z];exact hb)
 have Ik:D∈Y.ex:=by rw [ES];exact List.mem_cons_self
 have FL:∀{H':Hp}{s':Shared}{σ':St}{aG:List Value}{k:Nat},Inv Y [] σ' H' s'→H' D=none→s'.heap.get? D=some (lobj aG k)→Inv Y [(D,lobj aG k)] σ' H' s':=fun {H' s' σ' aG k} I' hn e=>
  I'.iY fun p hp=>by
   have Kt:p=(D,lobj aG k):=by simpa using hp
   subst Kt
   refine⟨e,hn,(IY.ok.Ac D Ik).1,IY.ok.qR D Ik,fun v z=>?_⟩
   have z':Data.seq aG.toArray k=Data.cell v:=z
   cases z'
 obtain⟨W,⟨m0,w0⟩,turn⟩:=wc
 have loop:∀s₃:Shared,s₃={s with heap:=h₁,toks:=s.toks+([]:List (Str×Value)).length}→
  codeAny (model X.prog X.w) X.A (.compLoop (.ListComp elt [⟨.Name x px,iter,ifs,0⟩] scope pos) 0 (.ref it) (.ref D) Y.env) (RR (.ref D) (D+1)) s₃:=by
  rintro s₃ rfl
  refine codeAny_compLoop_tests
   (fun n s'=>∃i ys aG k H',Inv Y [(D,lobj aG k)] (bT caps σ none) H' s'∧Vals ys aG∧ys.length≤sizeLine∧tn i s'.heap∧(∀b∈fp,H' b=none)∧W i n ys H') ?_ m0
   ⟨0,[],[],0,H,FL IY rn.1 GR,.nil,Nat.zero_le _,T.keep _ _ _ t0 fun b _ o e=>old b o e,fun b hb=>(hf b hb).1,w0⟩
  rintro n s1 ⟨i,ys,aG,k,H1,I1,rv,hl,zm,fr1,w1⟩
  have Cv:∀p∈[(D,lobj aG k)],p.1=D:=fun p hp=>by
   have Kt:p=(D,lobj aG k):=by simpa using hp
   rw [Kt]
  rcases turn i n ys H1 w1 with ⟨stop,qn⟩|⟨go,hsz,Nx,hNx,step⟩
  · have z:=T.done Y BM A9 LD (Ly.trans fS) i [(D,lobj aG k)] s1 (bT caps σ none) H1 (notedBy (model X.prog X.w) X.A Y.env fun e s'=>RR (.ref D) (D+1) (.error e) s') I1 (M3 fr1 Cv) zm stop
    rw [Fl] at z
    refine ck z fun r s2 ⟨hr,I2⟩=>?_
    subst hr
    obtain⟨eD,nD,_,_,_⟩:=I2.pin (D,lobj aG k) (List.mem_append_right _ List.mem_cons_self)
    have hU:Un (kO X.stack) (D::fp) H (upd H1 D (.lst ys)) s.heap s2.heap:=by
     have b:=I2.base
     rw [Zo,ES] at b
     have b':Un (kO X.stack) (D::fp) H H1 s.heap s2.heap:=by
      have e1:Y.H₀=H:=by rw [←hY];rfl
      have e2:Y.s₀=s:=by rw [←hY];rfl
      rw [e1,e2] at b;exact b
     have ne:∀a u,H1 a=some u→a≠D:=fun a u e=>aL e nD
     exact⟨b'.keep,b'.slot,fun a o e n hx=>by rw [bg (fun z=>hx (by rw [z];exact List.mem_cons_self))];exact b'.free a o e n hx,b'.there,
      fun a xs e=>by rw [bg (ne _ _ (b'.cZ a xs e))];exact b'.cZ a xs e,fun a o u e=>by rw [bg (ne _ _ (b'.kI a o u e))];exact b'.kI a o u e,
      fun a ps e=>by obtain⟨mo,q⟩:=b'.nL a ps e;exact⟨mo,by rw [bg (ne _ _ q)];exact q⟩⟩
    have M4:iW X.prog X.w (upd H1 D (.lst ys)) s2.heap:=by
     have q:=I2.aX
     rw [BM,A9] at q
     exact q.adopt nD ⟨hl,aG,k,rv,eD⟩
    have IX:Inv X pins σ (upd H1 D (.lst ys)) s2:=I.LJ (by have:=I2.os;rw [show Y.s₀=s by rw [←hY];rfl] at this;exact this) hU M4 I2.bare (fun b hb=>by
     rcases List.mem_cons.mp hb with rfl|hb
     · exact⟨rn.2.2.2.1,rn.2.1,rn.2.2.2.2.1,rn.2.2.2.2.2⟩
     · have q:=hf b hb
       exact⟨q.2.2.2.1,q.2.1,q.2.2.2.2.1,q.2.2.2.2.2⟩)
    obtain⟨mC,QB,_⟩:=I2.loc
    rw [HP] at QB
    have fC:=I2.free
    rw [HP] at fC
    exact fin D (D+1) s2 mC H1 ys IX (qn D nD) QB ⟨by rw [bg (fun z=>Jh z.symm)];exact fC,ym.2⟩ ym.2.1
  · have z:=Km (T.item Y BM A9 LD (Ly.trans fS) i [(D,lobj aG k)] s1 (bT caps σ none) H1 (notedBy (model X.prog X.w) X.A Y.env fun e s'=>RR (.ref D) (D+1) (.error e) s') I1 (M3 fr1 Cv) zm go)
    rw [Fl] at z
    refine ck z fun r s2 ⟨u,hr,v,H2,I2,ru,Fp,sj,Fo⟩=>?_
    subst hr
    have I2':=I2.pinned (M3 Fo Cv) (T.obj _ _ sj)
    have Sf:Y.env.scope.names.lookup x=some .local:=by rw [ze];exact lookup_relabel_local S.lx
    have g:=bG (X:=Y) (i:=0) (x:=x) (pos:=px) (by rw [K3];exact S.nd) (by rw [K3];exact S.n0) (.inl Sf) (.inr Sf)
    have a:=g _ s2 _ H2 v u (fun σ' H'=>σ'=bT caps σ (some v)∧H'=H2) I2' ru ⟨rfl,rfl⟩
    rw [BM,A9,Fl,Jk] at a
    refine wpAny_mono a (fun _ s3 ⟨σ3,H3,I3,e1,e2⟩=>?_) fun _ _ f=>f.elim
    subst e1 e2
    have c:=YB _ s3 _ H3 _ I3 (step v H3 Fp)
    rw [BM,A9,Fl,Jk] at c
    refine wpAny_mono c (fun b s4 ⟨H4,I4,q4⟩=>?_) fun _ _ f=>f.elim
    have again:∀{s5:Shared}{H5:Hp}{ys':List V}{its':List Value}{k' m':Nat},Inv Y (gG fp s2.heap) (bT caps σ (some v)) H5 s5→H5 D=none→s5.heap.get? D=some (lobj its' k')→Vals ys' its'→ys'.length≤sizeLine→m'<n→W (i+1) m' ys' H5→
     ∃m,m<n∧∃i ys aG k H',Inv Y [(D,lobj aG k)] (bT caps σ none) H' s5∧Vals ys aG∧ys.length≤sizeLine∧tn i s5.heap∧(∀b∈fp,H' b=none)∧W i m ys H':=fun {s5 H5 ys' its' k' m'} I5 nD eD gQ vq hm w'=>by
     refine⟨m',hm,i+1,ys',its',k',H5,FL ((I5.iY fun p hp=>by simp at hp).weak (by simp [bT]) fun j w hj=>?_) nD eD,gQ,vq,T.keep _ _ _ sj fun b hb o e=>(I5.pin (b,o) (List.mem_append_right _ (gf hb e))).1,fun b hb=>?_,w'⟩
     · cases j with
       | zero=>simp [bT] at hj
       | succ j=>simpa [bT] using hj
     · obtain⟨o,e,d⟩:=T.obj _ _ sj b hb
       exact(I5.pin (b,o) (List.mem_append_right _ (gf hb e))).2.1
    have Ar:∀{s5:Shared}{H5:Hp}{σ5:St},Inv Y ([(D,lobj aG k)]++gG fp s2.heap) σ5 H5 s5→Inv Y (gG fp s2.heap) σ5 H5 s5:=fun I5=>I5.iY fun p hp=>I5.pin p (List.mem_append_right _ (List.mem_append_right _ hp))
    cases b with
    | false=>
     obtain⟨m',hm,w'⟩:=hNx _ _ q4
     obtain⟨eD,nD,_⟩:=I4.pin (D,lobj aG k) (List.mem_append_right _ (List.mem_append_left _ List.mem_cons_self))
     exact again (Ar I4) nD eD rv hl hm w'
    | true=>
     rw [if_pos rfl]
     rw [if_pos rfl] at q4
     have d:=heY _ s4 _ H4 _ I4 q4
     rw [BM,A9,Fl,Jk] at d
     refine wpAny_mono d (fun w s5 ⟨y,H5,I5,ry,q5⟩=>?_) fun _ _ f=>f.elim
     obtain⟨m',hm,w'⟩:=hNx _ _ q5
     obtain⟨eD,nD,_⟩:=I5.pin (D,lobj aG k) (List.mem_append_right _ (List.mem_append_left _ List.mem_cons_self))
     refine append_at (hsz:=by rw [List.size_toArray,←rv.length];exact hl) eD fun h6 hs6 XD=>?_
     have I6:Inv Y (gG fp s2.heap) (bT caps σ (some v)) H5 {s5 with heap:=h6,toks:=s5.toks}:=(Ar I5).turned (fun b o hb e=>(hs6.2 b hb).trans e) nD (IY.ok.Ac D Ik).1 (.inl Ik) (fun y c e=>(IY.ok.Ac D Ik).2 y c e) (fun p hp=>by
      rw [RC,List.nil_append] at hp
      intro z
      exact AZ (by rw [←z];exact(rz hp).1))
     refine again (ys':=ys++[y]) (its':=aG++[w]) (k':=k+1) I6 nD ?_ (rv.append (.cons ry .nil)) (by rw [List.length_append,List.length_singleton];exact hsz) hm w'
     rw [XD]
     show some ({cls:=.type "list",data:=.seq (aG.toArray.push w) (k+1)}:Obj)=some {cls:=.type "list",data:=.seq (aG++[w]).toArray (k+1)}
     rw [List.push_toArray]
 rw [ze] at loop
 have zm:tn 0 h₁:=T.keep _ _ _ t0 fun b _ o e=>old b o e
 exact codeAny_compStart_list (loop _ rfl) (T.self _ 0 _ _ _ zm (loop _ rfl))
theorem dI {elt iter:Expr}{px pos:Pos}{ifs:List Expr}{wi:TI}{tc:TT}{te:TE} (fS:X.calm=true) (S:vA X scope x N caps) (hi:PI X (.Name x px) iter wi)
 (hc:∀C s H ex,eT (pZ X N scope C s H ex) ifs tc) (he:∀C s H ex,PE (pZ X N scope C s H ex) elt te) (hs:∀x,foldedSetIterable iter X.env x=pure x:=by intro _;rfl) :
 PE X (.ListComp elt [⟨.Name x px,iter,ifs,0⟩] scope pos) (Ag wi caps tc te):=by
 intro pins s σ H Q I h
 rw [eval_ListComp]
 refine wpAny_comprehension_free (use:=none) rfl hs (gj (S.cells I.ok)) S.kind S.names (ck (hi pins s σ H _ I h) fun xv s1 h1=>ck h1 fun OM s2 h2=>?_)
 obtain⟨it,fp,tn,J,H2,e,I2,T,sj,f2,wc⟩:=h2
 subst e
 refine uR (RR:=fun acc C=>compPost (model X.prog X.w) X.A X.xe none (EP X pins σ Q) acc C) fS S hc he I2 T sj f2 wc fun D C s' m' H' ys I' q hn fC _=>?_
 refine⟨m',hn,fun h' eN=>⟨.ref D,upd H' D (.lst ys),?_,rfl,q⟩⟩
 exact I'.turned (t':=s'.toks) (fun b o hb e=>(eN.2 b hb).trans e) fC.1 fC.2.1 fC.2.2.2.1 fC.2.2.2.2.1 fC.2.2.2.2.2
theorem Jc {elt iter:Expr}{px py pos u7:Pos}{ifs:List Expr}{wi:TI}{tc:TT}{te:TE}{y:Str}{i:Nat} (fS:X.calm=true) (S:vA X scope x N caps) (hi:PI X (.Name x px) iter wi)
 (hc:∀C s H ex,eT (pZ X N scope C s H ex) ifs tc) (he:∀C s H ex,PE (pZ X N scope C s H ex) elt te) (hN:X.N.Nodup) (hy:X.N[i]? = some y) (hx:X.env.scope.names.lookup y=some .local)
 (MW:swapsWith (.ListComp elt [⟨.Name x px,iter,ifs,0⟩] scope pos) (some (.Name y py)) u7.line X.env=pure true) (hs:∀x,foldedSetIterable iter X.env x=pure x:=by intro _;rfl) :
 PS X (.Assign [.Name y py] (.ListComp elt [⟨.Name x px,iter,ifs,0⟩] scope pos) u7) (fun D σ H=>Ag wi caps tc te σ H fun v H1=>D.nx (σ.set i (some v)) H1):=by
 intro pins s σ H D I h
 rw [exec_Assign_Name_used _ _ _ _ MW]
 refine wpAny_bind (wpAny_standAt (wpAny_bind ?_))
 show wpAny _ X.A (do let _ ←comprehension (.ListComp elt [⟨.Name x px,iter,ifs,0⟩] scope pos) scope X.env _ (newList []) false (eval iter X.env) (some (assign (.Name y py) X.env))) _ _ s
 refine wpAny_bind (wpAny_mono (wpAny_comprehension_free (use:=some (assign (.Name y py) X.env)) (Q:=fun _ s'=>SP X pins D .next s') rfl hs (gj (S.cells I.ok)) S.kind S.names
  (ck (hi pins s σ H _ I h) fun xv s1 h1=>ck h1 fun OM s2 h2=>?_)) (fun _ s' hq=>wpAny_pure (wpAny_pure hq)) fun _ _ e=>e)
 obtain⟨it,fp,tn,J,H2,e,I2,T,sj,f2,wc⟩:=h2
 subst e
 refine uR (RR:=fun acc C=>compPost (model X.prog X.w) X.A X.xe (some (assign (.Name y py) X.env)) (fun _ s'=>SP X pins D .next s') acc C) fS S hc he I2 T sj f2 wc fun d C s' m' H' ys I' q hn fC Vk=>?_
 show wpAny _ X.A (assign (.Name y py) X.env (.ref d)) _ _ _
 refine wpAny_assign_Name (qw I' hN hy (.inl hx) (v:=.ref d) rfl (fun KJ I'' ⟨a,hs,ha⟩=>?_) (.inr hx))
 have bB:C≠a:=by
  rcases ha with rfl|ha
  · exact Vk
  · exact fun z=>fC.2.2.2.2.1 _ _ ha z.symm
 refine⟨m',hn.sameBut hs bB,fun h' eN=>⟨_,_,I''.turned (t':=KJ.toks) (fun b o hb e=>(eN.2 b hb).trans e) fC.1 fC.2.1 fC.2.2.2.1 fC.2.2.2.2.1 fC.2.2.2.2.2,q⟩⟩
end
end L2
namespace L2
open PySem PySem.Spec PyProof.Rows
noncomputable def TU (x:Str):It:=⟨fun i _=>i<x.cps.size,fun i H v H'=>H'=H∧∃c,x.cps[i]? = some c∧v = .str ⟨#[c]⟩,fun i _=>i=x.cps.size⟩
theorem HM {P:Program}{w:World}{K:PySem.W.Frag}{tg:Expr} (it:Addr) (x:Str) (t:Tok) {ty:String} (IU:ty="str_ascii_iterator"∨ty="str_iterator"):Turn P w K tg (TU x) [it] it (fun i h=>h.IsStrIter it ty x t i) where
 mem:=by simp
 obj:=fun i h st b hb=>by
  have e:b=it:=by simpa using hb
  subst e
  obtain⟨o,e,c,d⟩:=st
  exact⟨o,e,fun v z=>by rw [d] at z;cases z⟩
 keep:=fun i h h' st k=>by
  obtain⟨o,e,c,d⟩:=st
  exact⟨o,k it (by simp) o e,c,d⟩
 item:=by
  intro X hP hw hK hc i pins s σ H E I hf st hg
  subst hP hw hK
  obtain⟨f0,f1,f2,f3,f4,f5⟩:=hf it (by simp)
  have W:Walks X.prog X.w X.A it [it] [it] x.cps.size (SignAt x) (fun i h=>h.IsStrIter it ty x t i):=by
   rcases IU with rfl|rfl
   · exact Walks.strAscii (I.ok.hd hc) it x t
   · exact Walks.strWide (I.ok.hd hc) it x t
  refine W.item i s _ _ hg st fun v h' tk hv Fy kk=>?_
  obtain⟨c,u,e,rfl⟩:=hv
  have I1:Inv X pins σ H {s with heap:=h',toks:=tk}:=I.turned (fun b o hb e=>kk b o (by simpa using hb) e) f0 f1 f3 f4 f5
  obtain⟨o,eo,co,dO⟩:=id Fy
  refine⟨_,rfl,DO (s:={s with heap:=h',toks:=tk}) eo co dO (by rcases IU with rfl|rfl<;>decide) ⟨.str ⟨#[c]⟩,H,I1,⟨u,rfl⟩,⟨rfl,c,e,rfl⟩,Fy,fun b hb=>(hf b hb).1⟩⟩
 done:=by
  intro X hP hw hK hc i pins s σ H E I hf st hg
  subst hP hw hK
  obtain⟨f0,f1,f2,f3,f4,f5⟩:=hf it (by simp)
  have W:Walks X.prog X.w X.A it [it] [it] x.cps.size (SignAt x) (fun i h=>h.IsStrIter it ty x t i):=by
   rcases IU with rfl|rfl
   · exact Walks.strAscii (I.ok.hd hc) it x t
   · exact Walks.strWide (I.ok.hd hc) it x t
  have hg':i=x.cps.size:=hg
  subst hg'
  exact W.done s _ _ st fun h' tk kk=>⟨rfl,I.turned (fun b o hb e=>kk b o (by simpa using hb) e) f0 f1 f3 f4 f5⟩
 self:=fun _ _ _ _ _ st h=>by
  rcases IU with rfl|rfl
  · exact wpAny_pyIter_striter_ascii st h
  · exact wpAny_pyIter_striter_wide st h
noncomputable def RL (tl:TE):TI:=fun σ H R=>tl σ H fun x H1=>∃z,x = .str z∧R (TU z) H1
theorem GO {X:Cx}{tg l:Expr}{tl:TE} (hl:PE X l tl):PI X tg l (RL tl):=by
 intro pins s σ H R I h
 refine ck (hl pins s σ H _ I h) fun v s1 ⟨x,H1,I1,r1,q1⟩=>?_
 obtain⟨z,e,q⟩:=q1
 subst e
 obtain⟨t,rfl⟩:=r1
 have fin:∀{ty:String},ty="str_ascii_iterator"∨ty="str_iterator"→PIE X pins σ tg R (.ref s1.heap.objs.size) {s1 with heap:=s1.heap.push {cls:=.type ty,data:=.fields #[.str z t,.int 0 0]}}:=fun {ty} IU=>by
  refine⟨s1.heap.objs.size,[s1.heap.objs.size],_,_,H1,rfl,I1.kept (t':=s1.toks) fun b o e=>Heap.get?_push_of_some _ e,HM _ z t IU,⟨_,Heap.get?_push_size _ rfl,rfl,rfl⟩,fun b hb=>?_,q⟩
  have e:b=s1.heap.objs.size:=by simpa using hb
  subst e
  exact I1.sv (Nat.le_refl _) (I1.aX.fresh (Nat.le_refl _))
 cases ha:z.cps.all (· < 128)
 · exact wpAny_pyIter_wide ha (fin (.inr rfl))
 · exact wpAny_pyIter_ascii ha (fin (.inl rfl))
theorem ET {K:PySem.W.Frag}{a:Addr}{xs:List V}{caps:List Nat}{tc:TT}{te:TE}{σ:St}{H:Hp}{Q:VK} (Pv:Nat→List V→Hp→Prop) (h0:Pv 0 [] H) (hx:xs.length<sizeLine) (hy:∀i ys H,Pv i ys H→ys.length≤i)
 (hl:∀i ys H,i≤xs.length→Pv i ys H→fQ K H a xs)
 (hs:∀i x ys H,xs[i]? = some x→Pv i ys H→tc (bT caps σ (some x)) H fun b H2=>if b=true then te (bT caps σ (some x)) H2 fun y H3=>Pv (i+1) (ys++[y]) H3 else Pv (i+1) ys H2)
 (hd:∀ys H,Pv xs.length ys H→∀p,H p=none→Q (.ref p) (upd H p (.lst ys))):mH (OF K a) caps tc te σ H Q:=by
 refine⟨fun i m ys H=>m=xs.length - i∧i≤xs.length∧Pv i ys H,⟨xs.length,by simp,Nat.zero_le _,h0⟩,?_⟩
 rintro i m ys H ⟨rfl,hi,p⟩
 have q:=hl i ys H hi p
 by_cases fB:i<xs.length
 · refine .inr ⟨⟨xs,xs[i],q,by simp [fB]⟩,Nat.lt_of_le_of_lt (Nat.le_trans (hy i ys H p) hi) hx,Pv (i+1),fun ys' H' p'=>⟨xs.length - (i+1),by omega,rfl,fB,p'⟩,fun x H' y=>?_⟩
   obtain⟨e,y⟩:=y
   subst e
   exact hs i x ys _ (y xs q) p
 · have e:i=xs.length:=by omega
   subst e
   exact .inl ⟨⟨xs,q,Nat.le_refl _⟩,hd ys H p⟩
theorem AM {lo:Int}{n:Nat}{caps:List Nat}{tc:TT}{te:TE}{σ:St}{H:Hp}{Q:VK} (Pv:Nat→List V→Hp→Prop) (h0:Pv 0 [] H) (hx:n<sizeLine) (hy:∀i ys H,Pv i ys H→ys.length≤i)
 (hs:∀i ys H,i<n→Pv i ys H→tc (bT caps σ (some (.int (lo+i)))) H fun b H2=>if b=true then te (bT caps σ (some (.int (lo+i)))) H2 fun y H3=>Pv (i+1) (ys++[y]) H3 else Pv (i+1) ys H2)
 (hd:∀ys H,Pv n ys H→∀p,H p=none→Q (.ref p) (upd H p (.lst ys))):mH (IS lo n) caps tc te σ H Q:=by
 refine⟨fun i m ys H=>m=n - i∧i≤n∧Pv i ys H,⟨n,by simp,Nat.zero_le _,h0⟩,?_⟩
 rintro i m ys H ⟨rfl,hi,p⟩
 by_cases fB:i<n
 · refine .inr ⟨fB,Nat.lt_of_le_of_lt (Nat.le_trans (hy i ys H p) hi) hx,Pv (i+1),fun ys' H' p'=>⟨n - (i+1),by omega,rfl,fB,p'⟩,fun x H' y=>?_⟩
   obtain⟨e,y⟩:=y
   subst e y
   exact hs i ys _ fB p
 · have e:i=n:=by omega
   subst e
   exact .inl ⟨Nat.le_refl _,hd ys H p⟩
theorem zW {x:Str}{caps:List Nat}{tc:TT}{te:TE}{σ:St}{H:Hp}{Q:VK} (Pv:Nat→List V→Hp→Prop) (h0:Pv 0 [] H) (hx:x.cps.size<sizeLine) (hy:∀i ys H,Pv i ys H→ys.length≤i)
 (hs:∀i c ys H,x.cps[i]? = some c→Pv i ys H→tc (bT caps σ (some (.str ⟨#[c]⟩))) H fun b H2=>if b=true then te (bT caps σ (some (.str ⟨#[c]⟩))) H2 fun y H3=>Pv (i+1) (ys++[y]) H3 else Pv (i+1) ys H2)
 (hd:∀ys H,Pv x.cps.size ys H→∀p,H p=none→Q (.ref p) (upd H p (.lst ys))):mH (TU x) caps tc te σ H Q:=by
 refine⟨fun i m ys H=>m=x.cps.size - i∧i≤x.cps.size∧Pv i ys H,⟨x.cps.size,by simp,Nat.zero_le _,h0⟩,?_⟩
 rintro i m ys H ⟨rfl,hi,p⟩
 by_cases fB:i<x.cps.size
 · refine .inr ⟨fB,Nat.lt_of_le_of_lt (Nat.le_trans (hy i ys H p) hi) hx,Pv (i+1),fun ys' H' p'=>⟨x.cps.size - (i+1),by omega,rfl,fB,p'⟩,fun v H' y=>?_⟩
   obtain⟨e,c,ec,ev⟩:=y
   subst e ev
   exact hs i c ys _ ec p
 · have e:i=x.cps.size:=by omega
   subst e
   exact .inl ⟨rfl,hd ys H p⟩
section
variable {X : Cx}
noncomputable def P9:V→Option Int→Option Int→Hp→VK→Prop:=fun x lo hi H Q=>∃z,x = .str z∧z.length≤sizeLine∧Q (.str (Txt.slice z lo hi)) H
theorem Cr:IB X P9:=by
 intro pins s σ H x v vl vu lo hi sl Q I rx hs pl pu h
 obtain⟨z,rfl,hz,q⟩:=h
 obtain⟨t,rfl⟩:=rx
 refine⟨"str",_,F.slot_str_getitem.lookup,typeIs_str _ _ _,?_⟩
 have fin:∀t' k,EP X pins σ Q (.str (Txt.slice z lo hi) t') {s with toks:=k}:=fun t' k=>⟨.str _,H,I.tok _,⟨_,rfl⟩,q⟩
 cases pl with
 | none=>
  cases pu with
  | none=>exact wpAny_getItem_str_slice (l:=none) (u:=none) (st:=none) hs rfl (post_val_or_str ⟨Nat.le_trans (Txt.slice_le z _ _) hz,fin⟩)
  | int j uj=>exact wpAny_getItem_str_slice (l:=none) (u:=some (j,uj)) (st:=none) hs rfl (post_val_or_str ⟨Nat.le_trans (Txt.slice_le z _ _) hz,fin⟩)
 | int i ui=>
  cases pu with
  | none=>exact wpAny_getItem_str_slice (l:=some (i,ui)) (u:=none) (st:=none) hs rfl (post_val_or_str ⟨Nat.le_trans (Txt.slice_le z _ _) hz,fin⟩)
  | int j uj=>exact wpAny_getItem_str_slice (l:=some (i,ui)) (u:=some (j,uj)) (st:=none) hs rfl (post_val_or_str ⟨Nat.le_trans (Txt.slice_le z _ _) hz,fin⟩)
theorem nq:lh X (compareOp .LtE) (fun x y H Q=>∃i j,x = .str i∧y = .str j∧Q (.bl (!decide (j.cps.toList<i.cps.toList))) H):=by
 intro pins s σ H x y v u Q I rx ry h
 obtain⟨i,j,rfl,rfl,q⟩:=h
 obtain⟨t,rfl⟩:=rx
 obtain⟨t',rfl⟩:=ry
 exact PySem.P.le_str ⟨.bl _,H,I,rfl,q⟩
theorem tI {ys:List Str}:∀{us:List Value},Vals (ys.map V.str) us→StrsAre us ys:=by
 induction ys with
 | nil=>intro us r;cases r;exact .nil
 | cons y ys ih=>
  intro us r
  cases r with
  | cons r t=>
   obtain⟨k,rfl⟩:=r
   exact .cons y k (ih t)
noncomputable def rJoin (K:PySem.W.Frag):V→List V→Hp→VK→Prop:=fun x xs H Q=>∃sep a ys,x = .str sep∧xs=[.ref a]∧(fQ K H a (ys.map V.str)∨jE K H a (ys.map V.str))∧(ys.map (·.length)).sum+ys.length*sep.length≤16777216∧Q (.str (Txt.join sep ys)) H
theorem oX:IK X "str.join" (rJoin X.K):=by
 intro pins s σ H x xs v us Q I rx rs h
 obtain⟨sep,a,ys,rfl,rfl,hq,aX,q⟩:=h
 obtain⟨t,rfl⟩:=rx
 obtain⟨u,rfl,ru⟩:=vals1 rs
 cases ru
 rcases hq with hq|hq
 · obtain⟨aG,rv,p,hz⟩:=I.list hq
   exact join_list p.isList (tI rv) aX fun t' k=>⟨.str _,H,I.tok _,⟨_,rfl⟩,q⟩
 · obtain⟨aG,rv,p,hz⟩:=I.tuple hq
   exact join_tuple p (tI rv) aX fun t' k=>⟨.str _,H,I.tok _,⟨_,rfl⟩,q⟩
noncomputable def O3:List TE→Str→TE
 | [],acc=>fun _ H Q=>acc.length≤sizeLine∧Q (.str acc) H
 | t::r,acc=>fun σ H Q=>t σ H fun v H1=>∃y,v = .str y∧(acc++y).length≤sizeLine∧O3 r (acc++y) σ H1 Q
inductive Rb (X:Cx):List Expr→List TE→Prop
 | nil:Rb X [] []
 | cons {e:Expr}{t:TE}{es:List Expr}{ts:List TE}:PE X e t→Rb X es ts→Rb X (e::es) (t::ts)
theorem Hi {pins:List (Addr×Obj)}{σ:St}{Q:VK}{es:List Expr}{ts:List TE} (h:Rb X es ts):∀(acc:Str) (H:Hp) (s:Shared),Inv X pins σ H s→O3 ts acc σ H Q→
 Joins (model X.prog X.w) X.A X.xe (evalEach es X.env) acc (fun out s₁=>out.length≤sizeLine∧EP X pins σ Q (.str out s₁.toks) {s₁ with toks:=s₁.toks+1}) s:=by
 induction h with
 | nil=>intro acc H s I h;exact⟨h.1,.str acc,H,I.tok _,⟨_,rfl⟩,h.2⟩
 | @cons e t es ts he _ ih=>
  intro acc H s I h
  refine ck (he pins s σ H _ I h) fun v s1 ⟨x,H1,I1,r1,y,ey,hz,q⟩=>?_
  subst ey
  obtain⟨t,rfl⟩:=r1
  exact⟨y,t,rfl,hz,ih _ H1 s1 I1 q⟩
theorem LV {e1 e2:Expr}{es:List Expr}{ts:List TE}{pos:Pos} (h:Rb X (e1::e2::es) ts):PE X (.JoinedStr (e1::e2::es) pos) (O3 ts Str.empty):=by
 intro pins s σ H Q I hw
 exact JoinedStr_many (wpAny_joinPartsRec _ _ _ _ (Hi h _ H s I hw))
theorem vL {P:Program}{w:World}{A:Around}{bs:List Bool}{aG:List Value} (r:Vals (bs.map V.bl) aG):TruthOf P w A (fun i v=>aG.toArray[i]? = some v) (fun i=>bs.getD i false):=fun i v s Q E hv hq=>by
 have kY:aG[i]? = some v:=by simpa using hv
 have hi:i<aG.length:=(List.getElem?_eq_some_iff.mp kY).1
 have hb:i<bs.length:=by have:=r.length;simp at this;omega
 obtain⟨u,hu,ru⟩:=r.get (i:=i) (x:=.bl bs[i]) (by simp [hb])
 rw [kY] at hu;cases hu
 cases ru
 have e:bs.getD i false=bs[i]:=by simp [List.getD,hb]
 have Gp:Q (bs.getD i false) s:=hq
 rw [e] at Gp
 exact wpAny_truthy_bool Gp
theorem all_range (bs:List Bool):(List.range bs.length).all (fun i=>bs.getD i false)=bs.all id:=by
 rw [Bool.eq_iff_iff,List.all_eq_true,List.all_eq_true]
 constructor
 · intro h b hb
   obtain⟨i,hi,rfl⟩:=List.mem_iff_getElem.mp hb
   have:=h i (List.mem_range.mpr hi)
   simpa [List.getD,hi] using this
 · intro h i hi
   have hi:=List.mem_range.mp hi
   have:=h bs[i] (List.getElem_mem hi)
   simpa [List.getD,hi] using this
theorem any_range (bs:List Bool):(List.range bs.length).any (fun i=>bs.getD i false)=bs.any id:=by
 rw [Bool.eq_iff_iff,List.any_eq_true,List.any_eq_true]
 constructor
 · rintro ⟨i,hi,h⟩
   have hi:=List.mem_range.mp hi
   exact⟨bs[i],List.getElem_mem hi,by simpa [List.getD,hi] using h⟩
 · rintro ⟨b,hb,h⟩
   obtain⟨i,hi,rfl⟩:=List.mem_iff_getElem.mp hb
   exact⟨i,List.mem_range.mpr hi,by simpa [List.getD,hi] using h⟩
theorem yV (hc:X.calm=true):df X (.builtin "all") (fun xs H Q=>∃(a:Addr) (bs:List Bool),xs=[.ref a]∧fQ X.K H a (bs.map V.bl)∧Q (.bl (bs.all id)) H):=by
 intro pins s σ H xs us Q I r h
 obtain⟨a,bs,rfl,hq,q⟩:=h
 obtain⟨u,rfl,ru⟩:=vals1 r
 cases ru
 obtain⟨aG,rv,p,hz⟩:=I.list hq
 have I1:Inv X pins σ H {s with heap:=s.heap.push {cls:=.type "list_iterator",data:=.fields #[.ref a,.int 0 0]}}:=I.kept (t':=s.toks) fun b o e=>Heap.get?_push_of_some _ e
 have fp:=I.sv (b:=s.heap.objs.size) (Nat.le_refl _) (I.aX.fresh (Nat.le_refl _))
 have hl:=rv.length
 have fB:a<s.heap.objs.size:=by obtain⟨o,ho,_⟩:=p.isList;exact Heap.lt_size ho
 refine call_all_walk (wpAny_pyIter_list p.isList ⟨s.heap.objs.size,[s.heap.objs.size,a],[s.heap.objs.size],aG.toArray.size,_,_,fun i=>bs.getD i false,rfl,
  Walks.list (A:=X.A.in1) (show X.A.in1.handled=none from I.ok.hd hc) _ _ (Nat.ne_of_lt fB) aG.toArray,⟨⟨_,Heap.get?_push_size _ rfl,rfl,rfl⟩,p.isList.push _⟩,vL rv,fun h' tk kk=>?_⟩)
 refine⟨.bl (bs.all id),H,I1.turned (fun b o hb e=>kk b o (by simpa using hb) e) fp.1 fp.2.1 fp.2.2.2.1 fp.2.2.2.2.1 fp.2.2.2.2.2,?_,q⟩
 have e:aG.toArray.size=bs.length:=by simp at hl ⊢;exact hl.symm
 rw [e,all_range]
 rfl
end
end L2
namespace L2
open PySem PySem.Spec PyProof.Rows
inductive D where
 | non|bl (b:Bool)|int (i:Int)|str (x:Str)|tup (ds:List D)|lst (ds:List D)
mutual
noncomputable def D.eq:D→D→Bool
 | .non,e=>match e with | .non=>true|_=>false
 | .bl a,e=>match e with | .bl b=>a==b | .int j=>(if a then (1:Int) else 0)==j|_=>false
 | .int i,e=>match e with | .int j=>i==j | .bl b=>i==(if b then (1:Int) else 0)|_=>false
 | .str x,e=>match e with | .str y=>x==y|_=>false
 | .tup ds,e=>match e with | .tup es=>D.eqs ds es|_=>false
 | .lst ds,e=>match e with | .lst es=>D.eqs ds es|_=>false
noncomputable def D.eqs:List D→List D→Bool
 | [],es=>es.isEmpty
 | d::ds,es=>match es with|[]=>false|e::r=>D.eq d e&&D.eqs ds r
end
mutual
noncomputable def D.dp:D→Nat
 | .tup ds=>D.qa ds+1
 | .lst ds=>D.qa ds+1
 | _=>0
noncomputable def D.qa:List D→Nat
 | []=>0
 | d::ds=>max (D.dp d) (D.qa ds)
end
mutual
noncomputable def D.cl:D→Bool
 | .bl _=>false
 | .tup ds=>D.cls ds
 | .lst ds=>D.cls ds
 | _=>true
noncomputable def D.cls:List D→Bool
 | []=>true
 | d::ds=>D.cl d&&D.cls ds
end
mutual
theorem D.sH:∀d:D,D.eq d d=true
 | .non=>rfl
 | .bl b=>by simp [D.eq]
 | .int i=>by simp [D.eq]
 | .str x=>by simp [D.eq]
 | .tup ds=>by simp only [D.eq];exact D.tR ds
 | .lst ds=>by simp only [D.eq];exact D.tR ds
theorem D.tR:∀ds:List D,D.eqs ds ds=true
 | []=>rfl
 | d::ds=>by simp only [D.eqs,D.sH d,D.tR ds,Bool.and_self]
end
mutual
theorem D.LB:∀(d e:D),d.cl=true→e.cl=true→D.eq d e=true→d=e
 | .non,e,_,_,h=>by cases e<;>first|rfl|(simp [D.eq] at h)
 | .bl b,e,c,_,_=>by simp [D.cl] at c
 | .int i,e,_,c,h=>by cases e<;>first|(exfalso;simp [D.cl] at c;done)|(simp [D.eq] at h;rw [h];done)|(simp [D.eq] at h)
 | .str x,e,_,_,h=>by cases e<;>first|(simp [D.eq] at h;rw [h])|(simp [D.eq] at h)
 | .tup ds,e,c,c',h=>by
  cases e<;>first
   | (rename_i es
      simp only [D.eq] at h
      simp only [D.cl] at c c'
      rw [D.Cd ds es c c' h])
   | (simp [D.eq] at h)
 | .lst ds,e,c,c',h=>by
  cases e<;>first
   | (rename_i es
      simp only [D.eq] at h
      simp only [D.cl] at c c'
      rw [D.Cd ds es c c' h])
   | (simp [D.eq] at h)
theorem D.Cd:∀(ds es:List D),D.cls ds=true→D.cls es=true→D.eqs ds es=true→ds=es
 | [],es,_,_,h=>by cases es<;>first|rfl|(simp [D.eqs] at h)
 | d::ds,es,c,c',h=>by
  cases es with
  | nil=>simp [D.eqs] at h
  | cons e r=>
   simp only [D.eqs,Bool.and_eq_true] at h
   simp only [D.cls,Bool.and_eq_true] at c c'
   rw [D.LB d e c.1 c'.1 h.1,D.Cd ds r c.2 c'.2 h.2]
end
theorem D.eq_iff {d e:D} (c:d.cl=true) (c':e.cl=true):D.eq d e=true↔d=e:=⟨D.LB d e c c',fun h=>by rw [h];exact D.sH e⟩
theorem D.Ms {d e:D}{p:Prop} [Decidable p] (c:d.cl=true) (c':e.cl=true) (h:d=e↔p):D.eq d e=decide p:=by
 rw [Bool.eq_iff_iff,D.eq_iff c c',h,decide_eq_true_iff]
theorem D.oM:∀{ds es:List D},D.eqs ds es=true→ds.length=es.length
 | [],es,h=>by cases es<;>simp_all [D.eqs]
 | d::ds,es,h=>by
  cases es with
  | nil=>simp [D.eqs] at h
  | cons e r=>
   simp only [D.eqs,Bool.and_eq_true] at h
   simp [D.oM h.2]
theorem D.kK:∀(ds es:List D),(((List.range (min ds.length es.length)).all fun j=>D.eq (ds.getD j .non) (es.getD j .non))&&ds.length==es.length)=D.eqs ds es
 | [],es=>by cases es<;>simp [D.eqs]
 | d::ds,es=>by
  cases es with
  | nil=>simp [D.eqs]
  | cons e r=>
   have ih:=D.kK ds r
   have e1:min (d::ds).length (e::r).length=min ds.length r.length+1:=by simp only [List.length_cons];omega
   have e2:((d::ds).length==(e::r).length)=(ds.length==r.length):=by simp
   have e3:((List.range (min ds.length r.length+1)).all fun j=>D.eq ((d::ds).getD j .non) ((e::r).getD j .non))=(D.eq d e&&(List.range (min ds.length r.length)).all fun j=>D.eq (ds.getD j .non) (r.getD j .non)):=by
    rw [List.range_succ_eq_map,List.all_cons,List.all_map]
    rfl
   rw [e1,e2,e3]
   simp only [D.eqs]
   rw [←ih,Bool.and_assoc]
mutual
noncomputable def Dt (H:Hp):D→V→Prop
 | .non,v=>v = .non
 | .bl b,v=>v = .bl b
 | .int i,v=>v = .int i
 | .str x,v=>v = .str x
 | .tup ds,v=>∃a vs,v = .ref a∧H a=some (.tup vs)∧aR H ds vs
 | .lst ds,v=>∃a vs,v = .ref a∧H a=some (.lst vs)∧aR H ds vs
noncomputable def aR (H:Hp):List D→List V→Prop
 | [],vs=>vs=[]
 | d::ds,vs=>∃v r,vs=v::r∧Dt H d v∧aR H ds r
end
theorem aR.length {H:Hp}:∀{ds:List D}{vs:List V},aR H ds vs→vs.length=ds.length
 | [],vs,h=>by simp only [aR] at h;simp [h]
 | d::ds,vs,h=>by
  simp only [aR] at h
  obtain⟨v,r,rfl,_,h⟩:=h
  simp [aR.length h]
theorem aR.get {H:Hp}:∀{ds:List D}{vs:List V}{i:Nat}{d:D},aR H ds vs→ds[i]? = some d→∃v,vs[i]? = some v∧Dt H d v
 | [],vs,i,d,_,e=>by simp at e
 | d'::ds,vs,i,d,h,e=>by
  simp only [aR] at h
  obtain⟨v,r,rfl,h1,h2⟩:=h
  cases i with
  | zero=>simp at e;subst e;exact⟨v,rfl,h1⟩
  | succ i=>simpa using aR.get (i:=i) h2 (by simpa using e)
theorem aR.append {H:Hp}:∀{ds es:List D}{vs us:List V},aR H ds vs→aR H es us→aR H (ds++es) (vs++us)
 | [],es,vs,us,h,h'=>by simp only [aR] at h;subst h;simpa using h'
 | d::ds,es,vs,us,h,h'=>by
  simp only [aR] at h
  obtain⟨v,r,rfl,h1,h2⟩:=h
  show aR H (d::(ds++es)) (v::(r++us))
  simp only [aR]
  exact⟨v,r++us,rfl,h1,aR.append h2 h'⟩
theorem aR.one {H:Hp}{d:D}{v:V} (h:Dt H d v):aR H [d] [v]:=by
 simp only [aR]
 exact⟨v,[],rfl,h,rfl⟩
theorem aR.nil {H:Hp}:aR H [] []:=by simp only [aR]
theorem aR.cons {H:Hp}{d:D}{v:V}{ds:List D}{vs:List V} (h:Dt H d v) (t:aR H ds vs):aR H (d::ds) (v::vs):=by
 simp only [aR]
 exact⟨v,vs,rfl,h,t⟩
theorem aR.take {H:Hp}:∀{ds:List D}{vs:List V} (n:Nat),aR H ds vs→aR H (ds.take n) (vs.take n)
 | _,_,0,_=>by simp [aR]
 | [],vs,n+1,h=>by simp only [aR] at h;subst h;simp [aR]
 | d::ds,vs,n+1,h=>by
  simp only [aR] at h
  obtain⟨v,r,rfl,h1,h2⟩:=h
  exact aR.cons h1 (aR.take n h2)
theorem aR.drop {H:Hp}:∀{ds:List D}{vs:List V} (n:Nat),aR H ds vs→aR H (ds.drop n) (vs.drop n)
 | _,_,0,h=>h
 | [],vs,n+1,h=>by simp only [aR] at h;subst h;simp [aR]
 | d::ds,vs,n+1,h=>by
  simp only [aR] at h
  obtain⟨v,r,rfl,h1,h2⟩:=h
  exact aR.drop n h2
theorem aR.set {H:Hp}{d:D}{v:V} (h:Dt H d v):∀{ds:List D}{vs:List V} (n:Nat),aR H ds vs→aR H (ds.set n d) (vs.set n v)
 | [],vs,n,h'=>by simp only [aR] at h';subst h';simp [aR]
 | e::ds,vs,0,h'=>by
  simp only [aR] at h'
  obtain⟨u,r,rfl,h1,h2⟩:=h'
  exact aR.cons h h2
 | e::ds,vs,n+1,h'=>by
  simp only [aR] at h'
  obtain⟨u,r,rfl,h1,h2⟩:=h'
  exact aR.cons h1 (aR.set h n h2)
mutual
theorem Dt.inj {H:Hp}:∀{d e:D}{v:V},Dt H d v→Dt H e v→d=e
 | .non,e,v,h,h'=>by simp only [Dt] at h;subst h;cases e<;>simp_all [Dt]
 | .bl b,e,v,h,h'=>by simp only [Dt] at h;subst h;cases e<;>simp_all [Dt]
 | .int i,e,v,h,h'=>by simp only [Dt] at h;subst h;cases e<;>simp_all [Dt]
 | .str x,e,v,h,h'=>by simp only [Dt] at h;subst h;cases e<;>simp_all [Dt]
 | .tup ds,e,v,h,h'=>by
  simp only [Dt] at h
  obtain⟨a,vs,rfl,ea,hs⟩:=h
  cases e with
  | tup es=>
   simp only [Dt] at h'
   obtain⟨a',Us,q,nU,eN⟩:=h'
   cases q
   rw [ea] at nU;cases nU
   rw [aR.inj hs eN]
  | lst es=>
   simp only [Dt] at h'
   obtain⟨a',Us,q,nU,eN⟩:=h'
   cases q
   rw [ea] at nU;cases nU
  | _=>simp [Dt] at h'
 | .lst ds,e,v,h,h'=>by
  simp only [Dt] at h
  obtain⟨a,vs,rfl,ea,hs⟩:=h
  cases e with
  | lst es=>
   simp only [Dt] at h'
   obtain⟨a',Us,q,nU,eN⟩:=h'
   cases q
   rw [ea] at nU;cases nU
   rw [aR.inj hs eN]
  | tup es=>
   simp only [Dt] at h'
   obtain⟨a',Us,q,nU,eN⟩:=h'
   cases q
   rw [ea] at nU;cases nU
  | _=>simp [Dt] at h'
theorem aR.inj {H:Hp}:∀{ds es:List D}{vs:List V},aR H ds vs→aR H es vs→ds=es
 | [],es,vs,h,h'=>by
  simp only [aR] at h;subst h
  cases es<;>simp_all [aR]
 | d::ds,es,vs,h,h'=>by
  simp only [aR] at h
  obtain⟨v,r,rfl,h1,h2⟩:=h
  cases es with
  | nil=>simp [aR] at h'
  | cons e es=>
   simp only [aR] at h'
   obtain⟨v',r',q,Qv,Rw⟩:=h'
   cases q
   rw [Dt.inj h1 Qv,aR.inj h2 Rw]
end
mutual
theorem Dt.same {H H':Hp} (S:av H H'):∀{d:D}{v:V},Dt H d v→Dt H' d v
 | .non,v,h=>h
 | .bl b,v,h=>h
 | .int i,v,h=>h
 | .str x,v,h=>h
 | .tup ds,v,h=>by
  simp only [Dt] at h ⊢
  obtain⟨a,vs,rfl,ea,hs⟩:=h
  exact⟨a,vs,rfl,S _ _ ea,aR.same S hs⟩
 | .lst ds,v,h=>by
  simp only [Dt] at h ⊢
  obtain⟨a,vs,rfl,ea,hs⟩:=h
  exact⟨a,vs,rfl,S _ _ ea,aR.same S hs⟩
theorem aR.same {H H':Hp} (S:av H H'):∀{ds:List D}{vs:List V},aR H ds vs→aR H' ds vs
 | [],vs,h=>h
 | d::ds,vs,h=>by
  simp only [aR] at h ⊢
  obtain⟨v,r,rfl,h1,h2⟩:=h
  exact⟨v,r,rfl,Dt.same S h1,aR.same S h2⟩
end
mutual
noncomputable def D.nl:D→Bool
 | .lst _=>false
 | .tup ds=>D.oO ds
 | _=>true
noncomputable def D.oO:List D→Bool
 | []=>true
 | d::ds=>D.nl d&&D.oO ds
end
noncomputable def oZ (H H':Hp):Prop:=∀b xs,H b=some (.tup xs)→H' b=some (.tup xs)
theorem av.cZ {H H':Hp} (S:av H H'):oZ H H':=fun b xs h=>S b _ h
theorem oZ.trans {H H1 H2:Hp} (a:oZ H H1) (b:oZ H1 H2):oZ H H2:=fun c o h=>b c o (a c o h)
theorem oZ.refl (H:Hp):oZ H H:=fun _ _ h=>h
theorem oZ.lst {H:Hp}{p:Addr}{xs ys:List V} (h:H p=some (.lst xs)):oZ H (upd H p (.lst ys)):=fun b zs e=>by
 rw [bg (gB e h (by intro z;cases z))];exact e
mutual
theorem Dt.cZ {H H':Hp} (S:oZ H H'):∀{d:D}{v:V},d.nl=true→Dt H d v→Dt H' d v
 | .non,v,_,h=>h
 | .bl b,v,_,h=>h
 | .int i,v,_,h=>h
 | .str x,v,_,h=>h
 | .tup ds,v,n,h=>by
  simp only [Dt] at h ⊢
  obtain⟨a,vs,rfl,ea,hs⟩:=h
  simp only [D.nl] at n
  exact⟨a,vs,rfl,S _ _ ea,aR.cZ S n hs⟩
 | .lst ds,v,n,h=>by simp [D.nl] at n
theorem aR.cZ {H H':Hp} (S:oZ H H'):∀{ds:List D}{vs:List V},D.oO ds=true→aR H ds vs→aR H' ds vs
 | [],vs,_,h=>h
 | d::ds,vs,n,h=>by
  simp only [aR] at h ⊢
  obtain⟨v,r,rfl,h1,h2⟩:=h
  simp only [D.oO,Bool.and_eq_true] at n
  exact⟨v,r,rfl,Dt.cZ S n.1 h1,aR.cZ S n.2 h2⟩
end
section
variable {P : Program} {w : World} {H : Hp} {s : Shared}
open PySem.SeqAt
theorem bH (aX:iW P w H s.heap) {d:D}{v:V}{u:Value} (h:Dt H d v) (r:RelV v u) :
 (∃ds a vs aG,d = .tup ds∧v = .ref a∧u = .ref a∧aR H ds vs∧Vals vs aG∧s.heap.IsTuple a aG.toArray)∨(∃ds a vs aG,d = .lst ds∧v = .ref a∧u = .ref a∧aR H ds vs∧Vals vs aG∧s.heap.IsList a aG.toArray) ∨
 (d = .non∧u = .none)∨(∃b,d = .bl b∧u = .bool b)∨(∃i t,d = .int i∧u = .int i t)∨∃x t,d = .str x∧u = .str x t:=by
 cases d with
 | non=>simp only [Dt] at h;subst h;cases r;exact .inr (.inr (.inl ⟨rfl,rfl⟩))
 | bl b=>simp only [Dt] at h;subst h;cases r;exact .inr (.inr (.inr (.inl ⟨b,rfl,rfl⟩)))
 | int i=>simp only [Dt] at h;subst h;obtain⟨t,rfl⟩:=r;exact .inr (.inr (.inr (.inr (.inl ⟨i,t,rfl,rfl⟩))))
 | str x=>simp only [Dt] at h;subst h;obtain⟨t,rfl⟩:=r;exact .inr (.inr (.inr (.inr (.inr ⟨x,t,rfl,rfl⟩))))
 | tup ds=>
  simp only [Dt] at h
  obtain⟨a,vs,rfl,ea,hs⟩:=h
  cases r
  obtain⟨_,aG,rv,p⟩:=aX a _ ea
  exact .inl ⟨ds,a,vs,aG,rfl,rfl,rfl,hs,rv,p⟩
 | lst ds=>
  simp only [Dt] at h
  obtain⟨a,vs,rfl,ea,hs⟩:=h
  cases r
  obtain⟨_,aG,n,rv,p⟩:=aX a _ ea
  exact .inr (.inl ⟨ds,a,vs,aG,rfl,rfl,rfl,hs,rv,⟨_,p,rfl,n,rfl⟩⟩)
theorem in1_units (A:Around):A.in1.units=A.units+1:=rfl
mutual
theorem Hg (aX:iW P w H s.heap):∀(d e:D) {A:Around}{x y:V}{u v:Value},Dt H d x→Dt H e y→RelV x u→RelV y v→A.units+d.dp+1<cLine→EqAt A s u v (D.eq d e)
 | .tup ds,e,A,x,y,u,v,hd,he,rx,ry,hu=>by
  have dZ:A.units<cLine:=by omega
  rcases bH aX hd rx with ⟨Wd,a,vs,aG,ed,ex,eu,hs,rv,p⟩|⟨_,_,_,_,z,_⟩|⟨z,_⟩|⟨_,z,_⟩|⟨_,_,z,_⟩|⟨_,_,z,_⟩<;>try cases z
  cases ed;subst ex eu
  rcases bH aX he ry with ⟨es,b,us,gE,ee,ey,ev,eN,gQ,p'⟩|⟨es,b,us,gE,ee,ey,ev,eN,gQ,p'⟩|⟨ee,ev⟩|⟨b,ee,ev⟩|⟨i,t,ee,ev⟩|⟨z,t,ee,ev⟩<;>subst ee ev
  · subst ey
    by_cases CP:a=b
    · subst CP
      rw [Dt.inj hd he,D.sH]
      exact EqAt.same _
    · refine EqAt.of_refs CP ?_
      have n1:aG.toArray.size=ds.length:=by have:=rv.length;have:=hs.length;simp;omega
      have n2:gE.toArray.size=es.length:=by have:=gQ.length;have:=eN.length;simp;omega
      simp only [D.eq]
      rw [←D.kK,←n1,←n2]
      refine RcAt.tuples p p' dZ fun j j1 j2=>?_
      simp only [D.dp] at hu
      have:=ka aX ds es (A:=A.in1) hs eN rv gQ (by rw [in1_units];omega) j (by simpa using j1) (by simpa using j2)
      simpa using this
  · subst ey;exact EqAt.tuple_list p p' dZ
  · exact EqAt.tuple_none p dZ
  · exact EqAt.tuple_bool b p dZ
  · exact EqAt.tuple_int i t p dZ
  · exact EqAt.tuple_str z t p dZ
 | .lst ds,e,A,x,y,u,v,hd,he,rx,ry,hu=>by
  have dZ:A.units<cLine:=by omega
  rcases bH aX hd rx with ⟨_,_,_,_,z,_⟩|⟨Wd,a,vs,aG,ed,ex,eu,hs,rv,p⟩|⟨z,_⟩|⟨_,z,_⟩|⟨_,_,z,_⟩|⟨_,_,z,_⟩<;>try cases z
  cases ed;subst ex eu
  rcases bH aX he ry with ⟨es,b,us,gE,ee,ey,ev,eN,gQ,p'⟩|⟨es,b,us,gE,ee,ey,ev,eN,gQ,p'⟩|⟨ee,ev⟩|⟨b,ee,ev⟩|⟨i,t,ee,ev⟩|⟨z,t,ee,ev⟩<;>subst ee ev
  · subst ey;exact EqAt.list_tuple p p' dZ
  · subst ey
    by_cases CP:a=b
    · subst CP
      rw [Dt.inj hd he,D.sH]
      exact EqAt.same _
    · refine EqAt.of_refs CP ?_
      have n1:aG.toArray.size=ds.length:=by have:=rv.length;have:=hs.length;simp;omega
      have n2:gE.toArray.size=es.length:=by have:=gQ.length;have:=eN.length;simp;omega
      simp only [D.eq]
      by_cases hsz:aG.toArray.size=gE.toArray.size
      · have e:=D.kK ds es
        rw [←n1,←n2,←hsz,Nat.min_self,beq_self_eq_true,Bool.and_true] at e
        rw [←e]
        refine RcAt.lists p p' hsz dZ fun j j1 j2=>?_
        simp only [D.dp] at hu
        have:=ka aX ds es (A:=A.in1) hs eN rv gQ (by rw [in1_units];omega) j (by simpa using j1) (by simpa using j2)
        simpa using this
      · have e:D.eqs ds es=false:=by
         cases h:D.eqs ds es with
         | false=>rfl
         | true=>exact absurd (D.oM h) (by omega)
        rw [e]
        exact RcAt.lists_lengths p p' (by simpa using hsz) dZ
  · exact EqAt.list_none p dZ
  · exact EqAt.list_bool b p dZ
  · exact EqAt.list_int i t p dZ
  · exact EqAt.list_str z t p dZ
 | .non,e,A,x,y,u,v,hd,he,rx,ry,hu=>by
  have dZ:A.units<cLine:=by omega
  simp only [Dt] at hd;subst hd;cases rx
  rcases bH aX he ry with ⟨es,b,us,gE,ee,ey,ev,eN,gQ,p'⟩|⟨es,b,us,gE,ee,ey,ev,eN,gQ,p'⟩|⟨ee,ev⟩|⟨b,ee,ev⟩|⟨i,t,ee,ev⟩|⟨z,t,ee,ev⟩<;>subst ee ev
  · exact EqAt.none_tuple p' dZ
  · exact EqAt.none_list p' dZ
  · exact EqAt.same _
  · exact EqAt.none_bool b
  · exact EqAt.none_int i t
  · exact EqAt.none_str z t
 | .bl c,e,A,x,y,u,v,hd,he,rx,ry,hu=>by
  have dZ:A.units<cLine:=by omega
  simp only [Dt] at hd;subst hd;cases rx
  rcases bH aX he ry with ⟨es,b,us,gE,ee,ey,ev,eN,gQ,p'⟩|⟨es,b,us,gE,ee,ey,ev,eN,gQ,p'⟩|⟨ee,ev⟩|⟨b,ee,ev⟩|⟨i,t,ee,ev⟩|⟨z,t,ee,ev⟩<;>subst ee ev
  · exact EqAt.bool_tuple c p' dZ
  · exact EqAt.bool_list c p' dZ
  · exact EqAt.bool_none c
  · exact EqAt.bool_bool c b
  · exact EqAt.bool_int c i t
  · exact EqAt.bool_str c z t
 | .int c,e,A,x,y,u,v,hd,he,rx,ry,hu=>by
  have dZ:A.units<cLine:=by omega
  simp only [Dt] at hd;subst hd;obtain⟨tt,rfl⟩:=rx
  rcases bH aX he ry with ⟨es,b,us,gE,ee,ey,ev,eN,gQ,p'⟩|⟨es,b,us,gE,ee,ey,ev,eN,gQ,p'⟩|⟨ee,ev⟩|⟨b,ee,ev⟩|⟨i,t,ee,ev⟩|⟨z,t,ee,ev⟩<;>subst ee ev
  · exact EqAt.int_tuple c tt p' dZ
  · exact EqAt.int_list c tt p' dZ
  · exact EqAt.int_none c tt
  · exact EqAt.int_bool c tt b
  · exact EqAt.int_int c tt i t
  · exact EqAt.int_str c tt z t
 | .str c,e,A,x,y,u,v,hd,he,rx,ry,hu=>by
  have dZ:A.units<cLine:=by omega
  simp only [Dt] at hd;subst hd;obtain⟨tt,rfl⟩:=rx
  rcases bH aX he ry with ⟨es,b,us,gE,ee,ey,ev,eN,gQ,p'⟩|⟨es,b,us,gE,ee,ey,ev,eN,gQ,p'⟩|⟨ee,ev⟩|⟨b,ee,ev⟩|⟨i,t,ee,ev⟩|⟨z,t,ee,ev⟩<;>subst ee ev
  · exact EqAt.str_tuple c tt p' dZ
  · exact EqAt.str_list c tt p' dZ
  · exact EqAt.str_none c tt
  · exact EqAt.str_bool c tt b
  · exact EqAt.str_int c tt i t
  · exact EqAt.str_str c tt z t
theorem ka (aX:iW P w H s.heap):∀(ds es:List D) {A:Around}{xs ys:List V}{us vs:List Value},aR H ds xs→aR H es ys→Vals xs us→Vals ys vs→A.units+D.qa ds+1<cLine→
 ∀j (h1:j<us.length) (h2:j<vs.length),EqAt A s us[j] vs[j] (D.eq (ds.getD j .non) (es.getD j .non))
 | [],es,A,xs,ys,us,vs,hd,he,rx,ry,hu,j,h1,h2=>by
  simp only [aR] at hd;subst hd;cases rx;simp at h1
 | d::ds,es,A,xs,ys,us,vs,hd,he,rx,ry,hu,j,h1,h2=>by
  simp only [aR] at hd
  obtain⟨x,xr,rfl,hx,hxr⟩:=hd
  cases rx with
  | cons r rt=>
   cases es with
   | nil=>simp only [aR] at he;subst he;cases ry;simp at h2
   | cons e er=>
    simp only [aR] at he
    obtain⟨y,yr,rfl,hy,hyr⟩:=he
    cases ry with
    | cons q qt=>
     simp only [D.qa] at hu
     cases j with
     | zero=>exact Hg aX d e hx hy r q (by omega)
     | succ j=>exact ka aX ds er hxr hyr rt qt (by omega) j (by simpa using h1) (by simpa using h2)
end
end
end L2
namespace L2
open PySem PySem.Spec PyProof.Rows
section
variable {P : Program} {w : World} {H : Hp} {s : Shared}
open PySem.SeqAt
theorem D.GW {ds es:List D} (h:ds.length≠es.length):D.eqs ds es=false:=by
 cases q:D.eqs ds es with
 | false=>rfl
 | true=>exact absurd (D.oM q) h
theorem NL (aX:iW P w H s.heap) {d e:D}{A:Around}{x y:V}{u v:Value} (hd:Dt H d x) (he:Dt H e y) (rx:RelV x u) (ry:RelV y v) (hu:A.units+d.dp+1<cLine):RcAt A s u v (D.eq d e):=by
 have dZ:A.units<cLine:=by omega
 rcases bH aX hd rx with ⟨ds,a,vs,aG,ed,ex,eu,hs,rv,p⟩|⟨ds,a,vs,aG,ed,ex,eu,hs,rv,p⟩|⟨ed,eu⟩|⟨c,ed,eu⟩|⟨c,tt,ed,eu⟩|⟨c,tt,ed,eu⟩
 · subst ed eu
   rcases bH aX he ry with ⟨es,b,us,gE,ee,ey,ev,eN,gQ,p'⟩|⟨es,b,us,gE,ee,ey,ev,eN,gQ,p'⟩|⟨ee,ev⟩|⟨b,ee,ev⟩|⟨i,t,ee,ev⟩|⟨z,t,ee,ev⟩
   · subst ee ev
     have n1:aG.toArray.size=ds.length:=by have:=rv.length;have:=hs.length;simp;omega
     have n2:gE.toArray.size=es.length:=by have:=gQ.length;have:=eN.length;simp;omega
     simp only [D.eq]
     simp only [D.dp] at hu
     have all:∀j (j1:j<aG.toArray.size) (j2:j<gE.toArray.size),EqAt A.in1 s aG.toArray[j] gE.toArray[j] (D.eq (ds.getD j .non) (es.getD j .non)):=fun j j1 j2=>by
      have:=ka aX ds es (A:=A.in1) hs eN rv gQ (by rw [in1_units];omega) j (by simpa using j1) (by simpa using j2)
      simpa using this
     rw [←D.kK,←n1,←n2]
     exact RcAt.tuples p p' dZ all
   · subst ee ev
     exact RcAt.tuple_list p p' dZ
   · subst ee ev
     exact RcAt.tuple_none p dZ
   · subst ee ev
     exact RcAt.tuple_bool b p dZ
   · subst ee ev
     exact RcAt.tuple_int i t p dZ
   · subst ee ev
     exact RcAt.tuple_str z t p dZ
 · subst ed eu
   rcases bH aX he ry with ⟨es,b,us,gE,ee,ey,ev,eN,gQ,p'⟩|⟨es,b,us,gE,ee,ey,ev,eN,gQ,p'⟩|⟨ee,ev⟩|⟨b,ee,ev⟩|⟨i,t,ee,ev⟩|⟨z,t,ee,ev⟩
   · subst ee ev
     exact RcAt.list_tuple p p' dZ
   · subst ee ev
     have n1:aG.toArray.size=ds.length:=by have:=rv.length;have:=hs.length;simp;omega
     have n2:gE.toArray.size=es.length:=by have:=gQ.length;have:=eN.length;simp;omega
     simp only [D.eq]
     simp only [D.dp] at hu
     have all:∀j (j1:j<aG.toArray.size) (j2:j<gE.toArray.size),EqAt A.in1 s aG.toArray[j] gE.toArray[j] (D.eq (ds.getD j .non) (es.getD j .non)):=fun j j1 j2=>by
      have:=ka aX ds es (A:=A.in1) hs eN rv gQ (by rw [in1_units];omega) j (by simpa using j1) (by simpa using j2)
      simpa using this
     by_cases hsz:aG.toArray.size=gE.toArray.size
     · have e:=D.kK ds es
       rw [←n1,←n2,←hsz,Nat.min_self,beq_self_eq_true,Bool.and_true] at e
       rw [←e]
       exact RcAt.lists p p' hsz dZ all
     · rw [D.GW (by omega)]
       exact RcAt.lists_lengths p p' (by simpa using hsz) dZ
   · subst ee ev
     exact RcAt.list_none p dZ
   · subst ee ev
     exact RcAt.list_bool b p dZ
   · subst ee ev
     exact RcAt.list_int i t p dZ
   · subst ee ev
     exact RcAt.list_str z t p dZ
 · subst ed eu
   rcases bH aX he ry with ⟨es,b,us,gE,ee,ey,ev,eN,gQ,p'⟩|⟨es,b,us,gE,ee,ey,ev,eN,gQ,p'⟩|⟨ee,ev⟩|⟨b,ee,ev⟩|⟨i,t,ee,ev⟩|⟨z,t,ee,ev⟩
   · subst ee ev
     exact RcAt.none_tuple p' dZ
   · subst ee ev
     exact RcAt.none_list p' dZ
   · subst ee ev
     exact RcAt.none_none 
   · subst ee ev
     exact RcAt.none_bool b
   · subst ee ev
     exact RcAt.none_int i t
   · subst ee ev
     exact RcAt.none_str z t
 · subst ed eu
   rcases bH aX he ry with ⟨es,b,us,gE,ee,ey,ev,eN,gQ,p'⟩|⟨es,b,us,gE,ee,ey,ev,eN,gQ,p'⟩|⟨ee,ev⟩|⟨b,ee,ev⟩|⟨i,t,ee,ev⟩|⟨z,t,ee,ev⟩
   · subst ee ev
     exact RcAt.bool_tuple c p' dZ
   · subst ee ev
     exact RcAt.bool_list c p' dZ
   · subst ee ev
     exact RcAt.bool_none c
   · subst ee ev
     exact RcAt.bool_bool c b
   · subst ee ev
     exact RcAt.bool_int c i t
   · subst ee ev
     exact RcAt.bool_str c z t
 · subst ed eu
   rcases bH aX he ry with ⟨es,b,us,gE,ee,ey,ev,eN,gQ,p'⟩|⟨es,b,us,gE,ee,ey,ev,eN,gQ,p'⟩|⟨ee,ev⟩|⟨b,ee,ev⟩|⟨i,t,ee,ev⟩|⟨z,t,ee,ev⟩
   · subst ee ev
     exact RcAt.int_tuple c tt p' dZ
   · subst ee ev
     exact RcAt.int_list c tt p' dZ
   · subst ee ev
     exact RcAt.int_none c tt
   · subst ee ev
     exact RcAt.int_bool c tt b
   · subst ee ev
     exact RcAt.int_int c tt i t
   · subst ee ev
     exact RcAt.int_str c tt z t
 · subst ed eu
   rcases bH aX he ry with ⟨es,b,us,gE,ee,ey,ev,eN,gQ,p'⟩|⟨es,b,us,gE,ee,ey,ev,eN,gQ,p'⟩|⟨ee,ev⟩|⟨b,ee,ev⟩|⟨i,t,ee,ev⟩|⟨z,t,ee,ev⟩
   · subst ee ev
     exact RcAt.str_tuple c tt p' dZ
   · subst ee ev
     exact RcAt.str_list c tt p' dZ
   · subst ee ev
     exact RcAt.str_none c tt
   · subst ee ev
     exact RcAt.str_bool c tt b
   · subst ee ev
     exact RcAt.str_int c tt i t
   · subst ee ev
     exact RcAt.str_str c tt z t
theorem Oy (aX:iW P w H s.heap) {d e:D}{A:Around}{x y:V}{u v:Value} (hd:Dt H d x) (he:Dt H e y) (rx:RelV x u) (ry:RelV y v) (hu:A.units+d.dp+1<cLine):RcNeAt A s u v (!D.eq d e):=by
 have dZ:A.units<cLine:=by omega
 rcases bH aX hd rx with ⟨ds,a,vs,aG,ed,ex,eu,hs,rv,p⟩|⟨ds,a,vs,aG,ed,ex,eu,hs,rv,p⟩|⟨ed,eu⟩|⟨c,ed,eu⟩|⟨c,tt,ed,eu⟩|⟨c,tt,ed,eu⟩
 · subst ed eu
   rcases bH aX he ry with ⟨es,b,us,gE,ee,ey,ev,eN,gQ,p'⟩|⟨es,b,us,gE,ee,ey,ev,eN,gQ,p'⟩|⟨ee,ev⟩|⟨b,ee,ev⟩|⟨i,t,ee,ev⟩|⟨z,t,ee,ev⟩
   · subst ee ev
     have n1:aG.toArray.size=ds.length:=by have:=rv.length;have:=hs.length;simp;omega
     have n2:gE.toArray.size=es.length:=by have:=gQ.length;have:=eN.length;simp;omega
     simp only [D.eq]
     simp only [D.dp] at hu
     have all:∀j (j1:j<aG.toArray.size) (j2:j<gE.toArray.size),EqAt A.in1 s aG.toArray[j] gE.toArray[j] (D.eq (ds.getD j .non) (es.getD j .non)):=fun j j1 j2=>by
      have:=ka aX ds es (A:=A.in1) hs eN rv gQ (by rw [in1_units];omega) j (by simpa using j1) (by simpa using j2)
      simpa using this
     rw [←D.kK,←n1,←n2]
     exact RcNeAt.tuples p p' dZ all
   · subst ee ev
     exact RcNeAt.tuple_list p p' dZ
   · subst ee ev
     exact RcNeAt.tuple_none p dZ
   · subst ee ev
     exact RcNeAt.tuple_bool b p dZ
   · subst ee ev
     exact RcNeAt.tuple_int i t p dZ
   · subst ee ev
     exact RcNeAt.tuple_str z t p dZ
 · subst ed eu
   rcases bH aX he ry with ⟨es,b,us,gE,ee,ey,ev,eN,gQ,p'⟩|⟨es,b,us,gE,ee,ey,ev,eN,gQ,p'⟩|⟨ee,ev⟩|⟨b,ee,ev⟩|⟨i,t,ee,ev⟩|⟨z,t,ee,ev⟩
   · subst ee ev
     exact RcNeAt.list_tuple p p' dZ
   · subst ee ev
     have n1:aG.toArray.size=ds.length:=by have:=rv.length;have:=hs.length;simp;omega
     have n2:gE.toArray.size=es.length:=by have:=gQ.length;have:=eN.length;simp;omega
     simp only [D.eq]
     simp only [D.dp] at hu
     have all:∀j (j1:j<aG.toArray.size) (j2:j<gE.toArray.size),EqAt A.in1 s aG.toArray[j] gE.toArray[j] (D.eq (ds.getD j .non) (es.getD j .non)):=fun j j1 j2=>by
      have:=ka aX ds es (A:=A.in1) hs eN rv gQ (by rw [in1_units];omega) j (by simpa using j1) (by simpa using j2)
      simpa using this
     by_cases hsz:aG.toArray.size=gE.toArray.size
     · have e:=D.kK ds es
       rw [←n1,←n2,←hsz,Nat.min_self,beq_self_eq_true,Bool.and_true] at e
       rw [←e]
       exact RcNeAt.lists p p' hsz dZ all
     · rw [D.GW (by omega)]
       exact RcNeAt.lists_lengths p p' (by simpa using hsz) dZ
   · subst ee ev
     exact RcNeAt.list_none p dZ
   · subst ee ev
     exact RcNeAt.list_bool b p dZ
   · subst ee ev
     exact RcNeAt.list_int i t p dZ
   · subst ee ev
     exact RcNeAt.list_str z t p dZ
 · subst ed eu
   rcases bH aX he ry with ⟨es,b,us,gE,ee,ey,ev,eN,gQ,p'⟩|⟨es,b,us,gE,ee,ey,ev,eN,gQ,p'⟩|⟨ee,ev⟩|⟨b,ee,ev⟩|⟨i,t,ee,ev⟩|⟨z,t,ee,ev⟩
   · subst ee ev
     exact RcNeAt.none_tuple p' dZ
   · subst ee ev
     exact RcNeAt.none_list p' dZ
   · subst ee ev
     exact RcNeAt.none_none 
   · subst ee ev
     exact RcNeAt.none_bool b
   · subst ee ev
     exact RcNeAt.none_int i t
   · subst ee ev
     exact RcNeAt.none_str z t
 · subst ed eu
   rcases bH aX he ry with ⟨es,b,us,gE,ee,ey,ev,eN,gQ,p'⟩|⟨es,b,us,gE,ee,ey,ev,eN,gQ,p'⟩|⟨ee,ev⟩|⟨b,ee,ev⟩|⟨i,t,ee,ev⟩|⟨z,t,ee,ev⟩
   · subst ee ev
     exact RcNeAt.bool_tuple c p' dZ
   · subst ee ev
     exact RcNeAt.bool_list c p' dZ
   · subst ee ev
     exact RcNeAt.bool_none c
   · subst ee ev
     exact RcNeAt.bool_bool c b
   · subst ee ev
     exact RcNeAt.bool_int c i t
   · subst ee ev
     exact RcNeAt.bool_str c z t
 · subst ed eu
   rcases bH aX he ry with ⟨es,b,us,gE,ee,ey,ev,eN,gQ,p'⟩|⟨es,b,us,gE,ee,ey,ev,eN,gQ,p'⟩|⟨ee,ev⟩|⟨b,ee,ev⟩|⟨i,t,ee,ev⟩|⟨z,t,ee,ev⟩
   · subst ee ev
     exact RcNeAt.int_tuple c tt p' dZ
   · subst ee ev
     exact RcNeAt.int_list c tt p' dZ
   · subst ee ev
     exact RcNeAt.int_none c tt
   · subst ee ev
     exact RcNeAt.int_bool c tt b
   · subst ee ev
     exact RcNeAt.int_int c tt i t
   · subst ee ev
     exact RcNeAt.int_str c tt z t
 · subst ed eu
   rcases bH aX he ry with ⟨es,b,us,gE,ee,ey,ev,eN,gQ,p'⟩|⟨es,b,us,gE,ee,ey,ev,eN,gQ,p'⟩|⟨ee,ev⟩|⟨b,ee,ev⟩|⟨i,t,ee,ev⟩|⟨z,t,ee,ev⟩
   · subst ee ev
     exact RcNeAt.str_tuple c tt p' dZ
   · subst ee ev
     exact RcNeAt.str_list c tt p' dZ
   · subst ee ev
     exact RcNeAt.str_none c tt
   · subst ee ev
     exact RcNeAt.str_bool c tt b
   · subst ee ev
     exact RcNeAt.str_int c tt i t
   · subst ee ev
     exact RcNeAt.str_str c tt z t
end
section
variable {X : Cx} {k : Nat}
noncomputable def QR:R2:=fun x y H Q=>∃d e,Dt H d x∧Dt H e y∧d.dp≤150∧Q (.bl (D.eq d e)) H
noncomputable def QX:R2:=fun x y H Q=>∃d e,Dt H d x∧Dt H e y∧d.dp≤150∧Q (.bl (!D.eq d e)) H
theorem xg (hr:gy k X.A):lh X (compareOp .Eq) QR:=by
 intro pins s σ H x y v u Q I rx ry h
 obtain⟨d,e,hd,he,hp,q⟩:=h
 exact NL I.aX hd he rx ry (by have:=hr.un;omega) _ _ _ _ ⟨.bl _,H,I,rfl,q⟩
theorem He (hr:gy k X.A):lh X (compareOp .NotEq) QX:=by
 intro pins s σ H x y v u Q I rx ry h
 obtain⟨d,e,hd,he,hp,q⟩:=h
 exact Oy I.aX hd he rx ry (by have:=hr.un;omega) _ _ _ _ ⟨.bl _,H,I,rfl,q⟩
noncomputable def MJ (neg:Bool):R2:=fun x y H Q=>∃a vs ds e,y = .ref a∧(H a=some (.lst vs)∨H a=some (.tup vs))∧aR H ds vs∧Dt H e x∧D.qa ds≤150∧Q (.bl (if neg then !ds.any (fun d=>D.eq d e) else ds.any (fun d=>D.eq d e))) H
noncomputable def eU (H:Hp) (e:D) (u:Value):Bool:=@decide (∃d z,Dt H d z∧RelV z u∧D.eq d e=true) (Classical.propDecidable _)
theorem LK {H:Hp}{d e:D}{z:V}{u:Value} (h:Dt H d z) (r:RelV z u):eU H e u=D.eq d e:=by
 unfold eU
 cases q:D.eq d e with
 | true=>exact @decide_eq_true _ (Classical.propDecidable _) ⟨d,z,h,r,q⟩
 | false=>
  refine @decide_eq_false _ (Classical.propDecidable _) ?_
  rintro ⟨d',z',h',r',q'⟩
  have ez:=RelV.inj r r'
  subst ez
  rw [←Dt.inj h h',q] at q'
  cases q'
theorem uO {H:Hp}{e:D}:∀{ds:List D}{vs:List V}{us:List Value},aR H ds vs→Vals vs us→us.any (eU H e)=ds.any (fun d=>D.eq d e)
 | [],vs,us,h,r=>by simp only [aR] at h;subst h;cases r;rfl
 | d::ds,vs,us,h,r=>by
  simp only [aR] at h
  obtain⟨v,vr,rfl,h1,h2⟩:=h
  cases r with
  | cons r rt=>rw [List.any_cons,List.any_cons,LK h1 r,uO h2 rt]
theorem uM {P:Program}{w:World}{H:Hp}{s:Shared}{A:Around} (aX:iW P w H s.heap) {e:D}{x:V}{v:Value} (he:Dt H e x) (rx:RelV x v):∀{ds:List D}{vs:List V}{us:List Value},aR H ds vs→Vals vs us→A.units+D.qa ds+1<cLine→
 ∀u∈us,SeqAt.EqAt A s u v (eU H e u)
 | [],vs,us,h,r,_=>by simp only [aR] at h;subst h;cases r;intro u z;cases z
 | d::ds,vs,us,h,r,hu=>by
  simp only [aR] at h
  obtain⟨v',vr,rfl,h1,h2⟩:=h
  simp only [D.qa] at hu
  cases r with
  | cons r rt=>
   intro u z
   rcases List.mem_cons.mp z with rfl|z
   · rw [LK h1 r];exact Hg aX d e h1 he r rx (by omega)
   · exact uM aX he rx h2 rt (by omega) u z
theorem MU (hr:gy k X.A):lh X (compareOp .In) (MJ false):=by
 intro pins s σ H x y v u Q I rx ry h
 obtain⟨a,vs,ds,e,rfl,ha,hs,he,hp,q⟩:=h
 cases ry
 have hu:X.A.in1.units+D.qa ds+1<cLine:=by rw [in1_units];have:=hr.un;omega
 rcases ha with ha|ha
 · obtain⟨_,aG,n,rv,p⟩:=I.aX a _ ha
   refine SeqAt.in_listAt (eU H e) (show s.heap.IsList a aG.toArray from ⟨_,p,rfl,n,rfl⟩) (fun y hy=>uM I.aX he rx hs rv hu y (by simpa using hy)) ?_
   refine⟨.bl _,H,I,?_,q⟩
   rw [List.any_toArray,uO hs rv];rfl
 · obtain⟨_,aG,rv,p⟩:=I.aX a _ ha
   refine SeqAt.in_tupleAt (eU H e) (show s.heap.IsTuple a aG.toArray from p) (fun y hy=>uM I.aX he rx hs rv hu y (by simpa using hy)) ?_
   refine⟨.bl _,H,I,?_,q⟩
   rw [List.any_toArray,uO hs rv];rfl
theorem EN (hr:gy k X.A):lh X (compareOp .NotIn) (MJ true):=by
 intro pins s σ H x y v u Q I rx ry h
 obtain⟨a,vs,ds,e,rfl,ha,hs,he,hp,q⟩:=h
 cases ry
 have hu:X.A.in1.units+D.qa ds+1<cLine:=by rw [in1_units];have:=hr.un;omega
 rcases ha with ha|ha
 · obtain⟨_,aG,n,rv,p⟩:=I.aX a _ ha
   refine SeqAt.notIn_listAt (eU H e) (show s.heap.IsList a aG.toArray from ⟨_,p,rfl,n,rfl⟩) (fun y hy=>uM I.aX he rx hs rv hu y (by simpa using hy)) ?_
   refine⟨.bl _,H,I,?_,q⟩
   rw [List.any_toArray,uO hs rv];rfl
 · obtain⟨_,aG,rv,p⟩:=I.aX a _ ha
   refine SeqAt.notIn_tupleAt (eU H e) (show s.heap.IsTuple a aG.toArray from p) (fun y hy=>uM I.aX he rx hs rv hu y (by simpa using hy)) ?_
   refine⟨.bl _,H,I,?_,q⟩
   rw [List.any_toArray,uO hs rv];rfl
noncomputable def Cy (t n:String):Bool:=t==n||(t=="bool"&&n=="int")
inductive Lx (H:Hp):V→String→Prop where
 | non:Lx H .non "NoneType"
 | bl (b:Bool):Lx H (.bl b) "bool"
 | int (i:Int):Lx H (.int i) "int"
 | str (x:Str):Lx H (.str x) "str"
 | lst {a:Addr}{xs:List V} (e:H a=some (.lst xs)):Lx H (.ref a) "list"
 | tup {a:Addr}{xs:List V} (e:H a=some (.tup xs)):Lx H (.ref a) "tuple"
theorem wj {K:PySem.W.Frag}{t n:String} (ht:t∈["NoneType","bool","int","str","list","tuple","dict"]) (hn:n∈["bool","int","str","list","tuple","dict"]):PySem.W.kitOne K (.type t) (.type n)=some (Cy t n):=by
 simp only [List.mem_cons,List.not_mem_nil,or_false] at ht hn
 rcases ht with rfl|rfl|rfl|rfl|rfl|rfl|rfl<;>rcases hn with rfl|rfl|rfl|rfl|rfl|rfl<;>first|rfl|decide +kernel
noncomputable def Pq:List V→Hp→VK→Prop:=fun xs H Q=>∃x n t,xs=[x,.ty n]∧Lx H x t∧n∈["bool","int","str","list","tuple","dict"]∧Q (.bl (Cy t n)) H
theorem uT:df X (.builtin "isinstance") Pq:=by
 intro pins s σ H xs us Q I r h
 obtain⟨x,n,t,rfl,ty,hn,q⟩:=h
 obtain⟨u,c,rfl,ru,rc⟩:=vals2 r
 cases (show c=Value.type n from rc)
 have fin:∀tk,EP X pins σ Q (.bool (Cy t n)) {s with toks:=tk}:=fun tk=>⟨.bl _,H,I.tok _,rfl,q⟩
 cases ty with
 | non=>exact ig I ru .non (wj (by simp) hn) fin
 | bl b=>exact ig I ru (.bl b) (wj (by simp) hn) fin
 | int i=>exact ig I ru (.int i) (wj (by simp) hn) fin
 | str z=>exact ig I ru (.str z) (wj (by simp) hn) fin
 | lst e=>exact ig I ru (.lst e) (wj (by simp) hn) fin
 | tup e=>exact ig I ru (.tup e) (wj (by simp) hn) fin
end
end L2
namespace L2
open PySem PySem.Spec PyProof.Rows
theorem bM:bootBuiltins "len"=some (.builtin "len"):=by decide +kernel
theorem G7:bootBuiltins "all"=some (.builtin "all"):=by decide +kernel
theorem OC:bootBuiltins "any"=some (.builtin "any"):=by decide +kernel
theorem FQ:bootBuiltins "max"=some (.builtin "max"):=by decide +kernel
theorem Bp:bootBuiltins "min"=some (.builtin "min"):=by decide +kernel
theorem ji:bootBuiltins "isinstance"=some (.builtin "isinstance"):=by decide +kernel
theorem qx:bootBuiltins "int"=some (.type "int"):=by decide +kernel
theorem qD:bootBuiltins "str"=some (.type "str"):=by decide +kernel
theorem sN:bootBuiltins "list"=some (.type "list"):=by decide +kernel
theorem Au:bootBuiltins "tuple"=some (.type "tuple"):=by decide +kernel
theorem cg {H:Hp}{p:Addr} (h:H p=none) (o:HO):av H (upd H p o):=fun b u q=>by rw [bg (aL q h)];exact q
section
variable {X : Cx}
noncomputable def FD:R2:=fun x y H Q=>∃a b xs ys,x = .ref a∧y = .ref b∧H a=some (.tup xs)∧H b=some (.tup ys)∧xs.length+ys.length≤sizeLine∧
 ∀p H',av H H'→H' p=some (.tup (xs++ys))→Q (.ref p) H'
theorem FO {prog:Program}{w:World}{A:Around}{E:Value→Shared→Prop}{s:Shared}{t b:Addr}{ws:List Value}{Q:Value→Shared→Prop} (ht:IsTup s.heap t ([]:List Value).toArray) (hb:IsTup s.heap b ws.toArray) (h:Q (.ref b) s) :
 wpAny (model prog w) A (binaryOp .Add (.ref t) (.ref b)) Q E s:=by
 obtain⟨⟨cls,dd,data,sl⟩,ho,hc,n,hd⟩:=id ht
 obtain⟨⟨V0,T2,data2,MF⟩,ho2,iS,n2,hd2⟩:=id hb
 simp only at hc hd iS hd2
 subst hc hd iS hd2
 exact concat_meets ⟨_,ho,rfl⟩ ⟨_,ho2,rfl⟩ noFill_tuple_add seq_tuple_add PySem.F.slot_tuple_add PySem.F.entry_tuple_add (PySem.F.args_tuple_add_2 _ _)
  (tuple_addW0 t b _ ws.toArray n n2 dd T2 sl MF (by rfl)) ⟨ho,ho2,h⟩
theorem gn:lh X (binaryOp .Add) FD:=by
 intro pins s σ H x y v u Q I rx ry h
 obtain⟨a,b,xs,ys,rfl,rfl,ha,hb,hz,q⟩:=h
 by_cases hx:xs=[]
 · subst hx
   cases rx
   cases ry
   obtain⟨_,aG,r1,p1⟩:=I.aX a _ ha
   obtain⟨_,yB,r2,p2⟩:=I.aX b _ hb
   cases r1
   exact FO p1 p2 ⟨.ref b,H,I,rfl,q b H (av.refl H) hb⟩
 · refine Je pins s σ H _ _ v u Q I rx ry ⟨a,b,xs,ys,rfl,rfl,jE.of ha,jE.of hb,hx,hz,fun e=>?_,fun _ p hp=>q p _ (cg hp _) bI⟩
   subst e
   exact q a H (av.refl H) (by rw [List.append_nil];exact ha)
end
noncomputable def zE (H:Hp) (ds:List D) (Q:VK):Prop:=∀p vs H',av H H'→H p=none→H' p=some (.lst vs)→aR H' ds vs→Q (.ref p) H'
noncomputable def Al (H:Hp) (d:D) (Q:VK):Prop:=∀v H',av H H'→Dt H' d v→Q v H'
theorem zE.d {H:Hp}{ds:List D}{Q:VK} (h:Al H (.lst ds) Q):zE H ds Q:=fun p vs H' S _ e d=>h _ H' S (by simp only [Dt];exact⟨p,vs,rfl,e,d⟩)
end L2
namespace L2
open PySem PySem.Spec PyProof.Rows
noncomputable def itemsOf:Option HO→Option (List V)
 | some (.lst xs)=>some xs
 | some (.tup xs)=>some xs
 | _=>none
theorem oo {K:PySem.W.Frag}{H:Hp}{a:Addr}{xs:List V} (h:itemsOf (H a)=some xs):fQ K H a xs∨jE K H a xs:=by
 cases e:H a with
 | none=>rw [e] at h;cases h
 | some o=>
  rw [e] at h
  cases o with
  | lst ys=>cases h;exact .inl (fQ.of e)
  | tup ys=>cases h;exact .inr (jE.of e)
  | _=>cases h
theorem aP {α:Type}{a:α}{r:List α}:kX (a::r) 0=some a:=h7 (j:=0) rfl
theorem bD {α:Type}{a b:α}{r:List α}:kX (a::b::r) 1=some b:=h7 (j:=1) rfl
theorem dH {α:Type}{a b c:α}{r:List α}:kX (a::b::c::r) 2=some c:=h7 (j:=2) rfl
theorem gW {α:Type}{a b c d:α}{r:List α}:kX (a::b::c::d::r) 3=some d:=h7 (j:=3) rfl
theorem Aq {α:Type}{a b c d e:α}{r:List α}:kX (a::b::c::d::e::r) 4=some e:=h7 (j:=4) rfl
section
variable {X : Cx}
noncomputable def Ro:R2:=fun x y H Q=>∃p xs i v,x = .ref p∧y = .int i∧itemsOf (H p)=some xs∧kX xs i=some v∧Q v H
theorem bj:Kg X Ro:=by
 intro value slice pins s σ H x y v u Q I rx ry h hs
 obtain⟨p,xs,i,z,rfl,rfl,e,hz,q⟩:=h
 rcases oo (K:=X.K) e with hq|hq
 · exact xf value slice pins s σ H _ _ v u Q I rx ry ⟨p,xs,i,z,rfl,rfl,hq,hz,q⟩ hs
 · exact N1 value slice pins s σ H _ _ v u Q I rx ry ⟨p,xs,i,z,rfl,rfl,hq,hz,q⟩ hs
theorem aaG:df X (.builtin "len") (fun xs H Q=>∃p ys,xs=[.ref p]∧itemsOf (H p)=some ys∧Q (.int ys.length) H):=by
 intro pins s σ H xs us Q I r h
 obtain⟨p,ys,rfl,e,q⟩:=h
 exact fF pins s σ H _ us Q I r ⟨p,ys,rfl,oo e,q⟩
theorem abO:IB X (fun x lo hi H Q=>∃a xs,x = .ref a∧H a=some (.lst xs)∧∀p,H p=none→Q (.ref p) (upd H p (.lst (jj xs lo hi)))):=by
 intro pins s σ H x v vl vu lo hi sl Q I rx hs pl pu h
 obtain⟨a,xs,rfl,e,q⟩:=h
 exact JS pins s σ H _ v vl vu lo hi sl Q I rx hs pl pu ⟨a,xs,rfl,fQ.of e,q⟩
end
noncomputable def AL (J:It) (g:TG) (tb:TS) (D:Ends) (σ:St) (H:Hp):Prop:=
 ∃W:Nat→Nat→St→Hp→Prop,(∃m,W 0 m σ H)∧∀i m σ H,W i m σ H→
  (J.stop i H∧D.nx σ H)∨(J.go i H∧∃N:St→Hp→Prop,(∀σ' H',N σ' H'→∃m',m'<m∧W (i+1) m' σ' H')∧∀x H',J.Fp i H x H'→g x σ H' fun σ2 H2=>tb {D with nx:=N,ct:=N,bk:=D.nx} σ2 H2)
theorem forR {lo:Int}{n:Nat}{g:TG}{tb:TS}{D:Ends}{σ:St}{H:Hp} (Pv:Nat→St→Hp→Prop) (h0:Pv 0 σ H)
 (hs:∀i σ H,i<n→Pv i σ H→g (.int (lo+i)) σ H fun σ2 H2=>tb {D with nx:=Pv (i+1),ct:=Pv (i+1),bk:=D.nx} σ2 H2) (hd:∀σ H,Pv n σ H→D.nx σ H):AL (IS lo n) g tb D σ H:=EB Pv h0 hs hd
theorem Be {wi:TI}{g:TG}{tb:TS}{D:Ends}{σ:St}{H:Hp}:Rn wi g tb D σ H=wi σ H fun J H1=>AL J g tb D σ H1:=rfl
theorem av.new {H0 H:Hp} (S:av H0 H) {p:Addr} (n:H p=none) (o:HO):av H0 (upd H p o):=S.trans (cg n o)
theorem av.put {H0 H:Hp} (S:av H0 H) {p:Addr} (n:H0 p=none) (o:HO):av H0 (upd H p o):=fun b u h=>by
 rw [bg (aL h n)];exact S b u h
theorem av.old {H0 H:Hp} (S:av H0 H) {p:Addr} (n:H p=none):H0 p=none:=by
 cases e:H0 p with
 | none=>rfl
 | some o=>rw [S p o e] at n;cases n
theorem Dt.new {H:Hp}{d:D}{v:V} (h:Dt H d v) {p:Addr} (n:H p=none) (o:HO):Dt (upd H p o) d v:=h.same (cg n o)
theorem Dt.tup {H:Hp}{ds:List D}{vs:List V}{a:Addr} (e:H a=some (.tup vs)) (h:aR H ds vs):Dt H (.tup ds) (.ref a):=by
 simp only [Dt];exact⟨a,vs,rfl,e,h⟩
theorem Dt.lst {H:Hp}{ds:List D}{vs:List V}{a:Addr} (e:H a=some (.lst vs)) (h:aR H ds vs):Dt H (.lst ds) (.ref a):=by
 simp only [Dt];exact⟨a,vs,rfl,e,h⟩
theorem fG {H:Hp}{ds:List D}{v:V}:Dt H (.tup ds) v↔∃a vs,v = .ref a∧H a=some (.tup vs)∧aR H ds vs:=by simp only [Dt]
theorem Ea {H:Hp}{ds:List D}{v:V}:Dt H (.lst ds) v↔∃a vs,v = .ref a∧H a=some (.lst vs)∧aR H ds vs:=by simp only [Dt]
theorem eZ {H:Hp}{vs:List V}:aR H [] vs↔vs=[]:=by simp only [aR]
theorem aW {H:Hp}{d:D}{ds:List D}{vs:List V}:aR H (d::ds) vs↔∃v r,vs=v::r∧Dt H d v∧aR H ds r:=by simp only [aR]
theorem aQ {H:Hp}{i:Int}{v:V}:Dt H (.int i) v↔v = .int i:=by simp only [Dt]
theorem bc {H:Hp}{x:Str}{v:V}:Dt H (.str x) v↔v = .str x:=by simp only [Dt]
theorem qM {H:Hp}{b:Bool}{v:V}:Dt H (.bl b) v↔v = .bl b:=by simp only [Dt]
theorem cT {H:Hp}{v:V}:Dt H .non v↔v = .non:=by simp only [Dt]
theorem aR.yM {H:Hp}:∀{ns:List Str}{vs:List V},aR H (ns.map D.str) vs→vs=ns.map V.str
 | [],vs,h=>by simpa only [List.map_nil,aR] using h
 | n::r,vs,h=>by
  simp only [List.map_cons,aR] at h
  obtain⟨v,t,rfl,h1,h2⟩:=h
  rw [bc.mp h1,aR.yM h2];rfl
theorem Cc {CX:CXT}{P:Program}{w:World}{K:PySem.W.Frag}{mg:Str→Option Value}{base:Heap}{N:List Str}{qual:Str}{scope:Scope}{f:Addr}{cd:Value}{A:Around}{outer:List Env}{s:Shared}{H:Hp}{E:XK} :
 (xD CX P w K mg base N qual scope f cd A outer s H E).K=K:=rfl
theorem HJ {X:Cx}{N:List Str}{scope:Scope}{C:Addr}{s:Shared}{H:Hp}{ex:List Addr}:(pZ X N scope C s H ex).K=X.K:=rfl
theorem UG {i j:Int} (h1 : -18446744073709551616<i) (h2:i<18446744073709551616):Hr i j:=.inl ⟨h1,h2⟩
theorem aed {i j:Int} (h1 : -18446744073709551616<j) (h2:j<18446744073709551616):Hr i j:=.inr ⟨h1,h2⟩
theorem BI {K:PySem.W.Frag}{H:Hp}{a:Addr}{xs:List V}{R:List V→Prop} (h:fQ K H a xs) (q:R xs):∃x,(fQ K H a x∨jE K H a x)∧R x:=⟨xs,.inl h,q⟩
theorem L1 {K:PySem.W.Frag}{H:Hp}{a:Addr}{xs:List V}{i:Int}{v:V}{R:V→Prop} (h:fQ K H a xs) (e:kX xs i=some v) (q:R v):∃x,fQ K H a x∧∃y,kX x i=some y∧R y:=⟨xs,h,v,e,q⟩
end L2
namespace L2
open PySem PySem.Spec PyProof.Rows
noncomputable def PH (i:Nat) (te:TE):TS:=fun D σ H=>te σ H fun x H1=>D.nx (σ.set i (some x)) H1
theorem aw {X:Cx}{i:Nat}{x:Str}{e:Expr}{te:TE}{pos pos':Pos} (hN:X.N.Nodup) (hi:X.N[i]? = some x) (hx:Loc X.env.scope x) (he:PE X e te) (hs:swapsWith e (some (.Name x pos')) pos.line X.env=pure false:=by rfl) (hf:X.fn x=true∨X.env.scope.names.lookup x=some .local:=by first|exact .inl rfl|exact .inr rfl|assumption):PS X (.Assign [.Name x pos'] e pos) (PH i te):=Nl hN hi hx he hs hf
noncomputable def LO (i:Nat) (wi:TI) (caps:List Nat) (tc:TT) (te:TE):TS:=fun D σ H=>Ag wi caps tc te σ H fun v H1=>D.nx (σ.set i (some v)) H1
theorem sV {X:Cx}{scope:Scope}{x:Str}{N:List Str}{caps:List Nat}{elt iter:Expr}{px py pos u7:Pos}{ifs:List Expr}{wi:TI}{tc:TT}{te:TE}{y:Str}{i:Nat} (fS:X.calm=true) (S:vA X scope x N caps) (hi:PI X (.Name x px) iter wi)
 (hc:∀C s H ex,eT (pZ X N scope C s H ex) ifs tc) (he:∀C s H ex,PE (pZ X N scope C s H ex) elt te) (hN:X.N.Nodup) (hy:X.N[i]? = some y) (hx:X.env.scope.names.lookup y=some .local)
 (MW:swapsWith (.ListComp elt [⟨.Name x px,iter,ifs,0⟩] scope pos) (some (.Name y py)) u7.line X.env=pure true) (hs:∀x,foldedSetIterable iter X.env x=pure x:=by intro _;rfl) :
 PS X (.Assign [.Name y py] (.ListComp elt [⟨.Name x px,iter,ifs,0⟩] scope pos) u7) (LO i wi caps tc te):=Jc fS S hi hc he hN hy hx MW hs
theorem CF {i:Nat}{te:TE}{D:Ends}{σ:St}{H:Hp}:PH i te D σ H=te σ H fun x H1=>D.nx (σ.set i (some x)) H1:=rfl
theorem xc {i:Nat}{wi:TI}{caps:List Nat}{tc:TT}{te:TE}{D:Ends}{σ:St}{H:Hp}:LO i wi caps tc te D σ H=Ag wi caps tc te σ H fun v H1=>D.nx (σ.set i (some v)) H1:=rfl
theorem xW {i:Nat}{σ:St}{H:Hp}{Q:VK}:G8 i σ H Q=(∃v,σ[i]? = some (some v)∧Q v H):=rfl
theorem KP {v:V}{σ:St}{H:Hp}{Q:VK}:tC v σ H Q=(Q v H):=rfl
theorem BP {ta:TE}{σ:St}{H:Hp}{Q:VK}:Rc ta σ H Q=(ta σ H fun x H1=>Q (.bl (decide (x = .non))) H1):=rfl
theorem My {t:TE}{σ:St}{H:Hp}{Q:Bool→Hp→Prop}:tB t σ H Q=(t σ H fun x H1=>∃c,x = .bl c∧Q c H1):=rfl
theorem BS {t u:TT}{σ:St}{H:Hp}{Q:Bool→Hp→Prop}:RQ t u σ H Q=(t σ H fun c H1=>if c=true then u σ H1 Q else Q false H1):=rfl
theorem FN {t u:TT}{σ:St}{H:Hp}{Q:Bool→Hp→Prop}:tOr t u σ H Q=(t σ H fun c H1=>if c=true then Q true H1 else u σ H1 Q):=rfl
theorem BG {t:TT}{σ:St}{H:Hp}{Q:Bool→Hp→Prop}:PF t σ H Q=(t σ H fun c H1=>Q (!c) H1):=rfl
theorem xE {ta tb:TE}{σ:St}{H:Hp}{Q:VK}:LN ta tb σ H Q=(ta σ H fun x H1=>∃c,x = .bl c∧if c=true then tb σ H1 Q else Q (.bl false) H1):=rfl
theorem BW {ta tb:TE}{σ:St}{H:Hp}{Q:VK}:P5 ta tb σ H Q=(ta σ H fun x H1=>∃c,x = .bl c∧if c=true then Q (.bl true) H1 else tb σ H1 Q):=rfl
theorem xu {ta:TE}{σ:St}{H:Hp}{Q:VK}:LF ta σ H Q=(ta σ H fun x H1=>∃c,x = .bl c∧Q (.bl (!c)) H1):=rfl
theorem GH {t:TT}{ta tb:TE}{σ:St}{H:Hp}{Q:VK}:tIf t ta tb σ H Q=(t σ H fun c H1=>if c=true then ta σ H1 Q else tb σ H1 Q):=rfl
theorem xi {D:Ends}{σ:St}{H:Hp}:LZ  D σ H=(D.nx σ H):=rfl
theorem CK {t u:TS}{D:Ends}{σ:St}{H:Hp}:ei t u D σ H=(t {D with nx:=u D} σ H):=rfl
theorem yh {te:TE}{D:Ends}{σ:St}{H:Hp}:Mm te D σ H=(te σ H fun _ H1=>D.nx σ H1):=rfl
theorem B6 {te:TE}{D:Ends}{σ:St}{H:Hp}:Rr te D σ H=(te σ H D.rt):=rfl
theorem Cg {c:TT}{t u:TS}{D:Ends}{σ:St}{H:Hp}:RU c t u D σ H=(c σ H fun b H1=>if b=true then t D σ H1 else u D σ H1):=rfl
theorem s9 {D:Ends}{σ:St}{H:Hp}:Fw  D σ H=(False):=rfl
theorem sU {i:Nat}{v:V}{σ:St}{H:Hp}{Q:St→Hp→Prop}:Gm i v σ H Q=(Q (σ.set i (some v)) H):=rfl
theorem Bb {vs:List V}{σ:St}{H:Hp}{Q:St→Hp→Prop}:Rk  vs σ H Q=(vs=[]∧Q σ H):=rfl
theorem ya {t:TG}{u:Ke}{vs:List V}{σ:St}{H:Hp}{Q:St→Hp→Prop}:Le t u vs σ H Q=(∃v r,vs=v::r∧t v σ H fun σ' H'=>u r σ' H' Q):=rfl
theorem Ct {K:PySem.W.Frag}{n:Nat}{t:Ke}{v:V}{σ:St}{H:Hp}{Q:St→Hp→Prop}:Rx K n t v σ H Q=(∃a xs,v = .ref a∧jE K H a xs∧xs.length=n∧t xs σ H Q):=rfl
theorem B7 {to ti:TE}{t:KO}{v:V}{σ:St}{H:Hp}{Q:St→Hp→Prop}:Qf to ti t v σ H Q=(to σ H fun o H1=>ti σ H1 fun i H2=>t o i v H2 fun H3=>Q σ H3):=rfl
theorem Ci {te:TE}{g:TG}{D:Ends}{σ:St}{H:Hp}:MZ te g D σ H=(te σ H fun x H1=>g x σ H1 D.nx):=rfl
theorem CJ {i j:Nat}{ta:TA}{D:Ends}{σ:St}{H:Hp}:Q3 i j ta D σ H=(ta σ H fun vs H1=>∃v w,vs=[v,w]∧D.nx ((σ.set i (some v)).set j (some w)) H1):=rfl
theorem Cf {i:Nat}{te:TE}{ti:RE}{D:Ends}{σ:St}{H:Hp}:Sa i te ti D σ H=(∃x,σ[i]? = some (some x)∧te σ H fun y H1=>ti x y H1 fun z H2=>D.nx (σ.set i (some z)) H2):=rfl
theorem xN {ta:TA}{σ:St}{H:Hp}{R:It→Hp→Prop}:LQ ta σ H R=(ta σ H fun vs H1=>∃j:Int,vs=[.int j] ∧ -(2^62)≤j∧j<2^62∧R (IS 0 j.toNat) H1):=rfl
theorem DM {r:R2}{ta tb:TE}{σ:St}{H:Hp}{Q:VK}:O4 r ta tb σ H Q=(ta σ H fun x H1=>tb σ H1 fun y H2=>r x y H2 Q):=rfl
theorem FU {r:V→Hp→VK→Prop}{ta:TE}{σ:St}{H:Hp}{Q:VK}:tUn r ta σ H Q=(ta σ H fun x H1=>r x H1 Q):=rfl
theorem NB {C:Int→Int→Prop}{g:Int→Int→V}{x y:V}{H:Hp}{Q:VK}:rI C g x y H Q=(∃i j,x = .int i∧y = .int j∧C i j∧Q (g i j) H):=rfl
theorem DJ {g:Int→Int→V}{x y:V}{H:Hp}{Q:VK}:JL g x y H Q=(∃i j,x = .int i∧y = .int j∧Q (g i j) H):=rfl
theorem NI {g:Int→V}{x:V}{H:Hp}{Q:VK}:rU g x H Q=(∃i,x = .int i∧Q (g i) H):=rfl
theorem FF {x y:V}{H:Hp}{Q:VK}:rEq  x y H Q=(B0 x y=true∧Q (.bl (decide (x=y))) H):=rfl
theorem GQ {x y:V}{H:Hp}{Q:VK}:rNe  x y H Q=(B0 x y=true∧Q (.bl (!decide (x=y))) H):=rfl
theorem sS {t:TE}{σ:St}{H:Hp}{Q:Bool→Hp→Prop}:Gk t σ H Q=(t σ H fun x H'=>∃k,x = .bl k∧Q k H'):=rfl
theorem uS {r r':R2}{ta tb tc:TE}{σ:St}{H:Hp}{Q:VK}:AR r r' ta tb tc σ H Q=(ta σ H fun x H1=>tb σ H1 fun y H2=>r x y H2 fun z H3=>∃k,z = .bl k ∧   (if k=true then tc σ H3 fun w' H4=>r' y w' H4 Q else Q (.bl false) H3)):=rfl
theorem yN {σ:St}{H:Hp}{Q:List V→Hp→Prop}:Nz  σ H Q=(Q [] H):=rfl
theorem sR {ta:TE}{tr:TA}{σ:St}{H:Hp}{Q:List V→Hp→Prop}:HG ta tr σ H Q=(ta σ H fun x H1=>tr σ H1 fun xs H2=>Q (x::xs) H2):=rfl
theorem yi {sp:Sp}{Fq:List V}{E:XK}{t:TA}{σ:St}{H:Hp}{Q:VK}:L7 sp Fq E t σ H Q=(t σ H fun vs H1=>sp (vs++Fq) H1 Q E):=rfl
theorem CZ {r:List V→Hp→VK→Prop}{t:TA}{σ:St}{H:Hp}{Q:VK}:tCB r t σ H Q=(t σ H fun vs H1=>r vs H1 Q):=rfl
theorem rC {σ:St}{H:Hp}{Q:Option Int→Hp→Prop}:DD  σ H Q=(Q none H):=rfl
theorem x6 {t:TE}{σ:St}{H:Hp}{Q:Option Int→Hp→Prop}:LL t σ H Q=(t σ H fun x H1=>∃i,x = .int i∧Q (some i) H1):=rfl
theorem GY {r:V→Option Int→Option Int→Hp→VK→Prop}{te:TE}{tl th:TO}{σ:St}{H:Hp}{Q:VK}:tSl r te tl th σ H Q=(te σ H fun x H1=>tl σ H1 fun l H2=>th σ H2 fun u H3=>r x l u H3 Q):=rfl
theorem Ca {K:PySem.W.Frag}{x y:V}{H:Hp}{Q:VK}:Ql K x y H Q=(∃p xs i v,x = .ref p∧y = .int i∧fQ K H p xs∧kX xs i=some v∧Q v H):=rfl
theorem Bm {x y:V}{H:Hp}{Q:VK}:Ru  x y H Q=(∃z i c,x = .str z∧y = .int i∧z.length≤sizeLine∧kX z.cps.toList i=some c∧Q (.str ⟨#[c]⟩) H):=rfl
theorem FW {K:PySem.W.Frag}{T:String}{r:V→List V→Hp→VK→Prop}{to:TE}{t:TA}{σ:St}{H:Hp}{Q:VK}:Ub K T r to t σ H Q=(to σ H fun x H1=>O0 K T x H1∧t σ H1 fun xs H2=>r x xs H2 Q):=rfl
theorem Bh {ty td:TE}{σ:St}{H:Hp}{Q:VK}:Pt ty td σ H Q=(ty σ H fun y H1=>td σ H1 fun x H2=>∃a o,x = .ref a∧vI H2 a y o∧Q (.bl o.isSome) H2):=rfl
theorem xB {td ty tv:TE}{D:Ends}{σ:St}{H:Hp}:Mp td ty tv D σ H=(tv σ H fun v H1=>td σ H1 fun x H2=>ty σ H2 fun y H3=>∃a H4,x = .ref a∧Aj H3 a y v H4∧D.nx σ H4):=rfl
theorem A8 {σ:St}{H:Hp}{Q:Bool→Hp→Prop}:Nn  σ H Q=(Q true H):=rfl
theorem xP {wi:TI}{caps:List Nat}{tc:TT}{te:TE}{σ:St}{H:Hp}{Q:VK}:Ag wi caps tc te σ H Q=(wi σ H fun J H1=>mH J caps tc te σ H1 Q):=rfl
theorem Bd {tl:TE}{σ:St}{H:Hp}{R:It→Hp→Prop}:RL tl σ H R=(tl σ H fun x H1=>∃z,x = .str z∧R (TU z) H1):=rfl
theorem Bk {x:V}{lo hi:Option Int}{H:Hp}{Q:VK}:P9  x lo hi H Q=(∃z,x = .str z∧z.length≤sizeLine∧Q (.str (Txt.slice z lo hi)) H):=rfl
theorem yv {K:PySem.W.Frag}{x:V}{xs:List V}{H:Hp}{Q:VK}:rJoin K x xs H Q=(∃sep a ys,x = .str sep∧xs=[.ref a]∧(fQ K H a (ys.map V.str)∨jE K H a (ys.map V.str))∧(ys.map (·.length)).sum+ys.length*sep.length≤16777216∧Q (.str (Txt.join sep ys)) H):=rfl
theorem A7 {x y:V}{H:Hp}{Q:VK}:QR  x y H Q=(∃d e,Dt H d x∧Dt H e y∧d.dp≤150∧Q (.bl (D.eq d e)) H):=rfl
theorem B8 {x y:V}{H:Hp}{Q:VK}:QX  x y H Q=(∃d e,Dt H d x∧Dt H e y∧d.dp≤150∧Q (.bl (!D.eq d e)) H):=rfl
theorem BB {neg:Bool}{x y:V}{H:Hp}{Q:VK}:MJ neg x y H Q=(∃a vs ds e,y = .ref a∧(H a=some (.lst vs)∨H a=some (.tup vs))∧aR H ds vs∧Dt H e x∧D.qa ds≤150∧Q (.bl (if neg then !ds.any (fun d=>D.eq d e) else ds.any (fun d=>D.eq d e))) H):=rfl
theorem BD {xs:List V}{H:Hp}{Q:VK}:Pq  xs H Q=(∃x n t,xs=[x,.ty n]∧Lx H x t∧n∈["bool","int","str","list","tuple","dict"]∧Q (.bl (Cy t n)) H):=rfl
theorem w8 {x y:V}{H:Hp}{Q:VK}:FD  x y H Q=(∃a b xs ys,x = .ref a∧y = .ref b∧H a=some (.tup xs)∧H b=some (.tup ys)∧xs.length+ys.length≤sizeLine ∧   ∀p H',av H H'→H' p=some (.tup (xs++ys))→Q (.ref p) H'):=rfl
theorem AQ {x y:V}{H:Hp}{Q:VK}:Ro  x y H Q=(∃p xs i v,x = .ref p∧y = .int i∧itemsOf (H p)=some xs∧kX xs i=some v∧Q v H):=rfl
theorem xa {i j:Int}:(B0 (.int i) (.int j)=true)=True:=eq_true rfl
theorem xy {i j:Str}:(B0 (.str i) (.str j)=true)=True:=eq_true rfl
theorem xI {i j:Bool}:(B0 (.bl i) (.bl j)=true)=True:=eq_true rfl
end L2
namespace L2
open PySem PySem.Spec PyProof.Rows
noncomputable def aI (H:Hp) (o:HO) (Q:VK):Prop:=∀p,H p=none→Q (.ref p) (upd H p o)
theorem aI.mk {H:Hp}{o:HO}{Q:VK} (h:∀p H',av H H'→H p=none→H' p=some o→Q (.ref p) H'):aI H o Q:=fun p hp=>h p _ (cg hp o) hp bI
noncomputable def gF (H:Hp) (l:Addr) (o:HO) (R:Hp→Prop):Prop:=R (upd H l o)
theorem gF.mk {H:Hp}{l:Addr}{o:HO}{R:Hp→Prop} (h:∀H',(∀b,b≠l→H' b=H b)→H' l=some o→R H'):gF H l o R:=h _ (fun b hb=>bg hb) bI
theorem AI {t:TA}{σ:St}{H:Hp}{Q:VK}:NJ t σ H Q=(t σ H fun xs H1=>xs.length≤sizeLine∧aI H1 (.tup xs) Q):=rfl
theorem BC {t:TA}{σ:St}{H:Hp}{Q:VK}:RW t σ H Q=(t σ H fun xs H1=>xs.length≤sizeLine∧aI H1 (.lst xs) Q):=rfl
theorem qi {x:V}{vs:List V}{H:Hp}{Q:VK}:DV x vs H Q=(∃l xs y,x = .ref l∧vs=[y]∧H l=some (.lst xs)∧xs.length<sizeLine∧gF H l (.lst (xs++[y])) (Q .non)):=rfl
theorem qT {x:V}{vs:List V}{H:Hp}{Q:VK}:Dz x vs H Q=(∃l b xs zs,x = .ref l∧vs=[.ref b]∧H l=some (.lst xs)∧H b=some (.lst zs)∧xs.length+zs.length≤sizeLine∧gF H l (.lst (xs++zs)) (Q .non)):=rfl
theorem AS {x y:V}{H:Hp}{Q:VK}:RI x y H Q=(∃l b xs zs,x = .ref l∧y = .ref b∧H l=some (.lst xs)∧H b=some (.lst zs)∧xs.length+zs.length≤sizeLine∧aI H (.lst (xs++zs)) Q):=rfl
theorem AX {x y:V}{H:Hp}{Q:VK}:Qq x y H Q=(∃l k xs,x = .ref l∧y = .int k∧H l=some (.lst xs) ∧ -(2^63)≤k∧k<2^63∧xs.length*k.toNat≤sizeLine∧aI H (.lst (List.replicate k.toNat xs).flatten) Q):=rfl
theorem xO {o i v:V}{H:Hp}{Q:Hp→Prop}:LU o i v H Q=(∃p xs k j,o = .ref p∧i = .int k∧H p=some (.lst xs)∧DG xs.length k=some j∧gF H p (.lst (xs.set j v)) Q):=rfl
theorem tW {σ:St}{H:Hp}{Q:VK}:Gd σ H Q=aI H (.dK []) Q:=rfl
noncomputable def LS:V→Option Int→Option Int→Hp→VK→Prop:=fun x lo hi H Q=>∃a xs,x = .ref a∧H a=some (.lst xs)∧aI H (.lst (jj xs lo hi)) Q
theorem Iz {X:Cx}:IB X LS:=abO
theorem yK {x:V}{lo hi:Option Int}{H:Hp}{Q:VK}:LS x lo hi H Q=(∃a xs,x = .ref a∧H a=some (.lst xs)∧aI H (.lst (jj xs lo hi)) Q):=rfl
noncomputable def L3:List V→Hp→VK→Prop:=fun xs H Q=>∃p ys,xs=[.ref p]∧itemsOf (H p)=some ys∧Q (.int ys.length) H
theorem kz {X:Cx}:df X (.builtin "len") L3:=aaG
theorem sF {xs:List V}{H:Hp}{Q:VK}:L3 xs H Q=(∃p ys,xs=[.ref p]∧itemsOf (H p)=some ys∧Q (.int ys.length) H):=rfl
theorem aC {H:Hp}{a:Addr}{xs:List V} (h:H a=some (.lst xs)):itemsOf (H a)=some xs:=by rw [h];rfl
theorem ak {H:Hp}{a:Addr}{xs:List V} (h:H a=some (.tup xs)):itemsOf (H a)=some xs:=by rw [h];rfl
theorem av.hI {H0 H H':Hp}{l:Addr} (S:av H0 H) (n:H0 l=none) (k:∀b,b≠l→H' b=H b):av H0 H':=fun b o e=>by
 rw [k b (aL e n)];exact S b o e
theorem Dt.qg {H H':Hp}{l:Addr}{xs:List V}{d:D}{v:V} (hl:H l=some (.lst xs)) (k:∀b,b≠l→H' b=H b) (n:d.nl=true) (h:Dt H d v):Dt H' d v:=
 h.cZ (fun b ys e=>by rw [k b (gB e hl (by intro z;cases z))];exact e) n
theorem aR.qg {H H':Hp}{l:Addr}{xs:List V}{d:List D}{v:List V} (hl:H l=some (.lst xs)) (k:∀b,b≠l→H' b=H b) (n:D.oO d=true) (h:aR H d v):aR H' d v:=
 h.cZ (fun b ys e=>by rw [k b (gB e hl (by intro z;cases z))];exact e) n
noncomputable abbrev Tree:=M.Tr Str
noncomputable def dT:Tree→D
 | .leaf x=>.tup [.str "leaf",.str x]
 | .knot f l r=>.tup [.str "knot",.str f,dT l,dT r]
noncomputable def vP (p:List Nat):List V:=p.map fun (i:Nat)=>.int (i:Int)
noncomputable def dP (p:List Nat):D:=.tup (p.map fun (i:Nat)=>.int (i:Int))
noncomputable def dO:Option (List Nat)→D
 | none=>.non
 | some p=>dP p
theorem yZ (t:Tree):(dT t).nl=true:=by
 induction t with
 | leaf x=>simp [dT,D.nl,D.oO]
 | knot f l r ihl ihr=>simp [dT,D.nl,D.oO,ihl,ihr]
theorem Ir (p:List Nat):D.oO (p.map fun (i:Nat)=>D.int (i:Int))=true:=by
 induction p with
 | nil=>rfl
 | cons i p ih=>simp [D.oO,D.nl,ih]
theorem FY (p:List Nat):D.cls (p.map fun (i:Nat)=>D.int (i:Int))=true:=by
 induction p with
 | nil=>rfl
 | cons i p ih=>simp [D.cls,D.cl,ih]
theorem HH (p:List Nat):D.qa (p.map fun (i:Nat)=>D.int (i:Int))=0:=by
 induction p with
 | nil=>rfl
 | cons i p ih=>simp [D.qa,D.dp,ih]
theorem zA (p:List Nat):(dP p).nl=true:=by simp only [dP,D.nl];exact Ir p
theorem Q2 (p:List Nat):(dP p).cl=true:=by simp only [dP,D.cl];exact FY p
theorem RZ (p:List Nat):(dP p).dp=1:=by simp only [dP,D.dp,HH]
theorem wH (o:Option (List Nat)):(dO o).cl=true:=by cases o<;>simp [dO,Q2,D.cl]
theorem tE (o:Option (List Nat)):(dO o).nl=true:=by cases o<;>simp [dO,zA,D.nl]
theorem vT (o:Option (List Nat)):(dO o).dp≤1:=by cases o<;>simp [dO,RZ,D.dp]
theorem Ax:∀{p q:List Nat},(p.map fun (i:Nat)=>D.int (i:Int))=(q.map fun (i:Nat)=>D.int (i:Int))→p=q
 | [],[],_=>rfl
 | [],_::_,h=>by simp at h
 | _::_,[],h=>by simp at h
 | i::p,j::q,h=>by
  simp only [List.map_cons,List.cons.injEq,D.int.injEq] at h
  rw [Ax h.2]
  have:i=j:=by omega
  rw [this]
theorem Np {p q:List Nat} (h:dP p=dP q):p=q:=by
 simp only [dP,D.tup.injEq] at h
 exact Ax h
theorem B5 {p q:Option (List Nat)} (h:dO p=dO q):p=q:=by
 cases p<;>cases q<;>simp only [dO] at h
 · rfl
 · simp [dP] at h
 · simp [dP] at h
 · rw [Np h]
theorem aR.ints {H:Hp}:∀{p:List Nat}{vs:List V},aR H (p.map fun (i:Nat)=>D.int (i:Int)) vs→vs=vP p
 | [],vs,h=>by
  simp only [List.map_nil,aR] at h
  exact h
 | i::p,vs,h=>by
  simp only [List.map_cons,aR] at h
  obtain⟨v,r,rfl,h1,h2⟩:=h
  rw [aQ.mp h1,aR.ints h2];rfl
theorem aR.ofInts {H:Hp}:∀{p:List Nat},aR H (p.map fun (i:Nat)=>D.int (i:Int)) (vP p)
 | []=>by simp only [List.map_nil,aR,vP]
 | i::p=>aR.cons (aQ.mpr rfl) aR.ofInts
theorem uG {H:Hp}{p:List Nat}{v:V} (h:Dt H (dP p) v):∃a,v = .ref a∧H a=some (.tup (vP p)):=by
 obtain⟨a,vs,rfl,e,h⟩:=fG.mp h
 rw [aR.ints h] at e
 exact⟨a,rfl,e⟩
theorem gz {H:Hp}{p:List Nat}{a:Addr} (e:H a=some (.tup (vP p))):Dt H (dP p) (.ref a):=Dt.tup e aR.ofInts
theorem oS {H:Hp}{x:Str}{v:V} (h:Dt H (dT (.leaf x)) v):∃a,v = .ref a∧H a=some (.tup [.str "leaf",.str x]):=by
 simp only [dT] at h
 obtain⟨a,vs,rfl,e,h⟩:=fG.mp h
 obtain⟨v1,r,rfl,h1,h⟩:=aW.mp h
 obtain⟨v2,r,rfl,h2,h⟩:=aW.mp h
 rw [eZ.mp h,bc.mp h1,bc.mp h2] at e
 exact⟨a,rfl,e⟩
theorem fP {H:Hp}{f:Str}{l r:Tree}{v:V} (h:Dt H (dT (.knot f l r)) v):∃a vl vr,v = .ref a∧H a=some (.tup [.str "knot",.str f,vl,vr])∧Dt H (dT l) vl∧Dt H (dT r) vr:=by
 simp only [dT] at h
 obtain⟨a,vs,rfl,e,h⟩:=fG.mp h
 obtain⟨v1,r1,rfl,h1,h⟩:=aW.mp h
 obtain⟨v2,r2,rfl,h2,h⟩:=aW.mp h
 obtain⟨v3,r3,rfl,h3,h⟩:=aW.mp h
 obtain⟨v4,r4,rfl,h4,h⟩:=aW.mp h
 rw [eZ.mp h,bc.mp h1,bc.mp h2] at e
 exact⟨a,v3,v4,rfl,e,h3,h4⟩
theorem DQ {H:Hp}{x:Str}{a:Addr} (e:H a=some (.tup [.str "leaf",.str x])):Dt H (dT (.leaf x)) (.ref a):=Dt.tup e (.cons (bc.mpr rfl) (.cons (bc.mpr rfl) .nil))
theorem C6 {H:Hp}{f:Str}{l r:Tree}{a:Addr}{vl vr:V} (e:H a=some (.tup [.str "knot",.str f,vl,vr])) (hl:Dt H (dT l) vl) (hr:Dt H (dT r) vr):Dt H (dT (.knot f l r)) (.ref a):=
 Dt.tup e (.cons (bc.mpr rfl) (.cons (bc.mpr rfl) (.cons hl (.cons hr .nil))))
theorem xn {H:Hp}{t:Tree}{v:V} (h:Dt H (dT t) v):∃a r,v = .ref a∧H a=some (.tup (.str (if t.eR then "leaf" else "knot") :: .str t.name::r)):=by
 cases t with
 | leaf x=>obtain⟨a,rfl,e⟩:=oS h;exact⟨a,_,rfl,e⟩
 | knot f l r=>obtain⟨a,vl,vr,rfl,e,_⟩:=fP h;exact⟨a,_,rfl,e⟩
theorem aR.dD {α:Type}{H:Hp}{f:α→D}:∀{l:List α}{vs:List V}{i:Nat}{x:α},aR H (l.map f) vs→l[i]? = some x→∃v,vs[i]? = some v∧Dt H (f x) v:=fun h e=>h.get (by rw [List.getElem?_map,e];rfl)
noncomputable def kr (c:Int) (many k:Nat):Str:=⟨(M.nm c many k).toArray⟩
theorem Gq (a:List Nat) (b:List Nat):(Str.mk a.toArray)++(Str.mk b.toArray)=Str.mk (a++b).toArray:=by
 show Str.append _ _=_
 simp [Str.append]
theorem uq:∀l:List Nat,Str.join (⟨#[]⟩:Str) (l.map fun c=>(⟨#[c]⟩:Str))=⟨l.toArray⟩
 | []=>rfl
 | [c]=>rfl
 | c::d::l=>by
  have ih:=uq (d::l)
  show (⟨#[c]⟩:Str)++(⟨#[]⟩:Str)++Str.join ⟨#[]⟩ ((d::l).map fun c=>(⟨#[c]⟩:Str))=_
  rw [ih]
  have e:(⟨#[c]⟩:Str)++(⟨#[]⟩:Str)=Str.mk [c].toArray:=by show Str.append _ _=_;simp [Str.append]
  rw [e,Gq];rfl
theorem zB (l:List Nat):Txt.join (Str.ofString "") (l.map fun c=>(⟨#[c]⟩:Str))=⟨l.toArray⟩:=by
 show Builtin.Str.glued _ _=_
 rw [StrLaws.glued_eq_join]
 have:Str.ofString ""=(⟨#[]⟩:Str):=by decide +kernel
 rw [this];exact uq l
noncomputable def isName (l:List Nat):Bool:=decide (1≤l.length)&&(decide (l.length≤8)&&l.all fun c=>decide (97≤c)&&decide (c≤122))
theorem zZ {l:List Nat} (h:M.good l):isName l=true:=by
 obtain⟨h1,h2,h3⟩:=h
 unfold isName
 simp only [Bool.and_eq_true,decide_eq_true_eq,List.all_eq_true]
 exact⟨h1,h2,h3⟩
noncomputable def bw (x:Str):Bool:=isName x.cps.toList
structure lI (many:Nat) (t:Tree) (c c':Int):Prop where
 perm:t.lv.Perm ((List.range many).map (kr c many))
 kn:∀f∈t.kn,f∈(List.range 3).map (kr c' 3)
 dp:t.dp≤24
theorem Kx {c:Int}{many i j:Nat} (hm:many≤32) (hi:i<many) (hj:j<many) (h:kr c many i=kr c many j):i=j:=by
 unfold kr at h
 simp only [Str.mk.injEq,Array.mk.injEq] at h
 exact M.N3 hm hi hj (by simpa using h)
theorem Bz {c:Int}{many k:Nat} (h:k<many):bw (kr c many k)=true:=zZ (M.JW h)
namespace lI
variable {many : Nat} {t : Tree} {c c' : Int}
theorem len (h:lI many t c c'):t.lv.length=many:=by rw [h.perm.length_eq];simp
theorem nodup (h:lI many t c c') (hm:many≤32):t.lv.Nodup:=h.perm.nodup_iff.mpr (M.sr fun _ _ hi hj e=>Kx hm hi hj e)
theorem Y8 (h:lI many t c c'):∀x∈t.lv,bw x=true:=fun x hx=>by
 obtain⟨k,hk,rfl⟩:=List.mem_map.mp (h.perm.mem_iff.mp hx)
 exact Bz (List.mem_range.mp hk)
theorem Zl (h:lI many t c c'):∀x∈t.kn,bw x=true:=fun x hx=>by
 obtain⟨k,hk,rfl⟩:=List.mem_map.mp (h.kn x hx)
 exact Bz (List.mem_range.mp hk)
end lI
theorem gX {α:Type}{xs:List α}{i:Int}{v:α} (h0:0≤i) (h:xs[i.toNat]? = some v):kX xs i=some v:=by
 have e:i=((i.toNat:Nat):Int):=by omega
 rw [e];exact h7 h
theorem kg {n:Nat}{i:Int} (h0:0≤i) (h:i<n):DG n i=some i.toNat:=by unfold DG;rw [if_pos h0,if_pos h]
theorem C7 {xs:List V}{p:Nat} (h:p≤xs.length):jj xs none (some (p:Int))=xs.take p:=by
 have e1:HT.cW xs.length 0 none=0:=rfl
 have e2:HT.cW xs.length xs.length (some (p:Int))=p:=by rw [HT.C0];omega
 unfold jj
 rw [e1,e2];simp
theorem wM {xs:List V}{p:Nat} (h:p≤xs.length):jj xs (some (p:Int)) none=xs.drop p:=by
 have e1:HT.cW xs.length xs.length none=xs.length:=rfl
 have e2:HT.cW xs.length 0 (some (p:Int))=p:=by rw [HT.C0];omega
 unfold jj
 rw [e1,e2,List.take_of_length_le (by simp)]
noncomputable def LM:List V→Hp→VK→Prop:=fun xs H Q=>∃k,xs=[.bl k]∧Q (.int (if k then 1 else 0)) H
theorem nj {X:Cx}:df X (.type "int") LM:=fun pins s σ H xs us Q I r h=>EK pins s σ H xs us Q I r (.inr h)
theorem yO {xs:List V}{H:Hp}{Q:VK}:LM xs H Q=(∃k,xs=[.bl k]∧Q (.int (if k then 1 else 0)) H):=rfl
noncomputable abbrev LETT:Str:=Str.ofString "abcdefghijklmnopqrstuvwxyz"
theorem wq:LETT.cps.toList=(List.range 26).map (97 + ·):=by decide +kernel
theorem KA {i:Int} (h0:0≤i) (h:i<26):kX LETT.cps.toList i=some (97+i.toNat):=by
 refine gX h0 ?_
 rw [wq,List.getElem?_map,List.getElem?_range (by omega)];rfl
theorem pK:LETT.length≤sizeLine:=by
 have:LETT.length=26:=by
  have e:=congrArg List.length wq
  simpa [Str.length] using e
 rw [this];decide
theorem yu (c:Int):kX LETT.cps.toList (c % 26)=some (M.dG c):=KA (by omega) (by omega)
theorem DB {α:Type} (n:Nat) (x:α):(List.replicate n [x]).flatten=List.replicate n x:=by
 induction n with
 | zero=>rfl
 | succ n ih=>simp [List.replicate_succ,ih]
theorem ty_str {K:PySem.W.Frag}{z:Str}{H:Hp}:(O0 K "str" (.str z) H)=True:=eq_true rfl
theorem lJ {K:PySem.W.Frag}{H:Hp}{p:Addr}{xs:List V} (e:H p=some (.lst xs)):O0 K "list" (.ref p) H:=.inl ⟨rfl,_,fQ.of e⟩
theorem cb {n:Nat} (h:n≤100000):n<sizeLine:=Nat.lt_of_le_of_lt h (by decide)
theorem aN {n:Nat} (h:n≤100000):n≤sizeLine:=Nat.le_of_lt (cb h)
theorem y9:∀l:List Nat,((l.map fun c=>(⟨#[c]⟩:Str)).map (fun x=>x.length)).sum=l.length
 | []=>rfl
 | c::l=>by simp only [List.map_cons,List.sum_cons,y9 l,List.length_cons];show 1+l.length=_;omega
theorem IE {K:PySem.W.Frag}{H:Hp}{p2 p5:Addr}{xs:List V}{l:List Nat}{R:Hp→Prop} (e2:H p2=some (.lst xs)) (e5:H p5=some (.lst (l.map fun x=>V.str ⟨#[x]⟩))) (hx:xs.length≤1000) (hl:l.length≤1000)
 (q:∀H',(∀b,b≠p2→H' b=H b)→H' p2=some (.lst (xs++[.str ⟨l.toArray⟩]))→R H') :
 O0 K "list" (.ref p2) H∧∃x,(fQ K H p5 (x.map V.str)∨jE K H p5 (x.map V.str))∧(x.map (fun x=>x.length)).sum+x.length*(Str.ofString "").length≤16777216∧
  ∃Gz,H p2=some (.lst Gz)∧Gz.length<sizeLine∧gF H p2 (.lst (Gz++[.str (Txt.join (Str.ofString "") x)])) R:=by
 refine⟨lJ e2,l.map fun c=>(⟨#[c]⟩:Str),.inl (fQ.of (by rw [e5,List.map_map];rfl)),?_,xs,e2,cb (by omega),gF.mk fun H' k e=>q H' k ?_⟩
 · rw [y9,List.length_map]
   have:(Str.ofString "").length=0:=by decide +kernel
   rw [this];omega
 · rw [e,zB]
noncomputable def WalkL (K:PySem.W.Frag) (x:V) (H:Hp) (R:It→Hp→Prop):Prop:=∃a,x = .ref a∧(∃xs,H a=some (.lst xs))∧R (OF K a) H
noncomputable def nW (K:PySem.W.Frag) (x:V) (H:Hp) (R:It→Hp→Prop):Prop:=∃a,x = .ref a∧(∃xs,H a=some (.tup xs))∧R (OU K a) H
noncomputable def iL (K:PySem.W.Frag) (tl:TE):TI:=fun σ H R=>tl σ H fun x H1=>WalkL K x H1 R
noncomputable def iT (K:PySem.W.Frag) (tl:TE):TI:=fun σ H R=>tl σ H fun x H1=>nW K x H1 R
theorem MT {K:PySem.W.Frag}{tl:TE}{σ:St}{H:Hp}{R:It→Hp→Prop}:iL K tl σ H R=tl σ H fun x H1=>WalkL K x H1 R:=rfl
theorem Oi {K:PySem.W.Frag}{tl:TE}{σ:St}{H:Hp}{R:It→Hp→Prop}:iT K tl σ H R=tl σ H fun x H1=>nW K x H1 R:=rfl
theorem wb {X:Cx}{tg l:Expr}{tl:TE} (hl:PE X l tl):PI X tg l (iL X.K tl):=by
 intro pins s σ H R I h
 refine ck (hl pins s σ H _ I h) fun v s1 ⟨x,H1,I1,r1,q1⟩=>?_
 obtain⟨a,rfl,⟨xs,ha⟩,q⟩:=q1
 cases r1
 have fp:∀b∈[s1.heap.objs.size],eX X pins H1 b:=fun b hb=>by
  have e:b=s1.heap.objs.size:=by simpa using hb
  rw [e]
  exact I1.sv (Nat.le_refl _) (I1.aX.fresh (Nat.le_refl _))
 obtain⟨aG,rv,p,hz⟩:=I1.list (fQ.of ha)
 exact wpAny_pyIter_list p.isList ⟨_,_,_,_,H1,rfl,I1.kept (t':=s1.toks) fun b o e=>Heap.get?_push_of_some _ e,Ez a _,⟨_,Heap.get?_push_size _ rfl,rfl,rfl⟩,fp,q⟩
theorem TH {X:Cx}{tg l:Expr}{tl:TE} (hl:PE X l tl):PI X tg l (iT X.K tl):=by
 intro pins s σ H R I h
 refine ck (hl pins s σ H _ I h) fun v s1 ⟨x,H1,I1,r1,q1⟩=>?_
 obtain⟨a,rfl,⟨xs,ha⟩,q⟩:=q1
 cases r1
 have fp:∀b∈[s1.heap.objs.size],eX X pins H1 b:=fun b hb=>by
  have e:b=s1.heap.objs.size:=by simpa using hb
  rw [e]
  exact I1.sv (Nat.le_refl _) (I1.aX.fresh (Nat.le_refl _))
 obtain⟨aG,rv,p,hz⟩:=I1.tuple (jE.of ha)
 exact wpAny_pyIter_tuple (show s1.heap.IsTuple a aG.toArray from p) ⟨_,_,_,_,H1,rfl,I1.kept (t':=s1.toks) fun b o e=>Heap.get?_push_of_some _ e,BL a _,⟨_,Heap.get?_push_size _ rfl,rfl,rfl⟩,fp,q⟩
theorem WalkL.Df {K:PySem.W.Frag}{a:Addr}{xs:List V}{g:TG}{tb:TS}{D:Ends}{σ:St}{H:Hp} (e:H a=some (.lst xs)) (Pv:Nat→St→Hp→Prop) (h0:Pv 0 σ H) (hl:∀i σ H,i≤xs.length→Pv i σ H→H a=some (.lst xs))
 (hs:∀i x σ H,xs[i]? = some x→Pv i σ H→g x σ H fun σ2 H2=>tb {D with nx:=Pv (i+1),ct:=Pv (i+1),bk:=D.nx} σ2 H2) (hd:∀σ H,Pv xs.length σ H→D.nx σ H):WalkL K (.ref a) H fun J H1=>AL J g tb D σ H1:=
 ⟨a,rfl,⟨xs,e⟩,Hv Pv h0 (fun i σ H h p=>fQ.of (hl i σ H h p)) hs hd⟩
theorem nW.Df {K:PySem.W.Frag}{a:Addr}{xs:List V}{g:TG}{tb:TS}{D:Ends}{σ:St}{H:Hp} (e:H a=some (.tup xs)) (Pv:Nat→St→Hp→Prop) (h0:Pv 0 σ H) (hl:∀i σ H,i≤xs.length→Pv i σ H→H a=some (.tup xs))
 (hs:∀i x σ H,xs[i]? = some x→Pv i σ H→g x σ H fun σ2 H2=>tb {D with nx:=Pv (i+1),ct:=Pv (i+1),bk:=D.nx} σ2 H2) (hd:∀σ H,Pv xs.length σ H→D.nx σ H):nW K (.ref a) H fun J H1=>AL J g tb D σ H1:=
 ⟨a,rfl,⟨xs,e⟩,Kb Pv h0 (fun i σ H h p=>jE.of (hl i σ H h p)) hs hd⟩
theorem WalkL.comp {K:PySem.W.Frag}{a:Addr}{xs:List V}{caps:List Nat}{tc:TT}{te:TE}{σ:St}{H:Hp}{Q:VK} (e:H a=some (.lst xs)) (Pv:Nat→List V→Hp→Prop) (h0:Pv 0 [] H) (hx:xs.length≤100000)
 (hy:∀i ys H',Pv i ys H'→ys.length≤i)
 (hs:∀i x ys H',xs[i]? = some x→av H H'→Pv i ys H'→tc (bT caps σ (some x)) H' fun b H2=>if b=true then te (bT caps σ (some x)) H2 fun y H3=>av H H3∧Pv (i+1) (ys++[y]) H3 else av H H2∧Pv (i+1) ys H2)
 (hd:∀p ys H1 H2,av H H1→av H1 H2→Pv xs.length ys H1→H1 p=none→H2 p=some (.lst ys)→Q (.ref p) H2):WalkL K (.ref a) H fun J H1=>mH J caps tc te σ H1 Q:=
 ⟨a,rfl,⟨xs,e⟩,ET (fun i ys H'=>av H H'∧Pv i ys H') ⟨av.refl H,h0⟩ (cb hx) (fun i ys H' p=>hy i ys H' p.2) (fun i ys H' _ p=>fQ.of (p.1 _ _ e)) (fun i x ys H' ex p=>hs i x ys H' ex p.1 p.2) fun ys H' p q n=>hd q ys H' _ p.1 (cg n _) p.2 n bI⟩
theorem i6 {α:Type}{f:α→D} (h:∀a,(f a).nl=true):∀l:List α,D.oO (l.map f)=true
 | []=>rfl
 | a::l=>by simp only [List.map_cons,D.oO,h a,i6 h l,Bool.and_self]
end L2
namespace L2
open PySem PySem.Spec PyProof.Rows
theorem oW {x y:Str} (h:x.cps.toList=y.cps.toList):x=y:=by
 obtain⟨⟨a⟩⟩:=x
 obtain⟨⟨b⟩⟩:=y
 simp only at h
 rw [h]
theorem cps_append (x y:Str):(x++y).cps.toList=x.cps.toList++y.cps.toList:=by
 show (Str.append x y).cps.toList=_
 simp [Str.append]
theorem yj (l:List Nat):(Str.mk l.toArray).cps.toList=l:=by simp
theorem iZ (x:Str):x.length=x.cps.toList.length:=by simp [Str.length]
theorem rq (x:Str) {a b:Nat} (CP:a≤b) (hb:b≤x.length):(Txt.slice x (some (a:Int)) (some (b:Int))).cps.toList=(x.cps.toList.drop a).take (b - a):=by
 have:Txt.slice x (some (a:Int)) (some (b:Int))=StrLaws.sliceText x (some (a:Int)) (some (b:Int)):=rfl
 rw [this,StrLaws.sliceText_nat x CP hb]
theorem Ab (x:Str) (a:Option Int) {b:Nat} (hb:x.length≤b):Txt.slice x a (some (b:Int))=Txt.slice x a (some (x.length:Int)):=by
 have h1:¬((b:Int)<0):=by omega
 have h2:¬((x.length:Int)<0):=by omega
 have e:Builtin.Str.strSliceIndices a (some (b:Int)) 1 x.length=Builtin.Str.strSliceIndices a (some (x.length:Int)) 1 x.length:=by
  simp only [Builtin.Str.strSliceIndices,h1,h2,if_false,show (1:Int) > 0 by decide,if_true]
  have e1:min (b:Int) (x.length:Int)=(x.length:Int):=by omega
  have e2:min (x.length:Int) (x.length:Int)=(x.length:Int):=by omega
  rw [e1,e2]
 unfold Txt.slice
 rw [e]
theorem EX (x:Str) {e:Nat} (he:e≤x.length):(Txt.slice x (some (e:Int)) (some ((e:Int)+1))).cps.toList=(x.cps.toList.drop e).take 1:=by
 have e1:(e:Int)+1=((e+1:Nat):Int):=by omega
 rw [e1]
 by_cases h:e+1≤x.length
 · rw [rq x (by omega) h];congr 1;omega
 · have e2:e=x.length:=by omega
   rw [Ab x _ (by omega),rq x he (Nat.le_refl _),e2]
   have:x.cps.toList.drop x.length=[]:=by rw [iZ];simp
   rw [this];simp
theorem Gr (x:Str) {e c:Nat} (he:e≤x.length):decide (V.str (Txt.slice x (some (e:Int)) (some ((e:Int)+1)))=V.str ⟨#[c]⟩)=decide (x.cps.toList[e]? = some c):=by
 rw [Bool.eq_iff_iff]
 simp only [decide_eq_true_eq,V.str.injEq]
 have s:=EX x he
 have hd:(x.cps.toList.drop e).take 1=[c]↔x.cps.toList[e]? = some c:=by
  cases h:x.cps.toList[e]? with
  | none=>
   have:x.cps.toList.drop e=[]:=List.drop_eq_nil_of_le (List.getElem?_eq_none_iff.mp h)
   rw [this];simp
  | some d=>
   obtain⟨hi,e2⟩:=List.getElem?_eq_some_iff.mp h
   rw [List.drop_eq_getElem_cons hi,e2];simp
 rw [←hd,←s]
 constructor
 · intro h;rw [h]
 · intro h;exact oW h
noncomputable def isSign (c:Nat):Bool:=c==40||c==32||c==41
noncomputable def nameEnd (l:List Nat) (s:Nat):Nat:=s+((l.drop s).takeWhile fun c=>!isSign c).length
theorem Bj {l:List Nat}{s:Nat} (h:s≤l.length):nameEnd l s≤l.length:=by
 unfold nameEnd
 have:=(List.takeWhile_prefix (fun c=>!isSign c) (l:=l.drop s)).length_le
 simp at this;omega
theorem Co (l:List Nat) (s:Nat):s≤nameEnd l s:=by unfold nameEnd;omega
noncomputable def tf (l:List Nat):Nat→Nat→Option (Tree×Nat)
 | 0,_=>none
 | n+1,s=>
  if l[nameEnd l s]? = some 40 then
   match tf l n (nameEnd l s+1) with
   | none=>none
   | some (a,m)=>if l[m]? = some 32 then (match tf l n (m+1) with
    | none=>none
    | some (b,z)=>if l[z]? = some 41 then some (.knot ⟨((l.drop s).take (nameEnd l s - s)).toArray⟩ a b,z+1) else none) else none
  else some (.leaf ⟨((l.drop s).take (nameEnd l s - s)).toArray⟩,nameEnd l s)
noncomputable def fD:Tree→List Nat
 | .leaf x=>x.cps.toList
 | .knot f l r=>f.cps.toList++(40::(fD l++(32::(fD r++[41]))))
theorem uy {pre nm post:List Nat} (h:∀c∈nm,isSign c=false) (hp:post=[]∨∃c r,post=c::r∧isSign c=true):nameEnd (pre++(nm++post)) pre.length=pre.length+nm.length:=by
 unfold nameEnd
 rw [List.drop_left]
 congr 1
 have e:(nm++post).takeWhile (fun c=>!isSign c)=nm:=by
  rw [List.takeWhile_append_of_pos (by intro c hc;simp [h c hc])]
  rcases hp with rfl|⟨c,r,rfl,hc⟩
  · simp
  · simp [List.takeWhile_cons,hc]
 rw [e]
theorem JM:∀(t:Tree) (n:Nat) (pre post:List Nat),t.dp≤n→(∀x∈t.lv,∀c∈x.cps.toList,isSign c=false)→(∀x∈t.kn,∀c∈x.cps.toList,isSign c=false)→
 (post=[]∨∃c r,post=c::r∧(c=32∨c=41))→tf (pre++(fD t++post)) n pre.length=some (t,pre.length+(fD t).length):=by
 intro t
 have nm:∀(pre x post:List Nat),((pre++(x++post)).drop pre.length).take (pre.length+x.length - pre.length)=x:=fun pre x post=>by
  rw [List.drop_left,show pre.length+x.length - pre.length=x.length by omega,List.take_left]
 have st:∀(x:Str),(⟨x.cps.toList.toArray⟩:Str)=x:=fun x=>oW (by simp)
 induction t with
 | leaf x=>
  intro n pre post hd hl hk hp
  obtain⟨n,rfl⟩:∃m,n=m+1:=⟨n - 1,by simp [M.Tr.dp] at hd;omega⟩
  have e:nameEnd (pre++(x.cps.toList++post)) pre.length=pre.length+x.cps.toList.length:=by
   refine uy (hl x (by simp [M.Tr.lv])) ?_
   rcases hp with h|⟨c,r,h,hc⟩
   · exact .inl h
   · exact .inr ⟨c,r,h,by rcases hc with rfl|rfl<;>rfl⟩
  have g:(pre++(x.cps.toList++post))[pre.length+x.cps.toList.length]? = post[0]?:=by
   rw [List.getElem?_append_right (by omega),List.getElem?_append_right (by omega)];congr 1;omega
  have ne:¬(pre++(x.cps.toList++post))[pre.length+x.cps.toList.length]? = some 40:=by
   rw [g]
   rcases hp with rfl|⟨c,r,rfl,hc⟩
   · simp
   · rcases hc with rfl|rfl<;>simp
  show tf (pre++(x.cps.toList++post)) (n+1) pre.length=some (.leaf x,pre.length+x.cps.toList.length)
  rw [tf,e,if_neg ne,nm,st]
 | knot f l r ihl ihr=>
  intro n pre post hd hl hk hp
  obtain⟨n,rfl⟩:∃m,n=m+1:=⟨n - 1,by simp [M.Tr.dp] at hd;omega⟩
  simp only [M.Tr.dp] at hd
  simp only [M.Tr.lv,List.mem_append] at hl
  simp only [M.Tr.kn,List.mem_cons,List.mem_append] at hk
  have c1:pre++(fD (.knot f l r)++post)=pre++(f.cps.toList++(40::(fD l++(32::(fD r++(41::post)))))):=by simp [fD]
  have c2:pre++(fD (.knot f l r)++post)=(pre++f.cps.toList++[40])++(fD l++(32::(fD r++(41::post)))):=by simp [fD]
  have c3:pre++(fD (.knot f l r)++post)=(pre++f.cps.toList++[40]++fD l++[32])++(fD r++(41::post)):=by simp [fD]
  have e:nameEnd (pre++(fD (.knot f l r)++post)) pre.length=pre.length+f.cps.toList.length:=by
   rw [c1]
   exact uy (hk f (.inl rfl)) (.inr ⟨40,_,rfl,rfl⟩)
  have g1:(pre++(fD (.knot f l r)++post))[pre.length+f.cps.toList.length]? = some 40:=by
   rw [c1,List.getElem?_append_right (by omega),List.getElem?_append_right (by omega)]
   simp
  have t1:=ihl n (pre++f.cps.toList++[40]) (32::(fD r++(41::post))) (by omega) (fun x h=>hl x (.inl h)) (fun x h=>hk x (.inr (.inl h))) (.inr ⟨32,_,rfl,.inl rfl⟩)
  have t2:=ihr n (pre++f.cps.toList++[40]++fD l++[32]) (41::post) (by omega) (fun x h=>hl x (.inr h)) (fun x h=>hk x (.inr (.inr h))) (.inr ⟨41,_,rfl,.inr rfl⟩)
  rw [←c2] at t1
  rw [←c3] at t2
  have l1:(pre++f.cps.toList++[40]).length=pre.length+f.cps.toList.length+1:=by simp;omega
  have l2:(pre++f.cps.toList++[40]++fD l++[32]).length=pre.length+f.cps.toList.length+1+(fD l).length+1:=by simp;omega
  rw [l1] at t1
  rw [l2] at t2
  have g2:(pre++(fD (.knot f l r)++post))[pre.length+f.cps.toList.length+1+(fD l).length]? = some 32:=by
   rw [c2,List.getElem?_append_right (by simp;omega),List.getElem?_append_right (by simp;omega)]
   simp
   rw [show pre.length+f.cps.size+1+(fD l).length - (pre.length+(f.cps.size+1)) - (fD l).length=0 by omega]
   rfl
  have g3:(pre++(fD (.knot f l r)++post))[pre.length+f.cps.toList.length+1+(fD l).length+1+(fD r).length]? = some 41:=by
   rw [c3,List.getElem?_append_right (by simp;omega),List.getElem?_append_right (by simp;omega)]
   simp
   rw [show pre.length+f.cps.size+1+(fD l).length+1+(fD r).length - (pre.length+(f.cps.size+((fD l).length+1+1))) - (fD r).length=0 by omega]
   rfl
  have nmk:((pre++(fD (.knot f l r)++post)).drop pre.length).take (pre.length+f.cps.toList.length - pre.length)=f.cps.toList:=by rw [c1];exact nm _ _ _
  have ln:(fD (.knot f l r)).length=f.cps.toList.length+1+(fD l).length+1+(fD r).length+1:=by simp [fD];omega
  rw [tf,e,if_pos g1,t1]
  dsimp only
  rw [if_pos g2,t2]
  dsimp only
  rw [if_pos g3,nmk,st,ln]
  congr 2
  omega
theorem JR:∀t:Tree,(∀x∈t.lv,x.cps.toList.length≤8)→(∀x∈t.kn,x.cps.toList.length≤8)→(fD t).length+11≤19*t.lv.length:=by
 intro t
 induction t with
 | leaf x=>intro hl _;have:=hl x (by simp [M.Tr.lv]);simp only [fD,M.Tr.lv,List.length_singleton];omega
 | knot f l r ihl ihr=>
  intro hl hk
  simp only [M.Tr.lv,List.mem_append] at hl
  simp only [M.Tr.kn,List.mem_cons,List.mem_append] at hk
  have h1:=ihl (fun x h=>hl x (.inl h)) (fun x h=>hk x (.inr (.inl h)))
  have h2:=ihr (fun x h=>hl x (.inr h)) (fun x h=>hk x (.inr (.inr h)))
  have h3:=hk f (.inl rfl)
  simp only [fD,M.Tr.lv,List.length_append,List.length_cons,List.length_nil]
  omega
theorem iu {x:Str} (h:bw x=true):x.cps.toList.length≤8:=by
 unfold bw isName at h
 simp only [Bool.and_eq_true,decide_eq_true_eq] at h
 exact h.2.1
theorem rY {x:Str} (h:bw x=true):∀c∈x.cps.toList,isSign c=false:=fun c hc=>by
 unfold bw isName at h
 simp only [Bool.and_eq_true,List.all_eq_true,decide_eq_true_eq] at h
 have:=h.2.2 c hc
 unfold isSign
 simp only [Bool.or_eq_false_iff,beq_eq_false_iff_ne]
 omega
section
variable {X : Cx}
noncomputable def LG (te:TE):TE:=fun σ H Q=>te σ H fun v H1=>∃y,v = .str y∧y.length≤sizeLine∧Q (.str y) H1
theorem I8 {e:Expr}{te:TE}{pos:Pos} (h:PE X e te):PE X (.FormattedValue e (-1) none pos) (LG te):=by
 intro pins s σ H Q I hw
 refine wpAny_FormattedValue_plain (ck (h pins s σ H _ I hw) fun v s1 ⟨x,H1,I1,r1,q1⟩=>?_)
 obtain⟨y,rfl,hy,q⟩:=q1
 obtain⟨t,rfl⟩:=r1
 exact wpAny_formatField_str ⟨.str y,H1,I1,⟨_,rfl⟩,q⟩ ⟨.str y,H1,I1.tok _,⟨_,rfl⟩,q⟩ hy
theorem yR {te:TE}{σ:St}{H:Hp}{Q:VK}:LG te σ H Q=(te σ H fun v H1=>∃y,v = .str y∧y.length≤sizeLine∧Q (.str y) H1):=rfl
theorem Jr {body:List Stmt}{h₀:ExceptHandler}{hs:List ExceptHandler}{pos:Pos}{tb:TS} (hb:lg X.JB body tb):PS X (.Try body (h₀::hs) [] [] pos) tb:=by
 intro pins s σ H D I h
 refine wpAny_Try_except (wpAny_mono (hb pins s σ H D (I.qc _) h) (fun f s1 q=>?_) fun _ _ z=>False.elim z)
 have q:=q.iy
 cases f with
 | next=>exact wpAny_execs_nil q
 | _=>exact q
end
theorem Fx {f:Int→Int→Int}{x y:V}{H:Hp}{Q:VK}:ipI f x y H Q=(∃i j,x = .int i∧y = .int j∧Q (.int (f i j)) H):=rfl
theorem JH (c:Nat):(!(Builtin.Str.occurrences (Str.ofString "( )") ⟨#[c]⟩ 0 (Str.ofString "( )").length 1).isEmpty)=isSign c:=by
 rw [PySem.StrLaws.found_one,show (Str.ofString "( )").cps.toList=[40,32,41] by decide +kernel,Bool.eq_iff_iff]
 unfold isSign
 simp
 omega
theorem wu (x:Str) {e c:Nat} (he:e≤x.length):decide (Txt.slice x (some (e:Int)) (some ((e:Int)+1))=(⟨#[c]⟩:Str))=decide (x.cps.toList[e]? = some c):=by
 rw [←Gr x he];simp only [V.str.injEq]
theorem Yr:Str.ofString "("=(⟨#[40]⟩:Str):=by decide +kernel
theorem ab2:Str.ofString " "=(⟨#[32]⟩:Str):=by decide +kernel
theorem adI:Str.ofString ")"=(⟨#[41]⟩:Str):=by decide +kernel
theorem Ic (x:Str) {a b:Nat} (CP:a≤b) (hb:b≤x.length):Txt.slice x (some (a:Int)) (some (b:Int))=⟨((x.cps.toList.drop a).take (b - a)).toArray⟩:=oW (by rw [rq x CP hb])
end L2
namespace L2
open PySem PySem.Spec PyProof.Rows
open PySem.W (hideAll hideAll_get hideAll_none of_hideAll funFrames_hide fresh_of_stays)
theorem wt {P:Program}{w:World}{H:Hp}{h:Heap}{a:Addr}:∀{o:HO},cv P w H h a o→∃ob,h.get? a=some ob
 | .lst _,x=>by obtain⟨_,_,_,_,e⟩:=x;exact⟨_,e⟩
 | .tup _,x=>by obtain⟨_,_,_,o,e,_⟩:=x;exact⟨_,e⟩
 | .dK _,x=>by obtain⟨_,_,_,_,o,_,_,e,_⟩:=x;exact⟨_,e⟩
 | .dT _,x=>by obtain⟨_,_,_,_,o,_,_,e,_⟩:=x;exact⟨_,e⟩
 | .set _ _,x=>by obtain⟨o,_,_,_,e,_⟩:=x;exact⟨_,e⟩
 | .ins _ _ _,x=>by obtain⟨_,_,_,e,_⟩:=x;exact⟨_,e⟩
 | .own _,x=>x
 | .xd _,x=>by obtain⟨_,⟨o,_,_,e,_⟩,_⟩:=x;exact⟨_,e⟩
 | .met _ _,x=>⟨_,x⟩
 | .rng _ _,x=>by obtain⟨_,_,_,e⟩:=x;exact⟨_,e⟩
 | .frz _ _,x=>⟨_,x.1⟩
 | .tbl _,x=>⟨_,x⟩
 | .ext _,x=>x.2.1
noncomputable def CS (l:List Env) (e C T:Addr) (h:Heap):Prop:=∃a0,Heap.FlyingW (hideAll h (e::T::kO l)) l e (.ref C) a0 h
noncomputable def CXE (P:Program) (w:World):CXT:=fun outer H s E x s'=>∃(e C T:Addr) (H':Hp),x = .ref e∧CS outer e C T s'.heap∧(H' e=none∧H' T=none∧s.heap.get? e=none∧s.heap.get? T=none)∧
 s'.os=s.os∧AllBare s'.gens∧Un (kO outer) [] H H' s.heap s'.heap∧iW P w H' s'.heap∧E (.ref C) none H'
theorem Dl {l:List Env}{env:Env}{a:Addr} (h:env∈l) (e:env.frame=some a):a∈kO l:=List.mem_filterMap.mpr ⟨env,h,e⟩
theorem CS.mk {B h:Heap}{l:List Env}{e C:Addr}{a0:Value} (f:Heap.FlyingW B l e (.ref C) a0 h):∃T,B.get? T=none∧CS l e C T h∧∃oT ts,h.get? T=some oT∧oT.data = .fields ts:=by
 obtain⟨f1,f2,f3,oe,vs,T,oT,ts,a1,a2,a3,a4,a5,a6,a7,a8,a9⟩:=f
 exact⟨T,a5,⟨a0,fun b o q=>of_hideAll _ q,hideAll_none _ (by simp),funFrames_hide f3 (fun env he a ha=>by simp [Dl he ha]),oe,vs,T,oT,ts,a1,a2,a3,a4,hideAll_none _ (by simp),a6,a7,a8,a9⟩,oT,ts,a7,a8⟩
structure Left (l:List Env) (hid:List Addr) (h h':Heap):Prop where
 keep:∀b o,h.get? b=some o→b∉hid→b∉kO l→h'.get? b=some o
 slot:∀b o,h.get? b=some o→b∈kO l→∃sl,h'.get? b=some {o with slots:=sl}
section
variable {X : Cx} {pins : List (Addr × Obj)} {σ : St} {H : Hp} {s : Shared}
theorem Inv.yY (I:Inv X pins σ H s) {b:Addr} (hb:b∈kO X.stack):∃o,s.heap.get? b=some o∧∀vs,o.data ≠ .fields vs:=by
 obtain⟨_,o,ho,hn⟩:=I.stack.mem hb
 exact⟨o,ho,hn⟩
structure Lv (X:Cx) (E:XK):Prop where
 Ad:X.stack=X.env::X.outer
 fr:X.env.frame=some X.env.locals
 ex:X.ex=[]
 xe:∀x s',wpAny (model X.prog X.w) X.A (leaving X.env x) (fun _ KJ=>CXE X.prog X.w X.outer X.H₀ X.s₀ E x KJ) (fun _ _=>False) s'→X.xe x s'
theorem Eg (L:Lv X E) {H':Hp}{h1 h':Heap}{s1:Shared}{e C T0:Addr}{a0:Value} (I:Inv X pins σ H s) (un:Un (kO X.stack) [] H H' s.heap h1) (aX:iW X.prog X.w H' h1)
 (ne:H' e=none) (nT:H' T0=none) (ge:s.heap.get? e=none) (gT:s.heap.get? T0=none) (fl:Heap.FlyingW (hideAll h1 (e::T0::kO X.stack)) X.outer e (.ref C) a0 h')
 (sm:h1.UpToSlots h') (os:s1.os=s.os) (bare:AllBare s1.gens) (q:E (.ref C) none H'):CXE X.prog X.w X.outer X.H₀ X.s₀ E (.ref e) {s1 with heap:=h'}:=by
 have ex:=L.ex
 have XF:=L.Ad
 have fs:kO X.stack=X.env.locals::X.fs:=by rw [XF];show List.filterMap _ _=_;rw [List.filterMap_cons_some L.fr];rfl
 have lB:∀b o,h1.get? b=some o→b≠e→b≠T0→b∉kO X.stack→h'.get? b=some o:=fun b o q n1 n2 n3=>fl.1 b o (hideAll_get _ q (by simp [n1,n2,n3]))
 have frd:∀b∈kO X.stack,∃o,h1.get? b=some o∧∀vs,o.data ≠ .fields vs:=fun b hb=>by
  obtain⟨o,ho,hn⟩:=I.yY hb
  obtain⟨sl,e1⟩:=un.any ho (I.sM b hb) (by simp)
  exact⟨_,e1,hn⟩
 have frn:∀b∈kO X.stack,H' b=none:=fun b hb=>by
  obtain⟨o,ho,hn⟩:=I.yY hb
  exact un.free b o ho (I.sM b hb) (by simp)
 obtain⟨T,hB,F,oT,ts,hT,dT⟩:=CS.mk fl
 have old:∀b o,X.s₀.heap.get? b=some o→∃o',s.heap.get? b=some o':=fun b o q=>I.base.there b o q (by rw [ex];simp)
 have L8:∀o,h1.get? T=some o→T=e∨T=T0∨T∈kO X.stack:=fun o ho=>by
  by_cases h1e:T=e
  · exact .inl h1e
  by_cases h2e:T=T0
  · exact .inr (.inl h2e)
  by_cases h3e:T∈kO X.stack
  · exact .inr (.inr h3e)
  · rw [hideAll_get _ ho (by simp [h1e,h2e,h3e])] at hB;cases hB
 have QL:¬T∈kO X.stack:=fun hb=>by
  obtain⟨o,ho,hn⟩:=frd T hb
  obtain⟨sl,e1⟩:=sm T o ho hn
  rw [hT] at e1
  cases e1
  exact hn _ dT
 refine⟨e,C,T,H',rfl,F,⟨ne,?_,?_,?_⟩,?_,bare,?_,?_,q⟩
 · cases hh:H' T with
   | none=>rfl
   | some o=>
    obtain⟨ob,hob⟩:=wt (aX T o hh)
    rcases L8 ob hob with z|z|z
    · rw [z,ne] at hh;cases hh
    · rw [z,nT] at hh;cases hh
    · exact absurd z QL
 · cases hh:X.s₀.heap.get? e with
   | none=>rfl
   | some o=>obtain⟨o',h2⟩:=old e o hh;rw [ge] at h2;cases h2
 · cases hh:X.s₀.heap.get? T with
   | none=>rfl
   | some o=>
    obtain⟨o',h2⟩:=old T o hh
    obtain⟨o2,h3⟩:=un.there T o' h2 (by simp)
    rcases L8 o2 h3 with z|z|z
    · rw [z,ge] at h2;cases h2
    · rw [z,gT] at h2;cases h2
    · exact absurd z QL
 · exact os.trans I.os
 · have nl:∀b o,X.s₀.heap.get? b=some o→b≠X.env.locals:=fun b o q z=>by
    have h1:=Heap.lt_size q
    have h2:=I.ok.above
    exact absurd (Nat.lt_of_lt_of_le h1 h2) (by rw [z];exact Nat.lt_irrefl _)
   refine⟨fun b o q n hb _=>?_,fun b o q n hb _=>?_,fun b o q n _=>?_,fun b o q _=>?_,fun b xs q=>un.cZ b xs (I.base.cZ b xs q),fun b o u q=>un.kI b o u (I.base.kI b o u q),fun b ps q=>?_⟩
   · have k1:=I.base.keep b o q n hb (by rw [ex];simp)
     have n1:=I.base.free b o q n (by rw [ex];simp)
     have KN:b∉kO X.stack:=by rw [fs];simp [nl b o q];exact hb
     have k2:=un.keep b o k1 n1 KN (by simp)
     exact lB b o k2 (fun z=>by rw [z,ge] at k1;cases k1) (fun z=>by rw [z,gT] at k1;cases k1) KN
   · obtain⟨sl,k1⟩:=I.base.slot b o q n hb (by rw [ex];simp)
     have n1:=I.base.free b o q n (by rw [ex];simp)
     have KN:b∈kO X.stack:=by rw [fs];exact List.mem_cons_of_mem _ hb
     obtain⟨MF,k2⟩:=un.slot b _ k1 n1 KN (by simp)
     obtain⟨o',Dk,Yx⟩:=frd b KN
     rw [k2] at Dk
     cases Dk
     obtain⟨sl3,k3⟩:=sm b _ k2 Yx
     exact⟨sl3,k3⟩
   · obtain⟨o',h2⟩:=old b o q
     exact un.free b o' h2 (I.base.free b o q n (by rw [ex];simp)) (by simp)
   · obtain⟨o',h2⟩:=old b o q
     obtain⟨o2,h3⟩:=un.there b o' h2 (by simp)
     by_cases hb:b∈kO X.stack
     · obtain⟨o3,ho3,hn3⟩:=frd b hb
       obtain⟨sl,k⟩:=sm b o3 ho3 hn3
       exact⟨_,k⟩
     · exact⟨o2,lB b o2 h3 (fun z=>by rw [z,ge] at h2;cases h2) (fun z=>by rw [z,gT] at h2;cases h2) hb⟩
   · obtain⟨m1,e1⟩:=I.base.nL b ps q
     obtain⟨m2,e2⟩:=un.nL b _ e1
     exact⟨m1++m2,by rw [e2,Array.append_assoc]⟩
 · intro a o ho
   refine (aX a o ho).lB (fun b u hb q=>?_) (fun _ z=>z) fun _ _ z=>z
   have KN:H' b≠none:=by
    rcases hb with z|z
    · rw [z,ho];simp
    · rw [z];simp
   exact lB b u q (fun z=>KN (by rw [z];exact ne)) (fun z=>KN (by rw [z];exact nT)) fun z=>KN (frn b z)
theorem LC (L:Lv X E):Passes (CXE X.prog X.w) X E:=by
 intro pins σ H s x s' I h
 obtain⟨e,C,T,H',rfl,⟨a0,fl⟩,⟨n1,n2,g1,g2⟩,os,bare,un,aX,q⟩:=h
 refine L.xe _ _ ?_
 have fl':=fl
 rw [L.Ad] at fl'
 refine wpAny_leaves_onW (by rw [I.ok.frames,L.Ad]) L.fr fl' fun h' fl2 sm=>?_
 rw [←L.Ad] at fl2
 exact Eg L I un aX n1 n2 g1 g2 fl2 sm os bare q
end
end L2
namespace L2
open PySem PySem.Spec PyProof.Rows
open PySem.W (hideAll hideAll_get hideAll_none of_hideAll funFrames_hide fresh_of_stays flyingW_base)
abbrev Pg:List Value:=[.type "ValueError",.type "Exception",.type "BaseException",.type "object"]
noncomputable def uV (K:PySem.W.Frag) (C:Addr):Prop:=PySem.W.excIn K C Pg "ValueError.__new__"=true
noncomputable def Lj (K:PySem.W.Frag) (C F:Addr):Bool:=match K.lookup C with
 | some ⟨_,_,.cls cd,_⟩=>cd.mro.contains (.ref F)
 | _=>false
theorem uV.obj {K:PySem.W.Frag}{h:Heap}{C:Addr} (q:uV K C) (X:K.In h):∃bm N nm q bs hdct sn sub ab col dd k0 k1 k2 k3 k5 mN,h.get? C=some (excClassObj nm q C N bs bm hdct sn sub ab col dd k0 k1 k2 k3 k5 "ValueError.__new__")∧h.Ns N mN∧mN "__init__"=none∧OwnTail h Pg bm∧
 ∀F,Lj K C F=(Value.ref C::bm).contains (.ref F):=by
 have q:PySem.W.excIn K C Pg "ValueError.__new__"=true:=q
 unfold PySem.W.excIn at q
 split at q
 · rename_i dd cd sl lk
   split at q
   · rename_i C' bm k0 k1 k2 k3 nid k5 em es
     simp only [beq_iff_eq,Bool.and_eq_true,Bool.not_eq_true'] at q
     obtain⟨⟨⟨⟨⟨q1,q2⟩,q3⟩,q4⟩,q5⟩,q6⟩:=q
     cases q1
     cases q2
     cases cd with
     | mk nm bs mro ns qn hd sn sub ab col del=>
      simp only at em q3 q5 q6
      cases em
      cases q3
      have hs:sl = #[k0,k1,k2,k3,some (.builtin "ValueError.__new__"),k5]:=by
       cases sl with
       | mk l=>simp only at es;rw [es]
      cases hs
      exact⟨bm,ns,nm,qn,bs,hd,sn,sub,ab,col,dd,k0,k1,k2,k3,k5,_,X _ _ lk,Heap.Ns.of_isNs (PySem.W.isNs_of_in X q5),PySem.W.nsMap_none_of_in X q5 q6,PySem.W.tail_of_in X q4,fun F=>by unfold Lj;rw [lk]⟩
   · cases q
 · cases q
theorem uV.own {K:PySem.W.Frag}{h:Heap}{mg:Str→Option Value}{x:Str}{C:Addr} (q:uV K C) (X:K.In h) (e:mg x=some (.ref C)):OwnCls x C Pg "ValueError.__new__" mg h:=by
 obtain⟨bm,N,nm,qn,bs,hdct,sn,sub,ab,col,dd,k0,k1,k2,k3,k5,mN,hC,hN,Xu,TL,_⟩:=q.obj X
 exact⟨e,bm,N,nm,qn,bs,hdct,sn,sub,ab,col,dd,k0,k1,k2,k3,k5,mN,hC,hN,Xu,TL⟩
section
variable {X : Cx} {E : XK}
theorem gone {P:Program}{w:World}{H:Hp}{h:Heap}{a:Addr} (aX:iW P w H h) (e:h.get? a=none):H a=none:=by
 cases q:H a with
 | none=>rfl
 | some o=>obtain⟨ob,hb⟩:=wt (aX a o q);rw [e] at hb;cases hb
theorem Eu {h:Heap}{xs ys:List Addr} (s:∀a∈ys,a∈xs):(hideAll h xs).StaysIn (hideAll h ys):=fun b o q=>by
 have hb:b∉xs:=fun z=>by rw [hideAll_none _ z] at q;cases q
 exact hideAll_get _ (of_hideAll _ q) fun z=>hb (s b z)
noncomputable def FK (C:Addr) (E:XK) (ta:TA):TS:=fun _ σ H=>ta σ H fun vs H1=>vs.length≤sizeLine∧E (.ref C) none H1
theorem uZ {C:Addr}{E:XK}{ta:TA}{D:Ends}{σ:St}{H:Hp}:FK C E ta D σ H=(ta σ H fun vs H1=>vs.length≤sizeLine∧E (.ref C) none H1):=rfl
theorem Hk {x:Str}{C:Addr}{e0:Expr}{es:List Expr}{ta:TA}{np fE pos:Pos} (L:Lv X E) (hg:Gl X x) (hm:X.mg x=some (.ref C)) (q:uV X.K C) (hc:X.calm=true) (ha:PA X (e0::es) ta)
 (N4:(x==("__debug__":Str))=false:=by decide) (he:starEach (e0::es) X.env=(false,eval e0 X.env)::starEach es X.env:=by rfl) (nJ:(backTo fE (starEach es X.env)).any (·.1)=false:=by rfl) :
 PS X (.Raise (some (.Call (.Name x np) (e0::es) [] fE)) none pos) (FK C E ta):=by
 intro pins s σ H D I h
 have O:=q.own I.ok.mod.Qx hm
 obtain⟨bm,N,nm,qn,bs,hdct,sn,sub,ab,col,dd,k0,k1,k2,k3,k5,mN,hC,hN,Xu,TL⟩:=O.obj
 refine wpAny_Raise_call_subT (C:=C) (nm:=nm) (q:=qn) (N:=N) (bs:=bs) (bm:=bm) (hdct:=hdct) (sn:=sn) (sub:=sub) (ab:=ab) (col:=col) (dd:=dd) (k0:=k0) (k1:=k1) (k2:=k2) (k3:=k3) (k5:=k5)
  PySem.F.excBase_ValueError (mN:=mN) (TL.hasType PySem.F.excBase_ValueError.hasBase) (I.ok.hd hc) (by rw [he];show (false||(backTo fE (starEach es X.env)).any (·.1))=false;rw [nJ];rfl) Xu (pE I hg hm ⟨rfl,?_⟩ N4)
 have z:=ha fE pins s σ H _ I h
 rw [he] at z ⊢
 refine Calls.evalArgs_plain (wpAny_mono z (fun us s2 ⟨vs,H2,I2,r,hl,qE⟩=>⟨rfl,by rw [←r.length];exact hl,I2.bk _ _ hC,hN.keeps I2.bk,TL.keeps I2.bk,fun h' e hx=>?_⟩) fun _ _ y=>y)
 refine L.xe _ _ ?_
 have hin:∀env∈X.env::X.outer,∀a,env.frame=some a→a∈kO X.stack:=fun env he a ha=>by rw [L.Ad];exact Dl he ha
 have fun2:s2.heap.FunFrames (hideAll s2.heap (kO X.stack)) (X.env::X.outer):=funFrames_hide (L.Ad▸I2.stack) hin
 refine wpAny_leaves_madeW (base:=hideAll s2.heap (kO X.stack)) (h:=s2.heap) (by rw [I2.ok.frames,L.Ad]) L.fr (fun b o q=>of_hideAll _ q) fun2 hx fun h2 t fl _ _ sm=>?_
 have ne:=gone I2.aX hx.new
 exact Eg (s1:=s2) L I2 Un.refl I2.aX ne ne hx.new hx.new (flyingW_base (Eu (by intro a ha;simp [ha])) fl) ((Heap.UpToSlots.of_keeps hx.keeps).trans sm) rfl I2.bare qE
end
section
variable {P : Program} {w : World} {K : PySem.W.Frag} {mg : Str→Option Value} {base : Heap}
theorem eP.Uc {x qual:Str}{st:Stmt}{f:Addr}{fd:FuncData}{N ps:List Str}{k:Nat}{sp:Sp} (F:eP K x qual st f fd) (S:aM N ps (ai st)) (len:∀vs H Q E,sp vs H Q E→vs.length=ps.length)
 (zY:∀(bJ:Value) (A:Around) (outer:List Env) (s:Shared) (H:Hp) (vs:List V) (Q:VK) (E:XK),gy k (A.deeper (envOfC qual (ai st) s.heap.objs.size f bJ))→sp vs H Q E→
   Lv (xD (CXE P w) P w K mg base N qual (ai st) f bJ A outer s H E) E→
   ∃t,lg (xD (CXE P w) P w K mg base N qual (ai st) f bJ A outer s H E) (ax st) t∧t {nx:=fun _ H'=>Q .non H',rt:=Q} (start N vs) H):bz P w K mg base (CXE P w) (k+1) f fd ps sp:=by
 obtain⟨oc,od,kV,doc,pm,an,bJ,ct,JI,rfl,lk,EI⟩:=F.ex
 refine L0 lk EI S len fun A outer s H vs Q E hr pF=>zY bJ A outer s H vs Q E hr pF ⟨rfl,rfl,rfl,fun x s' h=>wpAny_mono h (fun _ _ z=>z) fun _ _ z=>z.elim⟩
end
end L2
namespace L2
open PySem PySem.Spec PyProof.Rows
open PySem.W (hideAll hideAll_get hideAll_none of_hideAll funFrames_hide fresh_of_stays flyingW_base)
section
variable {X : Cx} {CX : CXT} {k : Nat} {f : Addr} {fd : FuncData} {ps : List Str} {sp : Sp} {Fq : List V} {ds : List Value} {E : XK} {x : Str} {p pos : Pos} {e : Expr} {es : List Expr} {t : TA} {J : St→Prop}
end
section
variable {X : Cx} {pins pn : List (Addr × Obj)} {σ : St} {H : Hp} {s : Shared} {E : XK}
noncomputable abbrev Cx.pinned (X:Cx) (pn:List (Addr×Obj)):Cx:={X with pn:=X.pn++pn}
theorem Cx.Ok.pinned (ok:X.Ok) (pn:List (Addr×Obj)):(X.pinned pn).Ok:=
 ⟨ok.mod,ok.kind,ok.glob,ok.blt,ok.above,ok.inj,ok.has,ok.IT,ok.hd,ok.frames,ok.Ad,ok.Ac,ok.bs,ok.Bo,ok.uC,ok.qR,ok.lP,ok.Fu⟩
theorem Cx.Ok.pk (ok:(X.pinned pn).Ok):X.Ok:=
 ⟨ok.mod,ok.kind,ok.glob,ok.blt,ok.above,ok.inj,ok.has,ok.IT,ok.hd,ok.frames,ok.Ad,ok.Ac,ok.bs,ok.Bo,ok.uC,ok.qR,ok.lP,ok.Fu⟩
noncomputable abbrev Cx.HZ (X:Cx) (e:Addr):Cx:={X with A:=X.A.mark (some (.ref e)),calm:=false,xe:=fun _ _=>False}
theorem Cx.Ok.HZ (ok:X.Ok) (e:Addr):(X.HZ e).Ok:=
 ⟨ok.mod,ok.kind,ok.glob,ok.blt,ok.above,ok.inj,ok.has,ok.IT,fun z=>(Bool.false_ne_true z).elim,ok.frames,ok.Ad,ok.Ac,ok.bs,ok.Bo,ok.uC,ok.qR,ok.lP,ok.Fu⟩
theorem Inv.HZ (I:Inv X pins σ H s) (e:Addr):Inv (X.HZ e) pins σ H s:=⟨I.ok.HZ e,I.os,I.bare,I.base,I.loc,I.cell,I.free,I.ix,I.pin,I.aX,I.len⟩
end
end L2
namespace L2
open PySem PySem.Spec PyProof.Rows
open PySem.W (hideAll hideAll_get hideAll_none of_hideAll funFrames_hide fresh_of_stays flyingW_base)
section
variable {X : Cx} {pins : List (Addr × Obj)} {σ : St} {H : Hp} {s : Shared}
end
end L2
namespace L2
open PySem PySem.Spec PyProof.Rows PySem.Builtin PySem.Builtin.ObjectAttr PySem.Builtin.Getset_descriptor
structure ae1 (K:PySem.W.Frag) (C:Addr):Prop where
 at_:uV K C
 ga:PySem.W.findIn K (.ref C) "__getattribute__"=some (some (.builtin "BaseException.__getattribute__"))
 gx:PySem.W.findIn K (.ref C) "__getattr__"=some none
 cl:PySem.W.findIn K (.ref C) "__class__"=some (some (.builtin "object.__class__"))
 sp:PySem.W.specialIn K (.builtin "object.__class__") "__get__"=some (some (.builtin "getset_descriptor.__get__"))
 tk:PySem.W.takesIn K (.builtin "object.__class__")=some true
 mr:PySem.W.mroIn K C (.type "object")=some true
 cs:(PySem.W.clsIn K C).isSome=true
section
variable {prog : Program} {w : World} {A : Around} {E : Value→Shared→Prop} {s : Shared} {K : PySem.W.Frag} {e C : Addr} {ob : Obj}
end
section
variable {X : Cx}
end
end L2
namespace L2
open PySem PySem.Spec PyProof.Rows
mutual
noncomputable def D.py:D→PyData
 | .non=>.none
 | .bl b=>.bool b
 | .int i=>.int i
 | .str x=>.str x
 | .tup ds=>.tuple (D.pys ds)
 | .lst ds=>.list (D.pys ds)
noncomputable def D.pys:List D→List PyData
 | []=>[]
 | d::ds=>D.py d::D.pys ds
end
section
variable {P : Program} {w : World} {H : Hp} {h : Heap}
end
section
variable {X : Cx} {k : Nat}
noncomputable def Md (te:TE):TE:=fun σ H Q=>te σ H fun v H1=>∃i,v = .int i∧i.natAbs.log2<1920∧∀z:Str,z.length≤1921→Q (.str z) H1
theorem Ja {e:Expr}{te:TE}{pos:Pos} (h:PE X e te):PE X (.FormattedValue e (-1) none pos) (Md te):=by
 intro pins s σ H Q I hw
 refine wpAny_FormattedValue_plain (ck (h pins s σ H _ I hw) fun v s1 ⟨x,H1,I1,r1,q1⟩=>?_)
 obtain⟨i,rfl,hi,q⟩:=q1
 obtain⟨t,rfl⟩:=r1
 exact wpAny_formatField_int hi ⟨.str _,H1,I1.tok _,⟨_,rfl⟩,q _ (int_text_len_1921 hi)⟩
theorem xt {te:TE}{σ:St}{H:Hp}{Q:VK}:Md te σ H Q=(te σ H fun v H1=>∃i,v = .int i∧i.natAbs.log2<1920∧∀z:Str,z.length≤1921→Q (.str z) H1):=rfl
theorem CD {K:PySem.W.Frag}{x:V}{lo hi:Option Int}{H:Hp}{Q:VK}:PJ K x lo hi H Q=(∃a xs,x = .ref a∧jE K H a xs∧¬(HT.cW xs.length 0 lo=0∧HT.cW xs.length xs.length hi=xs.length)∧aI H (.tup (jj xs lo hi)) Q):=rfl
end
end L2
namespace L2
open PySem PySem.Spec PyProof.Rows
theorem iO:∀{is:List Int}{us:List Value},Vals (is.map V.int) us→∃xs:List (Int×Tok),us=xs.map (fun p=>Value.int p.1 p.2)∧xs.map (·.1)=is
 | [],us,r=>by cases r;exact⟨[],rfl,rfl⟩
 | i::is,us,r=>by
  cases r with
  | cons r rt=>
   obtain⟨t,rfl⟩:=r
   obtain⟨xs,rfl,e⟩:=iO rt
   exact⟨(i,t)::xs,rfl,by simp [e]⟩
theorem Fz {xs:List (Int×Tok)}{i:Nat} (h:i<xs.length):numAt xs.toArray i∈xs.map (·.1):=by
 have:numAt xs.toArray i=(xs[i]).1:=by simp [numAt,h]
 rw [this]
 exact List.mem_map.mpr ⟨xs[i],List.getElem_mem h,rfl⟩
theorem Hc {xs:List (Int×Tok)}{j:Int} (h:j∈xs.map (·.1)):∃i,i<xs.length∧numAt xs.toArray i=j:=by
 obtain⟨p,hp,rfl⟩:=List.mem_map.mp h
 obtain⟨i,hi,e⟩:=List.mem_iff_getElem.mp hp
 exact⟨i,hi,by simp [numAt,hi,e]⟩
section
variable {X : Cx}
noncomputable def Mb:List V→Hp→VK→Prop:=fun xs H Q=>∃p is,xs=[.ref p]∧itemsOf (H p)=some (is.map V.int)∧is≠[]∧∀m,m∈is→(∀j∈is,j≤m)→Q (.int m) H
noncomputable def Ml:List V→Hp→VK→Prop:=fun xs H Q=>∃p is,xs=[.ref p]∧itemsOf (H p)=some (is.map V.int)∧is≠[]∧∀m,m∈is→(∀j∈is,m≤j)→Q (.int m) H
theorem x9 {xs:List V}{H:Hp}{Q:VK}:Mb xs H Q=(∃p is,xs=[.ref p]∧itemsOf (H p)=some (is.map V.int)∧is≠[]∧∀m,m∈is→(∀j∈is,j≤m)→Q (.int m) H):=rfl
theorem xS {xs:List V}{H:Hp}{Q:VK}:Ml xs H Q=(∃p is,xs=[.ref p]∧itemsOf (H p)=some (is.map V.int)∧is≠[]∧∀m,m∈is→(∀j∈is,m≤j)→Q (.int m) H):=rfl
theorem zO {M:Program}{w:World}{A:Around}{E:Value→Shared→Prop}{s:Shared}{a:Addr}{items:Array Value}{R:Value→Shared→Prop} (hh:A.handled=none) (ht:s.heap.IsTuple a items)
 (h:∀I s2,Walks M w A I [I,a] [I] items.size (fun i v=>items[i]? = some v) (fun i h=>h.IsTupleIter I a i∧h.IsTuple a items)→(s2.heap.IsTupleIter I a 0∧s2.heap.IsTuple a items)→(∀b∈[I,a],b<s2.heap.objs.size)→
   (∀h' tk,(∀b o,b∉[I]→s2.heap.get? b=some o→h'.get? b=some o)→(∀b o,s.heap.get? b=some o→h'.get? b=some o)∧({s2 with heap:=h',toks:=tk}:Shared)={s with heap:=h',toks:=tk})→R (.ref I) s2) :
 wpAny (model M w) A (pyIter (.ref a)) R E s:=by
 have fB:a<s.heap.objs.size:=by obtain⟨_,e,_⟩:=ht;exact Heap.lt_size e
 refine wpAny_pyIter_tuple ht (h _ _ (Walks.tuple hh _ a (Nat.ne_of_lt fB) items) ⟨⟨_,Heap.get?_push_size _ rfl,rfl,rfl⟩,ht.push _⟩ (fun b hb=>?_) fun h' tk hk=>⟨fun b o e=>?_,rfl⟩)
 · show b<(s.heap.push _).objs.size
   rw [Heap.size_push]
   simp only [List.mem_cons,List.not_mem_nil,or_false] at hb
   rcases hb with rfl|rfl
   · exact Nat.lt_succ_self _
   · exact Nat.lt_succ_of_lt fB
 · refine hk b o (fun hm=>?_) (Heap.get?_push_of_some _ e)
   have:=Heap.lt_size e
   rw [List.mem_singleton.mp hm] at this
   exact Nat.lt_irrefl _ this
theorem Ek (hc:X.calm=true):df X (.builtin "max") Mb:=by
 intro pins s σ H xs us Q I r h
 obtain⟨p,is,rfl,e,bB,q⟩:=h
 obtain⟨u,rfl,ru⟩:=vals1 r
 cases ru
 have done:∀{zs:List (Int×Tok)}{v:Value}{h':Heap}{tk:Nat},zs.map (·.1)=is→(intItems zs.toArray)[argBest (fun i j=>decide (numAt zs.toArray i > numAt zs.toArray j)) (zs.toArray.size - 1)]? = some v→(∀b o,s.heap.get? b=some o→h'.get? b=some o)→
  EP X pins σ Q v {s with heap:=h',toks:=tk}:=fun {zs v h' tk} ez hv hk=>by
  obtain⟨t,rfl⟩:=intItems_at hv
  obtain⟨h1,h2⟩:=argBest_gt (numAt zs.toArray) (zs.toArray.size - 1)
  have hz:0<zs.length:=by rw [←List.length_map (f:=(·.1)),ez];exact List.length_pos_iff.mpr bB
  simp only [List.size_toArray] at h1 h2
  refine⟨.int _,H,I.kept hk,⟨t,rfl⟩,q _ ?_ fun j hj=>?_⟩
  · rw [←ez];exact Fz (by simp only [List.size_toArray];omega)
  · rw [←ez] at hj
    obtain⟨i,hi,rfl⟩:=Hc hj
    exact h2 i (by omega)
 cases ho:H p with
 | none=>rw [ho] at e;cases e
 | some o=>
  rw [ho] at e
  cases o with
  | lst vs=>
   cases e
   obtain⟨_,aG,n,rv,hl⟩:=I.aX p _ ho
   obtain⟨zs,rfl,ez⟩:=iO rv
   refine max_intList (xs:=zs.toArray) (I.ok.hd hc) ⟨_,hl,rfl,n,by simp [intItems]⟩ ?_ fun v h' tk hv hk=>done ez hv hk
   simp only [List.size_toArray]
   rw [←List.length_map (f:=(·.1)),ez];exact List.length_pos_iff.mpr bB
  | tup vs=>
   cases e
   obtain⟨_,aG,rv,o,hl,hcl,n,hdt⟩:=I.aX p _ ho
   obtain⟨zs,rfl,ez⟩:=iO rv
   have ht:s.heap.IsTuple p (intItems zs.toArray):=⟨o,hl,hcl,n,by rw [hdt];simp [intItems]⟩
   refine call_max_walk (zO (I.ok.hd hc) ht fun Ia s2 W st hfp hk=>⟨Ia,_,_,_,_,_,_,rfl,W,st,hfp,?_,CmpOf.ints_gt (numAt zs.toArray) (fun _ _=>intItems_at),fun v h' tk hv zT=>?_⟩)
   · simp only [intItems,Array.size_map,List.size_toArray]
     rw [←List.length_map (f:=(·.1)),ez];exact List.length_pos_iff.mpr bB
   · obtain⟨k1,k2⟩:=hk h' tk zT
     rw [k2]
     exact done ez (by simpa [intItems] using hv) k1
  | _=>cases e
theorem vQ (hc:X.calm=true):df X (.builtin "min") Ml:=by
 intro pins s σ H xs us Q I r h
 obtain⟨p,is,rfl,e,bB,q⟩:=h
 obtain⟨u,rfl,ru⟩:=vals1 r
 cases ru
 have done:∀{zs:List (Int×Tok)}{v:Value}{h':Heap}{tk:Nat},zs.map (·.1)=is→(intItems zs.toArray)[argBest (fun i j=>decide (numAt zs.toArray i<numAt zs.toArray j)) (zs.toArray.size - 1)]? = some v→(∀b o,s.heap.get? b=some o→h'.get? b=some o)→
  EP X pins σ Q v {s with heap:=h',toks:=tk}:=fun {zs v h' tk} ez hv hk=>by
  obtain⟨t,rfl⟩:=intItems_at hv
  obtain⟨h1,h2⟩:=argBest_lt (numAt zs.toArray) (zs.toArray.size - 1)
  have hz:0<zs.length:=by rw [←List.length_map (f:=(·.1)),ez];exact List.length_pos_iff.mpr bB
  simp only [List.size_toArray] at h1 h2
  refine⟨.int _,H,I.kept hk,⟨t,rfl⟩,q _ ?_ fun j hj=>?_⟩
  · rw [←ez];exact Fz (by simp only [List.size_toArray];omega)
  · rw [←ez] at hj
    obtain⟨i,hi,rfl⟩:=Hc hj
    exact h2 i (by omega)
 cases ho:H p with
 | none=>rw [ho] at e;cases e
 | some o=>
  rw [ho] at e
  cases o with
  | lst vs=>
   cases e
   obtain⟨_,aG,n,rv,hl⟩:=I.aX p _ ho
   obtain⟨zs,rfl,ez⟩:=iO rv
   refine min_intList (xs:=zs.toArray) (I.ok.hd hc) ⟨_,hl,rfl,n,by simp [intItems]⟩ ?_ fun v h' tk hv hk=>done ez hv hk
   simp only [List.size_toArray]
   rw [←List.length_map (f:=(·.1)),ez];exact List.length_pos_iff.mpr bB
  | tup vs=>
   cases e
   obtain⟨_,aG,rv,o,hl,hcl,n,hdt⟩:=I.aX p _ ho
   obtain⟨zs,rfl,ez⟩:=iO rv
   have ht:s.heap.IsTuple p (intItems zs.toArray):=⟨o,hl,hcl,n,by rw [hdt];simp [intItems]⟩
   refine call_min_walk (zO (I.ok.hd hc) ht fun Ia s2 W st hfp hk=>⟨Ia,_,_,_,_,_,_,rfl,W,st,hfp,?_,CmpOf.ints_lt (numAt zs.toArray) (fun _ _=>intItems_at),fun v h' tk hv zT=>?_⟩)
   · simp only [intItems,Array.size_map,List.size_toArray]
     rw [←List.length_map (f:=(·.1)),ez];exact List.length_pos_iff.mpr bB
   · obtain⟨k1,k2⟩:=hk h' tk zT
     rw [k2]
     exact done ez (by simpa [intItems] using hv) k1
  | _=>cases e
end
theorem L6 {lo:Int}{n:Nat}{caps:List Nat}{tc:TT}{te:TE}{σ:St}{H:Hp}{Q:VK} (Pv:Nat→List V→Hp→Prop) (h0:Pv 0 [] H) (hx:n≤100000) (hy:∀i ys H',Pv i ys H'→ys.length≤i)
 (hs:∀i ys H',i<n→av H H'→Pv i ys H'→tc (bT caps σ (some (.int (lo+i)))) H' fun b H2=>if b=true then te (bT caps σ (some (.int (lo+i)))) H2 fun y H3=>av H H3∧Pv (i+1) (ys++[y]) H3 else av H H2∧Pv (i+1) ys H2)
 (hd:∀p ys H1 H2,av H H1→av H1 H2→Pv n ys H1→H1 p=none→H2 p=some (.lst ys)→Q (.ref p) H2):mH (IS lo n) caps tc te σ H Q:=
 AM (fun i ys H'=>av H H'∧Pv i ys H') ⟨av.refl H,h0⟩ (cb hx) (fun i ys H' p=>hy i ys H' p.2) (fun i ys H' hi p=>hs i ys H' hi p.1 p.2) fun ys H' p q n=>hd q ys H' _ p.1 (cg n _) p.2 n bI
theorem Hb {K:PySem.W.Frag}{a:Addr}{xs:List V}{caps:List Nat}{tc:TT}{te:TE}{σ:St}{H:Hp}{Q:VK} (Pv:Nat→List V→Hp→Prop) (h0:Pv 0 [] H) (hx:xs.length<sizeLine) (hy:∀i ys H,Pv i ys H→ys.length≤i)
 (hl:∀i ys H,i≤xs.length→Pv i ys H→jE K H a xs)
 (hs:∀i x ys H,xs[i]? = some x→Pv i ys H→tc (bT caps σ (some x)) H fun b H2=>if b=true then te (bT caps σ (some x)) H2 fun y H3=>Pv (i+1) (ys++[y]) H3 else Pv (i+1) ys H2)
 (hd:∀ys H,Pv xs.length ys H→∀p,H p=none→Q (.ref p) (upd H p (.lst ys))):mH (OU K a) caps tc te σ H Q:=by
 refine⟨fun i m ys H=>m=xs.length - i∧i≤xs.length∧Pv i ys H,⟨xs.length,by simp,Nat.zero_le _,h0⟩,?_⟩
 rintro i m ys H ⟨rfl,hi,p⟩
 have q:=hl i ys H hi p
 by_cases fB:i<xs.length
 · refine .inr ⟨⟨xs,xs[i],q,by simp [fB]⟩,Nat.lt_of_le_of_lt (Nat.le_trans (hy i ys H p) hi) hx,Pv (i+1),fun ys' H' p'=>⟨xs.length - (i+1),by omega,rfl,fB,p'⟩,fun x H' y=>?_⟩
   obtain⟨e,y⟩:=y
   subst e
   exact hs i x ys _ (y xs q) p
 · have e:i=xs.length:=by omega
   subst e
   exact .inl ⟨⟨xs,q,Nat.le_refl _⟩,hd ys H p⟩
theorem nW.comp {K:PySem.W.Frag}{a:Addr}{xs:List V}{caps:List Nat}{tc:TT}{te:TE}{σ:St}{H:Hp}{Q:VK} (e:H a=some (.tup xs)) (Pv:Nat→List V→Hp→Prop) (h0:Pv 0 [] H) (hx:xs.length≤100000)
 (hy:∀i ys H',Pv i ys H'→ys.length≤i)
 (hs:∀i x ys H',xs[i]? = some x→av H H'→Pv i ys H'→tc (bT caps σ (some x)) H' fun b H2=>if b=true then te (bT caps σ (some x)) H2 fun y H3=>av H H3∧Pv (i+1) (ys++[y]) H3 else av H H2∧Pv (i+1) ys H2)
 (hd:∀p ys H1 H2,av H H1→av H1 H2→Pv xs.length ys H1→H1 p=none→H2 p=some (.lst ys)→Q (.ref p) H2):nW K (.ref a) H fun J H1=>mH J caps tc te σ H1 Q:=
 ⟨a,rfl,⟨xs,e⟩,Hb (fun i ys H'=>av H H'∧Pv i ys H') ⟨av.refl H,h0⟩ (cb hx) (fun i ys H' p=>hy i ys H' p.2) (fun i ys H' _ p=>jE.of (p.1 _ _ e)) (fun i x ys H' ex p=>hs i x ys H' ex p.1 p.2) fun ys H' p q n=>hd q ys H' _ p.1 (cg n _) p.2 n bI⟩
end L2
namespace L2
open PySem PySem.Spec PyProof.Rows
theorem QP (a b:Str):(a++b).length=a.length+b.length:=by simp only [iZ,cps_append,List.length_append]
theorem DE:Str.empty.length=0:=by decide +kernel
noncomputable def wQ (t:Tree):Bool:=!t.eR
noncomputable abbrev au:=M.au Str
noncomputable def bP:au→List V
 | .take x i=>[.str (Str.ofString "take"),.str x,.int i]
 | .join f i j h=>[.str (Str.ofString "join"),.str f,.int i,.int j,.int h]
 | .put i s=>[.str (Str.ofString "put"),.int i,.int s]
 | .fetch s i=>[.str (Str.ofString "fetch"),.int s,.int i]
noncomputable def cF:au→D
 | .take x i=>.tup [.str (Str.ofString "take"),.str x,.int i]
 | .join f i j h=>.tup [.str (Str.ofString "join"),.str f,.int i,.int j,.int h]
 | .put i s=>.tup [.str (Str.ofString "put"),.int i,.int s]
 | .fetch s i=>.tup [.str (Str.ofString "fetch"),.int s,.int i]
theorem gr {H:Hp}{d:au}{v:V} (h:Dt H (cF d) v):∃a,v = .ref a∧H a=some (.tup (bP d)):=by
 cases d<;>(obtain⟨a,vs,rfl,e,h⟩:=fG.mp h;refine⟨a,rfl,?_⟩;simp only [aW,bc,aQ,eZ] at h)
 · obtain⟨_,_,rfl,rfl,_,_,rfl,rfl,_,_,rfl,rfl,rfl⟩:=h;exact e
 · obtain⟨_,_,rfl,rfl,_,_,rfl,rfl,_,_,rfl,rfl,_,_,rfl,rfl,_,_,rfl,rfl,rfl⟩:=h;exact e
 · obtain⟨_,_,rfl,rfl,_,_,rfl,rfl,_,_,rfl,rfl,rfl⟩:=h;exact e
 · obtain⟨_,_,rfl,rfl,_,_,rfl,rfl,_,_,rfl,rfl,rfl⟩:=h;exact e
theorem m9 {H:Hp}{d:au}{a:Addr} (e:H a=some (.tup (bP d))):Dt H (cF d) (.ref a):=by
 cases d
 · exact Dt.tup e (.cons (bc.mpr rfl) (.cons (bc.mpr rfl) (.cons (aQ.mpr rfl) .nil)))
 · exact Dt.tup e (.cons (bc.mpr rfl) (.cons (bc.mpr rfl) (.cons (aQ.mpr rfl) (.cons (aQ.mpr rfl) (.cons (aQ.mpr rfl) .nil)))))
 · exact Dt.tup e (.cons (bc.mpr rfl) (.cons (aQ.mpr rfl) (.cons (aQ.mpr rfl) .nil)))
 · exact Dt.tup e (.cons (bc.mpr rfl) (.cons (aQ.mpr rfl) (.cons (aQ.mpr rfl) .nil)))
theorem G5 (d:au):(cF d).nl=true:=by cases d<;>rfl
theorem Pp:(Str.ofString "take"==Str.ofString "join")=false:=by decide +kernel
theorem Ks:(Str.ofString "take"==Str.ofString "put")=false:=by decide +kernel
theorem Qd:(Str.ofString "take"==Str.ofString "fetch")=false:=by decide +kernel
theorem Rq:(Str.ofString "join"==Str.ofString "take")=false:=by decide +kernel
theorem Of:(Str.ofString "join"==Str.ofString "put")=false:=by decide +kernel
theorem RX:(Str.ofString "join"==Str.ofString "fetch")=false:=by decide +kernel
theorem Rl:(Str.ofString "put"==Str.ofString "take")=false:=by decide +kernel
theorem Nd:(Str.ofString "put"==Str.ofString "join")=false:=by decide +kernel
theorem Xs:(Str.ofString "put"==Str.ofString "fetch")=false:=by decide +kernel
theorem QW:(Str.ofString "fetch"==Str.ofString "take")=false:=by decide +kernel
theorem MV:(Str.ofString "fetch"==Str.ofString "join")=false:=by decide +kernel
theorem Hl:(Str.ofString "fetch"==Str.ofString "put")=false:=by decide +kernel
theorem adz {x y:Str} (h:(x==y)=false):decide (V.str x=V.str y)=false:=decide_eq_false fun z=>by
 have:=V.str.inj z
 rw [this] at h
 simp at h
theorem RS {x:Str}:decide (V.str x=V.str x)=true:=decide_eq_true rfl
noncomputable def Gx:List V→Hp→VK→Prop:=fun xs H Q=>∃p ys,xs=[.ref p]∧itemsOf (H p)=some ys∧aI H (.lst ys) Q
theorem kH {X:Cx}:df X (.type "list") Gx:=fun pins s σ H xs us Q I r h=>by
 obtain⟨p,ys,e,h,q⟩:=h
 exact yc pins s σ H xs us Q I r ⟨p,ys,e,oo h,q⟩
theorem vh {xs:List V}{H:Hp}{Q:VK}:Gx xs H Q=(∃p ys,xs=[.ref p]∧itemsOf (H p)=some ys∧aI H (.lst ys) Q):=rfl
noncomputable def Lr:List V→Hp→VK→Prop:=fun xs H Q=>∃p ys,xs=[.ref p]∧H p=some (.lst ys)∧aI H (.tup ys) Q
theorem wI {X:Cx}:df X (.type "tuple") Lr:=fun pins s σ H xs us Q I r h=>by
 obtain⟨p,ys,e,h,q⟩:=h
 exact vK pins s σ H xs us Q I r ⟨p,ys,e,.inl ⟨fQ.of h,q⟩⟩
theorem yl {xs:List V}{H:Hp}{Q:VK}:Lr xs H Q=(∃p ys,xs=[.ref p]∧H p=some (.lst ys)∧aI H (.tup ys) Q):=rfl
noncomputable def Py (K:PySem.W.Frag):V→Option Int→Option Int→Hp→VK→Prop:=fun x lo hi H Q=>∃a xs,x = .ref a∧H a=some (.tup xs)∧
 ((HT.cW xs.length 0 lo=0∧HT.cW xs.length xs.length hi=xs.length)→Q (.ref a) H)∧(¬(HT.cW xs.length 0 lo=0∧HT.cW xs.length xs.length hi=xs.length)→aI H (.tup (jj xs lo hi)) Q)
theorem Cb {K:PySem.W.Frag}{x:V}{lo hi:Option Int}{H:Hp}{Q:VK}:Py K x lo hi H Q=(∃a xs,x = .ref a∧H a=some (.tup xs)∧
 ((HT.cW xs.length 0 lo=0∧HT.cW xs.length xs.length hi=xs.length)→Q (.ref a) H)∧(¬(HT.cW xs.length 0 lo=0∧HT.cW xs.length xs.length hi=xs.length)→aI H (.tup (jj xs lo hi)) Q)):=rfl
open HT in
theorem Cz {P:Program}{w:World}{AA:Around}{EE:Value→Shared→Prop}{s:Shared}{t sl:Addr}{aG:Array Value}{vl vu:Value}{lo hi:Option Int}{Q:Value→Shared→Prop} (ht:IsTup s.heap t aG) (hs:s.heap.IsSliceOf sl vl vu .none) (pl:IsPart vl lo) (pu:IsPart vu hi)
 (hw:cW aG.size 0 lo=0∧cW aG.size aG.size hi=aG.size) (h:Q (.ref t) s):wpAny (model P w) AA (getItem (.ref t) (.ref sl)) Q EE s:=by
 obtain⟨os,a1,a2,a3⟩:=id hs
 unfold getItem
 try with_reducible refine wpAny_holding ?_
 first|refine wpAny_bind (wpAny_pure ?_)|skip
 refine wpAny_bind (wpAny_sequenceKey ht.typeIs (by decide) ?_)
 have kind:s.TypeIs (.ref sl) "slice":=⟨os,a1,a2⟩
 refine wpAny_bind (wpAny_callSpecial?_slot (name:=Str.ofString "__getitem__") ht.typeIs PyProof.Rows.slot_tuple_getitem
  (wpAny_call_entry PyProof.Rows.slot_tuple_getitem ht.typeIs entry_tuple_getitem ?_ (args_tuple_getitem _ _)))
 show wpAny _ _ (Builtin.Tuple.tupleItemsOf (.ref t) >>= _) _ _ s
 refine wpAny_bind (tupleItemsOf_ ht ?_)
 refine wpAny_bind (wpAny_typeOf kind ?_)
 rw [if_pos (by decide)]
 refine wpAny_bind (jU hs pl pu ?_)
 have yes:(((cW aG.size 0 lo:Nat):Int)==0&&(1:Int)==1&&(cW aG.size aG.size hi - cW aG.size 0 lo)==aG.size)=true:=by
  rw [hw.1,hw.2];simp
 show wpAny _ _ (if (((cW aG.size 0 lo:Nat):Int)==0&&(1:Int)==1&&(cW aG.size aG.size hi - cW aG.size 0 lo)==aG.size)=true then _ else _) _ _ s
 rw [if_pos yes]
 refine wpAny_bind (wpAny_bind (m:=typeOf _) (wpAny_typeOf ht.typeIs (wpAny_pure ?_)))
 rw [if_pos (by decide)]
 first
  | exact wpAny_bind (wpAny_pure (wpAny_pure ⟨_,rfl,wpAny_pure h⟩))
  | exact wpAny_pure ⟨_,rfl,wpAny_pure h⟩
  | exact wpAny_bind (wpAny_rule (wpAny_pure ⟨_,rfl,wpAny_pure h⟩))
theorem KH {X:Cx}:IB X (Py X.K):=by
 intro pins s σ H x v vl vu lo hi sl Q I rx hs pl pu h
 obtain⟨a,xs,rfl,hx,h1,h2⟩:=h
 by_cases hw:HT.cW xs.length 0 lo=0∧HT.cW xs.length xs.length hi=xs.length
 · cases rx
   obtain⟨aG,r,ht,hz⟩:=I.tuple (jE.of (K:=X.K) hx)
   have hlen:aG.toArray.size=xs.length:=by rw [List.size_toArray];exact r.length.symm
   exact⟨"tuple",_,PyProof.Rows.slot_tuple_getitem.lookup,ht.typeIs,Cz ht hs pl pu (by rw [hlen];exact hw) ⟨.ref a,_,I,rfl,h1 hw⟩⟩
 · exact NO pins s σ H (.ref a) v vl vu lo hi sl Q I rx hs pl pu ⟨a,xs,rfl,jE.of hx,hw,h2 hw⟩
theorem AB {H:Hp}{B S:List D}{v:V} (h:Dt H (.tup [.lst B,.lst S]) v):∃p b s vs us,v = .ref p∧H p=some (.tup [.ref b,.ref s])∧H b=some (.lst vs)∧H s=some (.lst us)∧aR H B vs∧aR H S us:=by
 obtain⟨p,vs,rfl,e,g1⟩:=fG.mp h
 obtain⟨v1,r1,e1,h1,g2⟩:=aW.mp g1
 obtain⟨v2,r2,e2,h2,g3⟩:=aW.mp g2
 obtain⟨b,us,e3,eb,db⟩:=Ea.mp h1
 obtain⟨s,ws,e4,es,ds⟩:=Ea.mp h2
 rw [e1,e2,eZ.mp g3,e3,e4] at e
 exact⟨p,b,s,us,ws,rfl,e,eb,es,db,ds⟩
theorem C4 {H:Hp}{B S:List D}{p b s:Addr}{vs us:List V} (e:H p=some (.tup [.ref b,.ref s])) (eb:H b=some (.lst vs)) (es:H s=some (.lst us)) (db:aR H B vs) (ds:aR H S us):Dt H (.tup [.lst B,.lst S]) (.ref p):=
 Dt.tup e (.cons (Dt.lst eb db) (.cons (Dt.lst es ds) .nil))
noncomputable def E1 (H:Hp) (st:List D×List D) (Q:VK):Prop:=∀p b s vs us H',av H H'→H' p=some (.tup [.ref b,.ref s])→H b=none→H s=none→b≠s→H' b=some (.lst vs)→H' s=some (.lst us)→aR H' st.1 vs→aR H' st.2 us→Q (.ref p) H'
theorem E1.d {H:Hp}{B S:List D}{Q:VK} (h:Al H (.tup [.lst B,.lst S]) Q):E1 H (B,S) Q:=fun p b s vs us H' S' e _ _ _ eb es db ds=>h _ _ S' (C4 e eb es db ds)
theorem aR.len {H:Hp}{B:List D}{vs:List V} (h:aR H B vs):vs.length=B.length:=h.length
theorem getD_at {H:Hp}{B:List D}{vs:List V}{i:Int} (h:aR H B vs) (hi:M.tO B.length i):∃v,kX vs i=some v∧Dt H (B.getD i.toNat .non) v:=by
 have fB:i.toNat<B.length:=by have:=hi.1;have:=hi.2;omega
 obtain⟨v,e,d⟩:=h.get (List.getElem?_eq_getElem fB)
 refine⟨v,gX hi.1 e,?_⟩
 rw [List.getD_eq_getElem?_getD,List.getElem?_eq_getElem fB]
 exact d
end L2
namespace L2
open PySem PySem.Spec PyProof.Rows
section
variable {D : Ends} {σ : St} {H : Hp} {a b c d e f g h i j k l B : TS}
theorem PU (q:∀B',B'=B→ei a B' D σ H):ei a B D σ H:=q B rfl
theorem Qh (q:∀B',B'=B→ei a (ei b B') D σ H):ei a (ei b B) D σ H:=q B rfl
theorem Wq (q:∀B',B'=B→ei a (ei b (ei c B')) D σ H):ei a (ei b (ei c B)) D σ H:=q B rfl
end
section
variable {D : Ends} {σ : St} {H : Hp} {a b c d e f B : TS}
theorem gU (q:∀C:St→Hp→Prop,C=B D→ei a (fun _=>C) D σ H):ei a B D σ H:=q _ rfl
theorem y6 (q:∀C:St→Hp→Prop,C=B D→ei a (ei b fun _=>C) D σ H):ei a (ei b B) D σ H:=q _ rfl
theorem vV (q:∀C:St→Hp→Prop,C=B D→ei a (ei b (ei c fun _=>C)) D σ H):ei a (ei b (ei c B)) D σ H:=q _ rfl
theorem Pf (q:∀C:St→Hp→Prop,C=B D→ei a (ei b (ei c (ei d fun _=>C))) D σ H):ei a (ei b (ei c (ei d B))) D σ H:=q _ rfl
end
theorem UP {p:List Value→Prop} (h:∀a,p [a]) (us:List Value) (hl:us.length=1):p us:=by
 obtain _|⟨a,us⟩:=us
 · cases hl
 obtain _|⟨_,_⟩:=us
 · exact h a
 · simp at hl
theorem aay {p:List Value→Prop} (h:∀a b,p [a,b]) (us:List Value) (hl:us.length=2):p us:=by
 obtain _|⟨a,us⟩:=us
 · cases hl
 obtain _|⟨b,us⟩:=us
 · cases hl
 obtain _|⟨_,_⟩:=us
 · exact h a b
 · simp at hl
theorem aba {p:List Value→Prop} (h:∀a b c,p [a,b,c]) (us:List Value) (hl:us.length=3):p us:=by
 obtain _|⟨a,us⟩:=us
 · cases hl
 obtain _|⟨b,us⟩:=us
 · cases hl
 obtain _|⟨c,us⟩:=us
 · cases hl
 obtain _|⟨_,_⟩:=us
 · exact h a b c
 · simp at hl
theorem T4 {p:List Value→Prop} (h:∀a b c d,p [a,b,c,d]) (us:List Value) (hl:us.length=4):p us:=by
 obtain _|⟨a,us⟩:=us
 · cases hl
 obtain _|⟨b,us⟩:=us
 · cases hl
 obtain _|⟨c,us⟩:=us
 · cases hl
 obtain _|⟨d,us⟩:=us
 · cases hl
 obtain _|⟨_,_⟩:=us
 · exact h a b c d
 · simp at hl
theorem Wr {p:List Value→Prop} (h:∀a b c d e f,p [a,b,c,d,e,f]) (us:List Value) (hl:us.length=6):p us:=by
 obtain _|⟨a,us⟩:=us
 · cases hl
 obtain _|⟨b,us⟩:=us
 · cases hl
 obtain _|⟨c,us⟩:=us
 · cases hl
 obtain _|⟨d,us⟩:=us
 · cases hl
 obtain _|⟨e,us⟩:=us
 · cases hl
 obtain _|⟨f,us⟩:=us
 · cases hl
 obtain _|⟨_,_⟩:=us
 · exact h a b c d e f
 · simp at hl
theorem eP.cM {K:PySem.W.Frag}{x qual:Str}{st:Stmt}{f:Addr}{fd:FuncData}{ps:List Str} (F:eP K x qual st f fd) (hn:ps.length=1) (h:∀(kV doc pm:Value) (an:Option Addr) (bJ ct:Value) (a:Value),bindArgs (PySem.W.fnOf x qual (aB st) (ax st) (ai st) .none kV doc pm an bJ ct) ⟨[a],[]⟩=pure (ps.zip [a])):Binds K fd ps []:=
 F.binds fun kV doc pm an bJ ct us hl=>UP (p:=fun us=>bindArgs (PySem.W.fnOf x qual (aB st) (ax st) (ai st) .none kV doc pm an bJ ct) ⟨us,[]⟩=pure (ps.zip us)) (h kV doc pm an bJ ct) us (hl.trans hn)
theorem eP.fg {K:PySem.W.Frag}{x qual:Str}{st:Stmt}{f:Addr}{fd:FuncData}{ps:List Str} (F:eP K x qual st f fd) (hn:ps.length=2) (h:∀(kV doc pm:Value) (an:Option Addr) (bJ ct:Value) (a b:Value),bindArgs (PySem.W.fnOf x qual (aB st) (ax st) (ai st) .none kV doc pm an bJ ct) ⟨[a,b],[]⟩=pure (ps.zip [a,b])):Binds K fd ps []:=
 F.binds fun kV doc pm an bJ ct us hl=>aay (p:=fun us=>bindArgs (PySem.W.fnOf x qual (aB st) (ax st) (ai st) .none kV doc pm an bJ ct) ⟨us,[]⟩=pure (ps.zip us)) (h kV doc pm an bJ ct) us (hl.trans hn)
theorem eP.mf {K:PySem.W.Frag}{x qual:Str}{st:Stmt}{f:Addr}{fd:FuncData}{ps:List Str} (F:eP K x qual st f fd) (hn:ps.length=3) (h:∀(kV doc pm:Value) (an:Option Addr) (bJ ct:Value) (a b c:Value),bindArgs (PySem.W.fnOf x qual (aB st) (ax st) (ai st) .none kV doc pm an bJ ct) ⟨[a,b,c],[]⟩=pure (ps.zip [a,b,c])):Binds K fd ps []:=
 F.binds fun kV doc pm an bJ ct us hl=>aba (p:=fun us=>bindArgs (PySem.W.fnOf x qual (aB st) (ax st) (ai st) .none kV doc pm an bJ ct) ⟨us,[]⟩=pure (ps.zip us)) (h kV doc pm an bJ ct) us (hl.trans hn)
theorem eP.qv {K:PySem.W.Frag}{x qual:Str}{st:Stmt}{f:Addr}{fd:FuncData}{ps:List Str} (F:eP K x qual st f fd) (hn:ps.length=4) (h:∀(kV doc pm:Value) (an:Option Addr) (bJ ct:Value) (a b c d:Value),bindArgs (PySem.W.fnOf x qual (aB st) (ax st) (ai st) .none kV doc pm an bJ ct) ⟨[a,b,c,d],[]⟩=pure (ps.zip [a,b,c,d])):Binds K fd ps []:=
 F.binds fun kV doc pm an bJ ct us hl=>T4 (p:=fun us=>bindArgs (PySem.W.fnOf x qual (aB st) (ax st) (ai st) .none kV doc pm an bJ ct) ⟨us,[]⟩=pure (ps.zip us)) (h kV doc pm an bJ ct) us (hl.trans hn)
theorem eP.MM {K:PySem.W.Frag}{x qual:Str}{st:Stmt}{f:Addr}{fd:FuncData}{ps:List Str} (F:eP K x qual st f fd) (hn:ps.length=6) (h:∀(kV doc pm:Value) (an:Option Addr) (bJ ct:Value) (a b c d e f:Value),bindArgs (PySem.W.fnOf x qual (aB st) (ax st) (ai st) .none kV doc pm an bJ ct) ⟨[a,b,c,d,e,f],[]⟩=pure (ps.zip [a,b,c,d,e,f])):Binds K fd ps []:=
 F.binds fun kV doc pm an bJ ct us hl=>Wr (p:=fun us=>bindArgs (PySem.W.fnOf x qual (aB st) (ax st) (ai st) .none kV doc pm an bJ ct) ⟨us,[]⟩=pure (ps.zip us)) (h kV doc pm an bJ ct) us (hl.trans hn)
theorem aR.strs {H:Hp}{f:Nat→Str}{n:Nat}{vs:List V} (h:aR H ((List.range n).map fun k=>D.str (f k)) vs):vs=((List.range n).map f).map V.str:=by
 have:((List.range n).map fun k=>D.str (f k))=((List.range n).map f).map D.str:=by rw [List.map_map];rfl
 rw [this] at h
 exact aR.yM h
end L2
namespace L2
open PySem PySem.Spec PyProof.Rows
section
variable {X : Cx} {pins : List (Addr × Obj)} {σ : St} {H H' : Hp} {s : Shared} {h' : Heap}
theorem Dw {fp:List Addr}{t':Nat} (I:Inv X pins σ H s) (k:∀b o,b∉fp→s.heap.get? b=some o→h'.get? b=some o) (hf:∀b∈fp,eX X pins H b):Inv X pins σ H {s with heap:=h',toks:=t'}:=by
 have Ri:∀b u,H b=some u→b∉fp:=fun b u e z=>by
  have:=(hf b z).1
  rw [e] at this;cases this
 have IV:∀b∈fp,b≠X.env.locals:=fun b z=>(hf b z).2.1
 refine I.step (g':=s.gens) (d':=s.drawn) (ch:=fp) (fun b hb=>?_) (fun b o _ _ hc e _=>k b o hc e) (fun b o _ _ hc e _=>⟨o.slots,k b o hc e⟩) (fun _ _ _ _ n=>n) (fun b o hc e=>⟨o,k b o hc e⟩) (fun _ _ e=>e) (fun _ _ _ e=>e) (fun b ps e=>⟨#[],by rw [e];simp⟩) (fun m hm=>?_) (fun b u e=>?_) I.bare
 · obtain⟨_,f1,_,f3,f4,f5⟩:=hf b hb
   exact⟨f3,f1,f4,f5⟩
 · obtain⟨o,es,ep,ho,r⟩:=hm
   exact⟨o,es,ep,k _ o (fun z=>IV _ z rfl) ho,r⟩
 · refine (I.aX b u e).lB (fun c v hc q=>k c v ?_ q) (fun _ q=>q) fun _ _ q=>q
   rcases hc with z|z
   · rw [z];exact Ri b u e
   · exact Ri c _ z
theorem Gw {fp:List Addr}{t':Nat}{x y:V}{u v:Value} (I:Inv X pins σ H s) (hx:RelV x u) (hy:RelV y v) (hf:∀b∈fp,eX X pins H b) (ho:∀b∈fp,∃o,s.heap.get? b=some o)
 (new:h'.get? s.heap.objs.size=some {cls:=.type "tuple",data:=.seq #[u,v]}) (k:∀b o,b∉fp→s.heap.get? b=some o→h'.get? b=some o) :
 Inv X pins σ (upd H s.heap.objs.size (.tup [x,y])) {s with heap:=h',toks:=t'}∧∀b∈fp,eX X pins (upd H s.heap.objs.size (.tup [x,y])) b:=by
 have lt:∀b∈fp,b≠s.heap.objs.size:=fun b hb=>by
  obtain⟨o,e⟩:=ho b hb
  exact Nat.ne_of_lt (Heap.lt_size e)
 have hf':∀b∈fp,eX X pins (upd H s.heap.objs.size (.tup [x,y])) b:=fun b hb=>by
  obtain⟨f0,r⟩:=hf b hb
  exact⟨by rw [bg (lt b hb)];exact f0,r⟩
 refine⟨?_,hf'⟩
 have I1:Inv X pins σ (upd H s.heap.objs.size (.tup [x,y])) {s with heap:=s.heap.push {cls:=.type "tuple",data:=.seq #[u,v]}}:=
  I.laid (t':=s.toks) (fun b o q=>Heap.get?_push_of_some _ q) (Nat.le_refl _) ⟨show 2≤sizeLine by decide,[u,v],.cons hx (.cons hy .nil),IsTup.new _ _⟩
 refine Dw (s:={s with heap:=s.heap.push {cls:=.type "tuple",data:=.seq #[u,v]}}) (fp:=fp) I1 (fun b o hb e=>?_) hf'
 rcases Heap.get?_push_cases e with ⟨rfl,rfl⟩|q
 · exact new
 · exact k b o hb q
end
noncomputable def Ite (a:Addr):It:=⟨fun i H=>∃xs x,H a=some (.lst xs)∧xs[i]? = some x,
 fun i H x H'=>∃T y,x = .ref T∧H T=none∧H'=upd H T (.tup [.int (i:Int),y])∧∀ys,H a=some (.lst ys)→ys[i]? = some y,
 fun i H=>∃xs,H a=some (.lst xs)∧xs.length≤i⟩
noncomputable def Mc (x:V) (H:Hp) (R:It→Hp→Prop):Prop:=∃a,x = .ref a∧(∃xs,H a=some (.lst xs))∧R (Ite a) H
theorem Mc.Df {a:Addr}{xs:List V}{g:TG}{tb:TS}{D:Ends}{σ:St}{H:Hp} (e:H a=some (.lst xs)) (Pv:Nat→St→Hp→Prop) (h0:Pv 0 σ H) (hl:∀i σ H,i≤xs.length→Pv i σ H→H a=some (.lst xs))
 (hs:∀i x σ H T H',xs[i]? = some x→Pv i σ H→av H H'→H T=none→H' T=some (.tup [.int (i:Int),x])→g (.ref T) σ H' fun σ2 H2=>tb {D with nx:=Pv (i+1),ct:=Pv (i+1),bk:=D.nx} σ2 H2) (hd:∀σ H,Pv xs.length σ H→D.nx σ H):Mc (.ref a) H fun J H1=>AL J g tb D σ H1:=by
 refine⟨a,rfl,⟨xs,e⟩,fun i m σ H=>i+m=xs.length∧Pv i σ H,⟨xs.length,by simp,h0⟩,fun i m σ H h=>?_⟩
 obtain⟨h1,h2⟩:=h
 have ea:=hl i σ H (by omega) h2
 by_cases c:m=0
 · subst c
   have:i=xs.length:=by omega
   subst this
   exact .inl ⟨⟨xs,ea,Nat.le_refl _⟩,hd σ H h2⟩
 · have hi:i<xs.length:=by omega
   refine .inr ⟨⟨xs,_,ea,List.getElem?_eq_getElem hi⟩,Pv (i+1),fun σ' H' q=>⟨m - 1,by omega,by omega,q⟩,fun x H' y=>?_⟩
   obtain⟨T,z,rfl,nT,rfl,hz⟩:=y
   exact hs i z σ H T _ (hz xs ea) h2 (cg nT _) nT bI
noncomputable def Itz (a b:Addr):It:=⟨fun i H=>∃xs ys x y,H a=some (.lst xs)∧H b=some (.lst ys)∧xs[i]? = some x∧ys[i]? = some y,
 fun i H x H'=>∃T y z,x = .ref T∧H T=none∧H'=upd H T (.tup [y,z])∧(∀ys,H a=some (.lst ys)→ys[i]? = some y)∧∀ys,H b=some (.lst ys)→ys[i]? = some z,
 fun i H=>∃xs ys,H a=some (.lst xs)∧H b=some (.lst ys)∧(xs.length≤i∨ys.length≤i)⟩
structure Ce (z TI TO i1 i2:Addr):Prop where
 a:TI≠z
 b:TO≠z
 c:i1≠z
 d:i2≠z
 e:TI≠TO
 f:TI≠i1
 g:TI≠i2
 h:TO≠i1
 i:TO≠i2
 j:i1≠i2
theorem ne5 (n:Nat):Ce (n+4) (n+2) (n+3) n (n+1):=by
 constructor<;>(intro z;have z' : @Eq Nat _ _:=z;omega)
noncomputable def Lb (x y:V) (H:Hp) (R:It→Hp→Prop):Prop:=∃a b,x = .ref a∧y = .ref b∧(∃xs,H a=some (.lst xs))∧(∃xs,H b=some (.lst xs))∧R (Itz a b) H
theorem boot_zip:bootBuiltins "zip"=some (.type "zip"):=by decide +kernel
theorem Lb.Df {a b:Addr}{xs ys:List V}{g:TG}{tb:TS}{D:Ends}{σ:St}{H:Hp} (e:H a=some (.lst xs)) (e2:H b=some (.lst ys)) (cU:xs.length=ys.length) (Pv:Nat→St→Hp→Prop) (h0:Pv 0 σ H) (hl:∀i σ H,i≤xs.length→Pv i σ H→H a=some (.lst xs)∧H b=some (.lst ys))
 (hs:∀i x y σ H T H',xs[i]? = some x→ys[i]? = some y→Pv i σ H→av H H'→H T=none→H' T=some (.tup [x,y])→g (.ref T) σ H' fun σ2 H2=>tb {D with nx:=Pv (i+1),ct:=Pv (i+1),bk:=D.nx} σ2 H2) (hd:∀σ H,Pv xs.length σ H→D.nx σ H):Lb (.ref a) (.ref b) H fun J H1=>AL J g tb D σ H1:=by
 refine⟨a,b,rfl,rfl,⟨xs,e⟩,⟨ys,e2⟩,fun i m σ H=>i+m=xs.length∧Pv i σ H,⟨xs.length,by simp,h0⟩,fun i m σ H h=>?_⟩
 obtain⟨h1,h2⟩:=h
 obtain⟨ea,eb⟩:=hl i σ H (by omega) h2
 by_cases c:m=0
 · subst c
   have:i=xs.length:=by omega
   subst this
   exact .inl ⟨⟨xs,ys,ea,eb,.inl (Nat.le_refl _)⟩,hd σ H h2⟩
 · have hi:i<xs.length:=by omega
   refine .inr ⟨⟨xs,ys,_,_,ea,eb,List.getElem?_eq_getElem hi,List.getElem?_eq_getElem (by omega)⟩,Pv (i+1),fun σ' H' q=>⟨m - 1,by omega,by omega,q⟩,fun x H' y=>?_⟩
   obtain⟨T,z1,z2,rfl,nT,rfl,qJ,QA⟩:=y
   exact hs i z1 z2 σ H T _ (qJ xs ea) (QA ys eb) h2 (cg nT _) nT bI
end L2
namespace L2
open PySem PySem.Spec PyProof.Rows
noncomputable def HR (H:Hp) (p:Addr) (Ng:Str→Int) (ok:Str→Prop):Prop:=∃aS:List (Key×V),H p=some (.dK aS)∧∀x,ok x→dQ aS (.inr x)=some (.int (Ng x))
noncomputable abbrev KW:=Int×Int×Int×Int
noncomputable def Lq (q:KW):List V:=[.int q.1,.int q.2.1,.int q.2.2.1,.int q.2.2.2]
noncomputable def zt (H:Hp) (p:Addr) (BK:Str→KW) (ok:Str→Prop):Prop:=∃aS:List (Key×V),H p=some (.dK aS)∧∀f,ok f→∃a,dQ aS (.inr f)=some (.ref a)∧H a=some (.tup (Lq (BK f)))
theorem HR.same {H H':Hp}{p:Addr}{Ng:Str→Int}{ok:Str→Prop} (h:HR H p Ng ok) (S:av H H'):HR H' p Ng ok:=by
 obtain⟨aS,e,q⟩:=h
 exact⟨aS,S _ _ e,q⟩
theorem zt.same {H H':Hp}{p:Addr}{BK:Str→KW}{ok:Str→Prop} (h:zt H p BK ok) (S:av H H'):zt H' p BK ok:=by
 obtain⟨aS,e,q⟩:=h
 exact⟨aS,S _ _ e,fun f hf=>let ⟨a,h1,h2⟩:=q f hf;⟨a,h1,S _ _ h2⟩⟩
theorem HR.get {H:Hp}{p:Addr}{Ng:Str→Int}{ok:Str→Prop}{x:Str} (h:HR H p Ng ok) (hx:ok x):vI H p (.str x) (some (.int (Ng x))):=by
 obtain⟨aS,e,q⟩:=h
 exact .inl ⟨aS,.inr x,Rd.of e,rfl,(q x hx).symm⟩
theorem zt.get {H:Hp}{p:Addr}{BK:Str→KW}{ok:Str→Prop}{f:Str} (h:zt H p BK ok) (hf:ok f):∃a,vI H p (.str f) (some (.ref a))∧H a=some (.tup (Lq (BK f))):=by
 obtain⟨aS,e,q⟩:=h
 obtain⟨a,h1,h2⟩:=q f hf
 exact⟨a,.inl ⟨aS,.inr f,Rd.of e,rfl,h1.symm⟩,h2⟩
end L2
namespace L2
open PySem PySem.Spec PyProof.Rows
section
variable {X : Cx} {tg : Expr}
end
section
variable {X : Cx}
noncomputable def isInt (m:Int):Value→Bool | .int i _=>i==m|_=>false
end
noncomputable def wo (p:Addr) (H:Hp):Hp:=fun a=>if a=p then none else H a
theorem C9 {p b:Addr}{H:Hp} (h:b≠p):wo p H b=H b:=if_neg h
theorem bQ {p:Addr}{H H':Hp} (S:av H H'):av (wo p H) (wo p H'):=fun b o e=>by
 unfold wo at e ⊢
 split at e
 · cases e
 · rename_i h
   rw [if_neg h];exact S b o e
theorem oP {p:Addr}{H H':Hp} (k:∀b,b≠p→H' b=H b):wo p H'=wo p H:=by
 funext b
 unfold wo
 split
 · rfl
 · rename_i h
   exact k b h
theorem aR.snoc {H:Hp}{ds:List D}{d:D}{us:List V}{v:V} (h:aR H ds us) (g:Dt H d v):aR H (ds++[d]) (us++[v]):=h.append (.one g)
theorem aeq {X:Cx}{K:PySem.W.Frag}{tg l:Expr}{tl:TE} (h:X.K=K) (hl:PE X l tl):PI X tg l (iT K tl):=h▸TH hl
section
variable {X : Cx}
end
end L2
namespace L2
open PySem PySem.Spec PyProof.Rows
section
variable {X : Cx} {tg : Expr}
end
end L2
namespace L2
open PySem PySem.Spec PyProof.Rows
end L2
namespace L2
open PySem PySem.Spec PyProof.Rows
open PySem.W (hideAll hideAll_get hideAll_none of_hideAll funFrames_hide fresh_of_stays flyingW_base)
section
variable {X : Cx} {pins pn : List (Addr × Obj)} {σ : St} {H : Hp} {s : Shared} {E : XK}
end
end L2
namespace L2
open PySem PySem.Spec PyProof.Rows
section
variable {prog : Program} {w : World} {A : Around} {E : Value→Shared→Prop} {s : Shared}
theorem AU {j l:Addr}{i:Nat}{aG}{x:Value}{Q:Value→Shared→Prop} (t1:s.heap.IsTupleIter j l i) (t2:s.heap.IsTuple l aG) (ex:aG[i]? = some x)
 (q:∀h',h'.IsTupleIter j l (i+1)→Heap.SameBut j s.heap h'→Q x {s with heap:=h'}):wpAny (model prog w) A (Builtin.SmallTypes.nextOf (.ref j)) Q E s:=by
 obtain⟨ob,g,gc,gd⟩:=id t1
 obtain⟨ol,gl,_,nl,dl⟩:=t2
 unfold Builtin.SmallTypes.nextOf
 refine wpAny_bind (wpAny_callSpecial?_slot (name:=Str.ofString "__next__") t1.typeIs F.slot_tuple_iterator_next (wpAny_call_entry F.slot_tuple_iterator_next t1.typeIs F.entry_tuple_iterator_next ?_ (F.args_tuple_iterator_next_1 _)))
 show wpAny _ _ (field (.ref j) 0 >>= _) _ _ s
 refine wpAny_bind (wpAny_field g gd (x:=.ref l) rfl ?_);rw [if_neg (show ¬((Value.ref l==Value.none)=true) from Bool.false_ne_true)]
 show wpAny _ _ (field (.ref j) 1 >>= _) _ _ s
 refine wpAny_bind (wpAny_field g gd (x:=.int i 0) rfl (show wpAny _ _ (seqItems? (.ref l) >>= _) _ _ s from wpAny_bind (wpAny_seqItems gl dl ?_)))
 simp only [ex,Int.toNat_natCast]
 refine wpAny_bind (wpAny_setField g gd (by simp) (wpAny_pure ⟨x,rfl,wpAny_pure (q _ ⟨_,Heap.get?_update_self _ g (Obj.isFreed_of_fields (Obj.data_mapFields gd _)),(Obj.cls_mapFields ..).trans gc,?_⟩ (Heap.SameBut.update ..))⟩))
 rw [Obj.data_mapFields gd];simp [rawInt]
theorem ue {j l:Addr}{i:Nat}{aG}{Q:Value→Shared→Prop} (nh:A.handled=none) (t1:s.heap.IsTupleIter j l i) (t2:s.heap.IsTuple l aG) (ex:aG[i]? = none)
 (q:∀h' e,Heap.ExtBut j s.heap h'→(∃o,h'.get? e=some o∧o.cls = .type "StopIteration")→E (.ref e) {s with heap:=h'}):wpAny (model prog w) A (Builtin.SmallTypes.nextOf (.ref j)) Q E s:=by
 obtain⟨ob,g,gc,gd⟩:=id t1
 obtain⟨ol,gl,_,nl,dl⟩:=t2
 unfold Builtin.SmallTypes.nextOf
 refine wpAny_bind (wpAny_callSpecial?_slot (name:=Str.ofString "__next__") t1.typeIs F.slot_tuple_iterator_next (wpAny_call_entry F.slot_tuple_iterator_next t1.typeIs F.entry_tuple_iterator_next ?_ (F.args_tuple_iterator_next_1 _)))
 show wpAny _ _ (field (.ref j) 0 >>= _) _ _ s
 refine wpAny_bind (wpAny_field g gd (x:=.ref l) rfl ?_);rw [if_neg (show ¬((Value.ref l==Value.none)=true) from Bool.false_ne_true)]
 show wpAny _ _ (field (.ref j) 1 >>= _) _ _ s
 refine wpAny_bind (wpAny_field g gd (x:=.int i 0) rfl (show wpAny _ _ (seqItems? (.ref l) >>= _) _ _ s from wpAny_bind (wpAny_seqItems gl dl ?_)))
 simp only [ex,Int.toNat_natCast]
 refine wpAny_bind (wpAny_rule (wpAny_bind (wpAny_setField g gd (by simp) (show wpAny _ _ (newExc (.type "StopIteration") [] >>= _) _ _ _ from wpAny_bind ?_))))
 simp only [newTuple,newExc]
 refine wpAny_bind (wpAny_newObj_type (wpAny_bind (m:=firstArgMember _ _) (wpAny_of_eq (a:=Value.none) (by first|rfl|(simp only [firstArgMember];rfl)) (wpAny_newObj_type ?_ (by size_fits)))) (by size_fits))
 unfold raiseNew
 refine wpAny_bind (wpAny_handled (by (first|rw [show A.in1.handled=none from nh]|rw [nh]);exact wpAny_bind (wpAny_pure (wpAny_throw (q _ _ (((Heap.SameBut.update ..).extBut.push _).push _) ⟨_,Heap.get?_push_size _ rfl,rfl⟩)))))
end
theorem NV {prog:Program}{w:World}{A:Around} (nh:A.handled=none) (j l:Addr) (ne:l≠j) (aG:Array Value) :
 Draws prog w A j [j,l] aG.size (fun i v=>aG[i]? = some v) (fun i h=>h.IsTupleIter j l i∧h.IsTuple l aG) where
 live:=fun _ _ st=>let ⟨o,q,_⟩:=st.1;⟨o,q⟩
 frame:=fun _ _ _ st k=>⟨st.1.at fun o e=>k j (by simp) o e,let ⟨o,q,r⟩:=st.2;⟨o,k l (by simp) o q,r⟩⟩
 item:=fun i s Q E hi st q=>AU st.1 st.2 (x:=aG[i]) (by simp [hi]) fun h' a b=>q _ h' s.toks (by simp [hi]) ⟨a,st.2.extBut b.extBut ne⟩ b
 done:=fun s Q E st q=>ue nh st.1 st.2 (by simp) q
theorem Draws.map {prog:Program}{w:World}{A:Around}{j:Addr}{fp:List Addr}{n:Nat}{P P':Nat→Value→Prop}{St:Nat→Heap→Prop} (D:Draws prog w A j fp n P St) (h:∀i v,P i v→P' i v):Draws prog w A j fp n P' St where
 live:=D.live
 frame:=D.frame
 item:=fun i s Q E hi st q=>D.item i s Q E hi st fun x h' tk p=>q x h' tk (h _ _ p)
 done:=D.done
structure qF (z TI TO i1 i2:Addr) (f1 f2:List Addr):Prop where
 own:Ce z TI TO i1 i2
 m1:i1∈f1
 m2:i2∈f2
 z1:z∉f1
 z2:z∉f2
 t1:TO∉f1
 t2:TO∉f2
 x1:i2∉f1
 x2:i1∉f2
section
variable {prog : Program} {w : World} {A : Around} {E : Value→Shared→Prop} {s : Shared} {z TI TO i1 i2 : Addr} {f1 f2 : List Addr} {n1 n2 k : Nat} {P1 P2 : Nat→Value→Prop} {S1 S2 : Nat→Heap→Prop} {a b : Value}
theorem fr_but {h h':Heap}{c:Addr}{f:List Addr} (e:Heap.ExtBut c h h') (n:c∉f):∀b∈f,∀o,h.get? b=some o→h'.get? b=some o:=fun b hb o q=>e b o (fun y=>n (y▸hb)) q
theorem E4 {Q:Value→Shared→Prop} (ap:qF z TI TO i1 i2 f1 f2) (D1:Draws prog w A i1 f1 n1 P1 S1) (D2:Draws prog w A i2 f2 n2 P2 S2) (qz:IsZip s.heap z TI TO .none) (qI:IsPair s.heap TI (.ref i1) (.ref i2)) (qO:IsPair s.heap TO a b)
 (zm:S1 k s.heap) (sj:S2 k s.heap) (l1:k<n1) (l2:k<n2)
 (q:∀h' tk x y,P1 k x→P2 k y→IsZip h' z TI TO (rawInt s.heap.objs.size)→IsPair h' TO x y→S1 (k+1) h'→S2 (k+1) h'→IsPair h' s.heap.objs.size x y→
   (∀c o,c≠z→c≠TO→c≠i1→c≠i2→s.heap.get? c=some o→h'.get? c=some o)→Q (.ref s.heap.objs.size) {s with heap:=h',toks:=tk}) :
 wpAny (model prog w) A (Builtin.«zip.__next__» ⟨[.ref z],[]⟩) (fun fin s'=>∃v,fin = .done (.ret v)∧Q v s') E s:=by
 show wpAny _ _ (field (.ref z) 2 >>= _) _ _ _
 refine wpAny_bind (wpAny_field qz rfl (x:=.bool false) rfl (show wpAny _ _ (field (.ref z) 3 >>= _) _ _ _ from wpAny_bind (wpAny_field qz rfl (x:=.ref TI) rfl (wpAny_bind (wpAny_seqItems qI rfl ?_)))))
 show wpAny _ _ (Builtin.SmallTypes.ownedTupleIsFree (.ref z) >>= _) _ _ _
 unfold Builtin.SmallTypes.ownedTupleIsFree
 refine wpAny_bind (wpAny_bind (wpAny_field qz rfl (x:=.none) rfl (wpAny_pure ?_)))
 rw [if_pos rfl]
 refine wpAny_bind (wpAny_rule (wpAny_bind (wpAny_field qz rfl (x:=.ref TO) rfl (wpAny_bind (wpAny_setField_rec qz (by simp) fun h₁ z₁ b₁=>wpAny_bind ?_)))))
 replace z₁:IsZip h₁ z TI TO .ellipsis:=z₁
 simp only [List.forIn_nil,List.forIn_cons,List.zipIdx_nil,List.zipIdx_cons]
 refine wpAny_bind (wpAny_bind (wpAny_onRaise (show wpAny _ _ (Builtin.SmallTypes.nextOf (.ref i1) >>= _) _ _ _ from wpAny_bind (D1.item k _ _ _ l1 (D1.frame _ _ _ zm (fr_but b₁.extBut ap.z1)) fun x h₂ t₂ px s1 b₂=>wpAny_pure ?_))))
 have O₂:IsPair h₂ TO a b:=b₂.extBut _ _ ap.own.h (b₁.extBut _ _ ap.own.b qO)
 refine wpAny_bind (wpAny_seqItems O₂ rfl (wpAny_bind (wpAny_updateSeq_pair O₂ fun h₃ O₃ b₃=>wpAny_bind (wpAny_letGo (wpAny_pure ?_)))))
 replace O₃:IsPair h₃ TO x b:=O₃
 have NG:S2 k h₃:=D2.frame _ _ _ (D2.frame _ _ _ (D2.frame _ _ _ sj (fr_but b₁.extBut ap.z2)) (fr_but b₂.extBut ap.x2)) (fr_but b₃.extBut ap.t2)
 refine wpAny_bind (wpAny_bind (wpAny_onRaise (show wpAny _ _ (Builtin.SmallTypes.nextOf (.ref i2) >>= _) _ _ _ from wpAny_bind (D2.item k _ _ _ l2 NG fun y h₄ t₄ py s2 b₄=>wpAny_pure ?_))))
 have O₄:IsPair h₄ TO x b:=b₄.extBut _ _ ap.own.i O₃
 refine wpAny_bind (wpAny_seqItems O₄ rfl (wpAny_bind (wpAny_updateSeq_pair O₄ fun h₅ O₅ b₅=>wpAny_bind (wpAny_letGo (wpAny_pure (wpAny_pure ?_))))))
 replace O₅:IsPair h₅ TO x y:=O₅
 refine wpAny_bind (wpAny_seqItems O₅ rfl (wpAny_bind (wpAny_newTuple ?_)))
 have sz:h₅.objs.size=s.heap.objs.size:=by rw [b₅.1,b₄.1,b₃.1,b₂.1,b₁.1]
 have z₅:IsZip h₅ z TI TO .ellipsis:=b₅.extBut _ _ ap.own.b.symm (b₄.extBut _ _ ap.own.d.symm (b₃.extBut _ _ ap.own.b.symm (b₂.extBut _ _ ap.own.c.symm z₁)))
 have k₅:∀c o,c≠z→c≠TO→c≠i1→c≠i2→s.heap.get? c=some o→h₅.get? c=some o:=fun c o c1 c2 c3 c4 e=>b₅.extBut _ _ c2 (b₄.extBut _ _ c4 (b₃.extBut _ _ c2 (b₂.extBut _ _ c3 (b₁.extBut _ _ c1 e))))
 have e1:S1 (k+1) h₅:=D1.frame _ _ _ (D1.frame _ _ _ (D1.frame _ _ _ s1 (fr_but b₃.extBut ap.t1)) (fr_but b₄.extBut ap.x1)) (fr_but b₅.extBut ap.t1)
 have e2:S2 (k+1) h₅:=D2.frame _ _ _ s2 (fr_but b₅.extBut ap.t2)
 have zl:z<h₅.objs.size:=Heap.lt_size z₅
 show wpAny _ _ (Builtin.SmallTypes.ownedTupleHandOut (.ref z) (.ref h₅.objs.size) >>= _) _ _ _
 unfold Builtin.SmallTypes.ownedTupleHandOut
 refine wpAny_bind (wpAny_bind (wpAny_setField_rec (show IsZip (h₅.push {cls:=.type "tuple",data:=.seq #[x,y]}) z TI TO .ellipsis from Heap.get?_push_of_some _ z₅) (by simp) fun h₇ z₇ b₇=>?_))
 replace z₇:IsZip h₇ z TI TO (rawInt h₅.objs.size):=z₇
 refine wpAny_setField_rec z₇ (by simp) fun h₈ z₈ b₈=>wpAny_pure ⟨_,rfl,?_⟩
 replace z₈:IsZip h₈ z TI TO (rawInt h₅.objs.size):=z₈
 have up:∀c o,c≠z→h₅.get? c=some o→h₈.get? c=some o:=fun c o c1 e=>b₈.extBut _ _ c1 (b₇.extBut _ _ c1 (Heap.get?_push_of_some _ e))
 have T₈:IsPair h₈ h₅.objs.size x y:=b₈.extBut _ _ (Nat.ne_of_gt zl) (b₇.extBut _ _ (Nat.ne_of_gt zl) (Heap.get?_push_size _ rfl))
 rw [sz] at z₈ T₈
 show Q (.ref h₅.objs.size) _
 rw [sz]
 exact q h₈ _ x y px py z₈ (up _ _ ap.own.b O₅) (D1.frame _ _ _ e1 fun c hc o e=>up c o (fun y=>ap.z1 (y▸hc)) e) (D2.frame _ _ _ e2 fun c hc o e=>up c o (fun y=>ap.z2 (y▸hc)) e) T₈ fun c o c1 c2 c3 c4 e=>up c o c1 (k₅ c o c1 c2 c3 c4 e)
theorem Il {Q:Fin→Shared→Prop} (ap:qF z TI TO i1 i2 f1 f2) (D1:Draws prog w A i1 f1 n1 P1 S1) (D2:Draws prog w A i2 f2 n2 P2 S2) (qz:IsZip s.heap z TI TO .none) (qI:IsPair s.heap TI (.ref i1) (.ref i2)) (qO:IsPair s.heap TO a b)
 (zm:S1 k s.heap) (sj:S2 k s.heap) (fin:n1=k∨k<n1∧n2=k)
 (q:∀h' tk e,(∀c o,c≠z→c≠TO→c≠i1→c≠i2→s.heap.get? c=some o→h'.get? c=some o)→(∃o,h'.get? e=some o∧o.cls = .type "StopIteration")→E (.ref e) {s with heap:=h',toks:=tk}) :
 wpAny (model prog w) A (Builtin.«zip.__next__» ⟨[.ref z],[]⟩) Q E s:=by
 show wpAny _ _ (field (.ref z) 2 >>= _) _ _ _
 refine wpAny_bind (wpAny_field qz rfl (x:=.bool false) rfl (show wpAny _ _ (field (.ref z) 3 >>= _) _ _ _ from wpAny_bind (wpAny_field qz rfl (x:=.ref TI) rfl (wpAny_bind (wpAny_seqItems qI rfl ?_)))))
 show wpAny _ _ (Builtin.SmallTypes.ownedTupleIsFree (.ref z) >>= _) _ _ _
 unfold Builtin.SmallTypes.ownedTupleIsFree
 refine wpAny_bind (wpAny_bind (wpAny_field qz rfl (x:=.none) rfl (wpAny_pure ?_)))
 rw [if_pos rfl]
 refine wpAny_bind (wpAny_rule (wpAny_bind (wpAny_field qz rfl (x:=.ref TO) rfl (wpAny_bind (wpAny_setField_rec qz (by simp) fun h₁ z₁ b₁=>wpAny_bind ?_)))))
 replace z₁:IsZip h₁ z TI TO .ellipsis:=z₁
 simp only [List.forIn_nil,List.forIn_cons,List.zipIdx_nil,List.zipIdx_cons]
 have RT:S1 k h₁:=D1.frame _ _ _ zm (fr_but b₁.extBut ap.z1)
 rcases fin with rfl|⟨l1,rfl⟩
 · refine wpAny_bind (wpAny_bind (wpAny_onRaise (show wpAny _ _ (Builtin.SmallTypes.nextOf (.ref i1) >>= _) _ _ _ from wpAny_bind (D1.done _ _ _ RT fun h₂ e b₂ he=>?_))))
   obtain⟨oe,g1,g2⟩:=he
   have z₂:IsZip h₂ z TI TO .ellipsis:=b₂ _ _ ap.own.c.symm z₁
   have ne:e≠z:=fun y=>by rw [y,z₂] at g1;cases g1;simp at g2
   exact wpAny_setField_rec z₂ (by simp) fun h₃ _ b₃=>q h₃ s.toks e (fun c o c1 _ c3 _ y=>b₃.extBut _ _ c1 (b₂ _ _ c3 (b₁.extBut _ _ c1 y))) ⟨oe,b₃.extBut _ _ ne g1,g2⟩
 · refine wpAny_bind (wpAny_bind (wpAny_onRaise (show wpAny _ _ (Builtin.SmallTypes.nextOf (.ref i1) >>= _) _ _ _ from wpAny_bind (D1.item n2 _ _ _ l1 RT fun x h₂ t₂ px s1 b₂=>wpAny_pure ?_))))
   have O₂:IsPair h₂ TO a b:=b₂.extBut _ _ ap.own.h (b₁.extBut _ _ ap.own.b qO)
   refine wpAny_bind (wpAny_seqItems O₂ rfl (wpAny_bind (wpAny_updateSeq_pair O₂ fun h₃ O₃ b₃=>wpAny_bind (wpAny_letGo (wpAny_pure ?_)))))
   have NG:S2 n2 h₃:=D2.frame _ _ _ (D2.frame _ _ _ (D2.frame _ _ _ sj (fr_but b₁.extBut ap.z2)) (fr_but b₂.extBut ap.x2)) (fr_but b₃.extBut ap.t2)
   refine wpAny_bind (wpAny_bind (wpAny_onRaise (show wpAny _ _ (Builtin.SmallTypes.nextOf (.ref i2) >>= _) _ _ _ from wpAny_bind (D2.done _ _ _ NG fun h₄ e b₄ he=>?_))))
   obtain⟨oe,g1,g2⟩:=he
   have z₄:IsZip h₄ z TI TO .ellipsis:=b₄ _ _ ap.own.d.symm (b₃.extBut _ _ ap.own.b.symm (b₂.extBut _ _ ap.own.c.symm z₁))
   have ne:e≠z:=fun y=>by rw [y,z₄] at g1;cases g1;simp at g2
   exact wpAny_setField_rec z₄ (by simp) fun h₅ _ b₅=>q h₅ _ e (fun c o c1 c2 c3 c4 y=>b₅.extBut _ _ c1 (b₄ _ _ c4 (b₃.extBut _ _ c2 (b₂.extBut _ _ c3 (b₁.extBut _ _ c1 y))))) ⟨oe,b₅.extBut _ _ ne g1,g2⟩
theorem zg {Q:Option Value→Shared→Prop} (ap:qF z TI TO i1 i2 f1 f2) (D1:Draws prog w A.in1 i1 f1 n1 P1 S1) (D2:Draws prog w A.in1 i2 f2 n2 P2 S2) (qz:IsZip s.heap z TI TO .none) (qI:IsPair s.heap TI (.ref i1) (.ref i2)) (qO:IsPair s.heap TO a b)
 (zm:S1 k s.heap) (sj:S2 k s.heap) (l1:k<n1) (l2:k<n2)
 (q:∀h' tk x y,P1 k x→P2 k y→IsZip h' z TI TO (rawInt s.heap.objs.size)→IsPair h' TO x y→S1 (k+1) h'→S2 (k+1) h'→IsPair h' s.heap.objs.size x y→
   (∀c o,c≠z→c≠TO→c≠i1→c≠i2→s.heap.get? c=some o→h'.get? c=some o)→Q (some (.ref s.heap.objs.size)) {s with heap:=h',toks:=tk}) :
 wpAny (model prog w) A (pyNext (.ref z)) Q E s:=by
 have ht:s.TypeIs (.ref z) "zip":=⟨_,qz,rfl⟩
 unfold pyNext
 exact wpAny_bind (wpAny_attempt (wpAny_callSpecial?_slot (name:=Str.ofString "__next__") ht F.slot_zip_next (wpAny_call_entry F.slot_zip_next ht F.entry_zip_next (E4 ap D1 D2 qz qI qO zm sj l1 l2 fun h' tk x y p1 p2 a1 a2 a3 a4 a5 a6=>wpAny_pure (q h' tk x y p1 p2 a1 a2 a3 a4 a5 a6)) (F.args_zip_next_1 _))))
theorem sA {Q:Option Value→Shared→Prop} (ap:qF z TI TO i1 i2 f1 f2) (D1:Draws prog w A.in1 i1 f1 n1 P1 S1) (D2:Draws prog w A.in1 i2 f2 n2 P2 S2) (qz:IsZip s.heap z TI TO .none) (qI:IsPair s.heap TI (.ref i1) (.ref i2)) (qO:IsPair s.heap TO a b)
 (zm:S1 k s.heap) (sj:S2 k s.heap) (fin:n1=k∨k<n1∧n2=k)
 (q:∀h' tk,(∀c o,c≠z→c≠TO→c≠i1→c≠i2→s.heap.get? c=some o→h'.get? c=some o)→Q none {s with heap:=h',toks:=tk}):wpAny (model prog w) A (pyNext (.ref z)) Q E s:=by
 have ht:s.TypeIs (.ref z) "zip":=⟨_,qz,rfl⟩
 unfold pyNext
 refine wpAny_bind (wpAny_attempt (wpAny_callSpecial?_slot (name:=Str.ofString "__next__") ht F.slot_zip_next (wpAny_call_entry F.slot_zip_next ht F.entry_zip_next (Il ap D1 D2 qz qI qO zm sj fin fun h' tk e hk he=>?_) (F.args_zip_next_1 _))))
 obtain⟨o,g1,g2⟩:=he
 exact wpAny_bind (wpAny_isInstance (T:="StopIteration") (b:=true) ⟨o,g1,g2⟩ isSubtype_stop (wpAny_pure (q _ tk hk)))
end
inductive Kd where
 | l (a:Addr)
 | t (a:Addr)
 | s (x:Str)
noncomputable def Kd.v:Kd→V
 | .l a=>.ref a
 | .t a=>.ref a
 | .s x=>.str x
noncomputable def xb (x:Str):List V:=x.cps.toList.map fun c=>V.str ⟨#[c]⟩
noncomputable def Kd.has (K:PySem.W.Frag) (H:Hp):Kd→List V→Prop
 | .l a,xs=>fQ K H a xs
 | .t a,xs=>jE K H a xs
 | .s x,xs=>xs=xb x
noncomputable def Kd.it (j:Addr) (i:Nat) (h:Heap):Kd→Prop
 | .l a=>h.IsListIter j a i
 | .t a=>h.IsTupleIter j a i
 | .s x=>∃t,h.IsStrIter j (strIterType x) x t i
theorem Kd.DR {j:Addr}{i:Nat}{h h':Heap} (p:Kd) (x:p.it j i h) (e:∀o,h.get? j=some o→h'.get? j=some o):p.it j i h':=by
 cases p with
 | l a=>exact Heap.IsListIter.at x e
 | t a=>exact Heap.IsTupleIter.at x e
 | s z=>obtain⟨t,o,q,r⟩:=x;exact⟨t,o,e o q,r⟩
theorem Kd.x5 {j:Addr}{i:Nat}{h:Heap} (p:Kd) (x:p.it j i h):∃o,h.get? j=some o∧∀v,o.data ≠ .cell v:=by
 cases p with
 | l a=>obtain⟨o,q,_,d⟩:=x;exact⟨o,q,fun v z=>by rw [d] at z;cases z⟩
 | t a=>obtain⟨o,q,_,d⟩:=x;exact⟨o,q,fun v z=>by rw [d] at z;cases z⟩
 | s z=>obtain⟨t,o,q,_,d⟩:=x;exact⟨o,q,fun v z=>by rw [d] at z;cases z⟩
theorem QM {X:Cx}{pins:List (Addr×Obj)}{σ:St}{H:Hp}{s:Shared}{a b:Addr}{o:Obj} (I:Inv X pins σ H s) (hk:X.K.lookup a=some o) (f:eX X pins H b):a≠b:=fun e=>by
 subst e
 have hb:=I.ok.mod.Qx a o hk
 rcases f.2.2.2.1 with z|z
 · exact I.ok.uC a o hb z
 · exact absurd (Nat.lt_of_lt_of_le (Heap.lt_size hb) (Nat.le_trans I.ok.Bo z)) (Nat.lt_irrefl _)
theorem Mq {X:Cx}{pins:List (Addr×Obj)}{H:Hp}{a b:Addr}{u:HO} (r:Rd H a u) (f:eX X pins H b):a≠b:=fun e=>by
 have:=f.1
 rcases r with r|⟨o,r⟩<;>(rw [e,this] at r;cases r)
theorem Kd.draws {X:Cx}{pins:List (Addr×Obj)}{σ:St}{H:Hp}{s:Shared}{j:Addr}{xs:List V} (p:Kd) (I:Inv X pins σ H s) (hc:X.calm=true) (hp:p.has X.K H xs) (fj:eX X pins H j) {i0:Nat} (st:p.it j i0 s.heap) :
 ∃fp P S,Draws X.prog X.w X.A.in1 j fp xs.length P S∧S i0 s.heap∧(∀i h',S i h'→p.it j i h')∧(∀i v,P i v→∃x,xs[i]? = some x∧RelV x v)∧j∈fp∧∀b,eX X pins H b→b≠j→b∉fp:=by
 have nh:X.A.in1.handled=none:=I.ok.hd hc
 cases p with
 | l a=>
  obtain⟨aG,rv,pl,hz⟩:=I.list hp
  have IV:∀b,eX X pins H b→a≠b:=fun b f=>by
   rcases hp with r|⟨o,_,_,hk,_⟩
   · exact Mq r f
   · exact QM I hk f
  have e:aG.toArray.size=xs.length:=by rw [List.size_toArray];exact rv.length.symm
  refine⟨[j,a],_,_,e▸Draws.list nh j a (IV j fj) aG.toArray,⟨st,pl.isList⟩,fun i h' h=>h.1,fun i v h=>?_,by simp,fun b f nb hb=>?_⟩
  · have h:aG[i]? = some v:=by simpa using h
    have hi:i<xs.length:=by have:=(List.getElem?_eq_some_iff.mp h).1;rw [rv.length];exact this
    obtain⟨u,hu,ru⟩:=rv.get (List.getElem?_eq_getElem hi)
    rw [h] at hu;cases hu
    exact⟨_,List.getElem?_eq_getElem hi,ru⟩
  · simp only [List.mem_cons,List.not_mem_nil,or_false] at hb
    rcases hb with hb|hb
    · exact nb hb
    · exact IV b f hb.symm
 | t a=>
  obtain⟨aG,rv,pl,hz⟩:=I.tuple hp
  have IV:∀b,eX X pins H b→a≠b:=fun b f=>by
   rcases hp with r|⟨o,_,_,hk,_⟩
   · exact Mq r f
   · exact QM I hk f
  have e:aG.toArray.size=xs.length:=by rw [List.size_toArray];exact rv.length.symm
  refine⟨[j,a],_,_,e▸NV nh j a (IV j fj) aG.toArray,⟨st,pl⟩,fun i h' h=>h.1,fun i v h=>?_,by simp,fun b f nb hb=>?_⟩
  · have h:aG[i]? = some v:=by simpa using h
    have hi:i<xs.length:=by have:=(List.getElem?_eq_some_iff.mp h).1;rw [rv.length];exact this
    obtain⟨u,hu,ru⟩:=rv.get (List.getElem?_eq_getElem hi)
    rw [h] at hu;cases hu
    exact⟨_,List.getElem?_eq_getElem hi,ru⟩
  · simp only [List.mem_cons,List.not_mem_nil,or_false] at hb
    rcases hb with hb|hb
    · exact nb hb
    · exact IV b f hb.symm
 | s z=>
  have hp:xs=xb z:=hp
  have e:z.cps.size=xs.length:=by rw [hp];simp [xb]
  have pt:∀(i:Nat) (v:Value),(∃(c:Nat) (u:Tok),z.cps[i]? = some c∧v=Value.str ⟨#[c]⟩ u)→∃x,xs[i]? = some x∧RelV x v:=fun i v h=>by
   obtain⟨c,u,h1,h2⟩:=h
   refine⟨.str ⟨#[c]⟩,?_,⟨u,h2⟩⟩
   rw [hp]
   simp only [xb,List.getElem?_map,Array.getElem?_toList,h1,Option.map_some]
  obtain⟨t,st⟩:=st
  cases ha:z.cps.all (· < 128) with
  | true=>
   have et:strIterType z="str_ascii_iterator":=by simp [strIterType,ha]
   rw [et] at st
   refine⟨[j],_,_,e▸Draws.strAscii nh j z t,st,fun i h' h=>⟨t,by rw [et];exact h⟩,pt,by simp,fun b f nb hb=>nb (by simpa using hb)⟩
  | false=>
   have et:strIterType z="str_iterator":=by simp [strIterType,ha]
   rw [et] at st
   refine⟨[j],_,_,e▸Draws.strWide nh j z t,st,fun i h' h=>⟨t,by rw [et];exact h⟩,pt,by simp,fun b f nb hb=>nb (by simpa using hb)⟩
theorem Kd.DI {X:Cx}{pins:List (Addr×Obj)}{σ:St}{H:Hp}{s:Shared}{xs ys:List V} (p:Kd) (I:Inv X pins σ H s) (h1:p.has X.K H xs) (h2:p.has X.K H ys):xs=ys:=by
 cases p with
 | l a=>exact I.zN h1 h2
 | t a=>exact I.vY h1 h2
 | s z=>exact Eq.trans h1 (Eq.symm h2)
noncomputable def Itk (K:PySem.W.Frag) (p q:Kd):It:=⟨fun i H=>∃xs ys,p.has K H xs∧q.has K H ys∧i<xs.length∧i<ys.length,
 fun i H x H'=>∃T y z,x = .ref T∧H T=none∧H'=upd H T (.tup [y,z])∧(∀ys,p.has K H ys→ys[i]? = some y)∧∀ys,q.has K H ys→ys[i]? = some z,
 fun i H=>∃xs ys,p.has K H xs∧q.has K H ys∧(xs.length=i∨i<xs.length∧ys.length=i)⟩
theorem El {P:Program}{w:World}{K:PySem.W.Frag}{elts:List Expr}{n:Nat}{ps:Pos} (p q:Kd) (z TI TO i1 i2:Addr) (ap:Ce z TI TO i1 i2):Turn P w K (.Tuple elts n ps) (Itk K p q) [z,TI,TO,i1,i2] z
 (fun i h=>IsZip h z TI TO .none∧IsPair h TI (.ref i1) (.ref i2)∧(∃u v,IsPair h TO u v)∧p.it i1 i h∧q.it i2 i h) where
 mem:=by simp
 obj:=fun i h st c hc=>by
  obtain⟨s1,s2,⟨u,v,s3⟩,s4,s5⟩:=st
  simp only [List.mem_cons,List.not_mem_nil,or_false] at hc
  rcases hc with rfl|rfl|rfl|rfl|rfl
  · exact⟨_,s1,fun v z=>by
     have z':Data.fields _=Data.cell v:=z
     cases z'⟩
  · exact⟨_,s2,fun v z=>by
     have z':Data.seq _=Data.cell v:=z
     cases z'⟩
  · exact⟨_,s3,fun v z=>by
     have z':Data.seq _=Data.cell v:=z
     cases z'⟩
  · exact p.x5 s4
  · exact q.x5 s5
 keep:=fun i h h' st k=>by
  obtain⟨s1,s2,⟨u,v,s3⟩,s4,s5⟩:=st
  exact⟨k _ (by simp) _ s1,k _ (by simp) _ s2,⟨u,v,k _ (by simp) _ s3⟩,p.DR s4 fun o e=>k _ (by simp) o e,q.DR s5 fun o e=>k _ (by simp) o e⟩
 item:=by
  intro X hP hw hK hc i pins s σ H E I hf st hg
  subst hP hw hK
  obtain⟨s1,s2,⟨u0,v0,s3⟩,s4,s5⟩:=st
  obtain⟨xs,ys,hx,hy,lx,ly⟩:=hg
  obtain⟨f1,P1,S1,D1,d1,b1,v1,m1,n1⟩:=p.draws I hc hx (hf i1 (by simp)) s4
  obtain⟨f2,P2,S2,D2,d2,b2,v2,m2,n2⟩:=q.draws I hc hy (hf i2 (by simp)) s5
  have za:qF z TI TO i1 i2 f1 f2:=⟨ap,m1,m2,n1 z (hf z (by simp)) ap.c.symm,n2 z (hf z (by simp)) ap.d.symm,n1 TO (hf TO (by simp)) ap.h,n2 TO (hf TO (by simp)) ap.i,n1 i2 (hf i2 (by simp)) ap.j.symm,n2 i1 (hf i1 (by simp)) ap.j⟩
  have hob:∀c∈[z,TI,TO,i1,i2],∃o,s.heap.get? c=some o:=fun c hc=>by
   simp only [List.mem_cons,List.not_mem_nil,or_false] at hc
   rcases hc with rfl|rfl|rfl|rfl|rfl
   · exact⟨_,s1⟩
   · exact⟨_,s2⟩
   · exact⟨_,s3⟩
   · obtain⟨o,e,_⟩:=p.x5 s4;exact⟨o,e⟩
   · obtain⟨o,e,_⟩:=q.x5 s5;exact⟨o,e⟩
  refine zg za D1 D2 s1 s2 s3 d1 d2 lx ly fun h1 tk u v p1 p2 g1 g2 g3 g4 g5 g7=>?_
  obtain⟨x,ex,ru⟩:=v1 i u p1
  obtain⟨y,ey,rv⟩:=v2 i v p2
  refine⟨_,rfl,wpAny_letOwnedTupleGo_zip (s:={s with heap:=h1,toks:=tk}) g1 fun h2 t1 t2=>?_⟩
  have hT:s.heap.objs.size≠z:=Nat.ne_of_gt (Heap.lt_size s1)
  obtain⟨I2,f2⟩:=Gw (t':=tk) (h':=h2) (x:=x) (y:=y) (u:=u) (v:=v) I ru rv hf hob (by rw [t2.2 _ hT];exact g5) (fun c o hb e=>by
   simp only [List.mem_cons,List.not_mem_nil,or_false,not_or] at hb
   rw [t2.2 _ hb.1];exact g7 c o hb.1 hb.2.2.1 hb.2.2.2.1 hb.2.2.2.2 e)
  refine⟨.ref s.heap.objs.size,_,I2,rfl,⟨_,x,y,rfl,I.aX.fresh (Nat.le_refl _),rfl,fun ys' h'=>by rw [p.DI I h' hx];exact ex,fun ys' h'=>by rw [q.DI I h' hy];exact ey⟩,⟨t1,?_,⟨u,v,?_⟩,?_,?_⟩,fun b hb=>(f2 b hb).1⟩
  · show h2.get? TI=_
    rw [t2.2 _ ap.a];exact g7 TI _ ap.a ap.e ap.f ap.g s2
  · show h2.get? TO=_
    rw [t2.2 _ ap.b];exact g2
  · exact p.DR (b1 _ _ g3) fun o e=>by rw [t2.2 _ ap.c];exact e
  · exact q.DR (b2 _ _ g4) fun o e=>by rw [t2.2 _ ap.d];exact e
 done:=by
  intro X hP hw hK hc i pins s σ H E I hf st hg
  subst hP hw hK
  obtain⟨s1,s2,⟨u0,v0,s3⟩,s4,s5⟩:=st
  obtain⟨xs,ys,hx,hy,fin⟩:=hg
  obtain⟨f1,P1,S1,D1,d1,b1,v1,m1,n1⟩:=p.draws I hc hx (hf i1 (by simp)) s4
  obtain⟨f2,P2,S2,D2,d2,b2,v2,m2,n2⟩:=q.draws I hc hy (hf i2 (by simp)) s5
  have za:qF z TI TO i1 i2 f1 f2:=⟨ap,m1,m2,n1 z (hf z (by simp)) ap.c.symm,n2 z (hf z (by simp)) ap.d.symm,n1 TO (hf TO (by simp)) ap.h,n2 TO (hf TO (by simp)) ap.i,n1 i2 (hf i2 (by simp)) ap.j.symm,n2 i1 (hf i1 (by simp)) ap.j⟩
  refine sA za D1 D2 s1 s2 s3 d1 d2 fin fun h' tk eb=>⟨rfl,Dw (fp:=[z,TI,TO,i1,i2]) (t':=tk) I (fun c o hb e=>?_) hf⟩
  simp only [List.mem_cons,List.not_mem_nil,or_false,not_or] at hb
  exact eb c o hb.1 hb.2.2.1 hb.2.2.2.1 hb.2.2.2.2 e
 self:=fun _ _ _ _ _ st h=>wpAny_pyIter_zip st.1 h
noncomputable def Kd.val (t:Tok):Kd→Value
 | .l a=>.ref a
 | .t a=>.ref a
 | .s x=>.str x t
noncomputable def Kd.obj (t:Tok):Kd→Obj
 | .l a=>{cls:=.type "list_iterator",data:=.fields #[.ref a,.int 0 0]}
 | .t a=>{cls:=.type "tuple_iterator",data:=.fields #[.ref a,.int 0 0]}
 | .s x=>{cls:=.type (strIterType x),data:=.fields #[.str x t,.int 0 0]}
noncomputable def Kd.Mr (h:Heap):Kd→Prop
 | .l a=>∃aG,h.IsList a aG
 | .t a=>∃aG,h.IsTuple a aG
 | .s _=>True
theorem Kd.HV {h:Heap} (p:Kd) (o:Obj) (e:p.Mr h):p.Mr (h.push o):=by
 cases p with
 | l a=>obtain⟨i,e⟩:=e;exact⟨i,e.push o⟩
 | t a=>obtain⟨i,e⟩:=e;exact⟨i,e.push o⟩
 | s x=>trivial
theorem Kd.iter {prog:Program}{w:World}{A:Around}{E:Value→Shared→Prop}{s:Shared}{Q:Value→Shared→Prop}{t:Tok} (p:Kd) (e:p.Mr s.heap)
 (q:Q (.ref s.heap.objs.size) {s with heap:=s.heap.push (p.obj t)}):wpAny (model prog w) A (pyIter (p.val t)) Q E s:=by
 cases p with
 | l a=>obtain⟨i,e⟩:=e;exact wpAny_pyIter_list e q
 | t a=>obtain⟨i,e⟩:=e;exact wpAny_pyIter_tuple e q
 | s x=>exact wpAny_pyIter_strU q
theorem Ij (p1 p2:Kd) (t1 t2:Tok):Meets (Builtin.«zip.__new__» ⟨[.type "zip",p1.val t1,p2.val t2],[]⟩) (fun _ R s=>p1.Mr s.heap∧p2.Mr s.heap∧
 ∀g1 g2 g3 g4 g5:Heap,g1=s.heap.push (p1.obj t1)→g2=g1.push (p2.obj t2)→g3=g2.push {cls:=.type "tuple",data:=.seq #[.ref s.heap.objs.size,.ref g1.objs.size]}→g4=g3.push {cls:=.type "tuple",data:=.seq #[.none,.none]}→
  g5=g4.push {cls:=.type "zip",data:=.fields #[.none,.bool false,.bool false,.ref g2.objs.size,.ref g3.objs.size]}→R (.ok (.ret (.ref g4.objs.size))) {s with heap:=g5}):=
 .of_wp fun prog w A R s h=>by
  obtain⟨hp,g,d,tk,os⟩:=s;obtain⟨l1,l2,h⟩:=h
  have sb:=sub_zip
  have h:=h _ _ _ _ _ rfl rfl rfl rfl rfl
  wp_walk using (Kd.iter p1 (t:=t1) (s:=⟨hp,g,d,tk,os⟩) l1),(Kd.iter p2 (t:=t2) (s:=⟨hp.push (p1.obj t1),g,d,tk,os⟩) (p2.HV _ l2))
  exact⟨_,rfl,h⟩
theorem Fe {prog:Program}{w:World}{A:Around}{E:Value→Shared→Prop}{s:Shared}{Q:Value→Shared→Prop}{t1 t2:Tok} (p1 p2:Kd) (l1:p1.Mr s.heap) (l2:p2.Mr s.heap)
 (h:∀h',IsZip h' (s.heap.objs.size+4) (s.heap.objs.size+2) (s.heap.objs.size+3) .none→IsPair h' (s.heap.objs.size+2) (.ref s.heap.objs.size) (.ref (s.heap.objs.size+1))→IsPair h' (s.heap.objs.size+3) .none .none→
   h'.get? s.heap.objs.size=some (p1.obj t1)→h'.get? (s.heap.objs.size+1)=some (p2.obj t2)→(∀c o,s.heap.get? c=some o→h'.get? c=some o)→Q (.ref (s.heap.objs.size+4)) {s with heap:=h'}) :
 wpAny (model prog w) A (call (.type "zip") [p1.val t1,p2.val t2]) Q E s:=by
 refine callType_new F.called_zip (by decide) (F.typeCall_zip_2 _ _) (F.newCall_zip_2 _ _) (fun obj=>F.args_object_init_3 obj _ _) F.entry_zip_new (Ij p1 p2 t1 t2) ⟨l1,l2,?_⟩
 intro g1 g2 g3 g4 g5 e1 e2 e3 e4 e5
 have z1:g1.objs.size=s.heap.objs.size+1:=by rw [e1];exact Heap.size_push ..
 have z2:g2.objs.size=s.heap.objs.size+2:=by rw [e2,Heap.size_push,z1]
 have z3:g3.objs.size=s.heap.objs.size+3:=by rw [e3,Heap.size_push,z2]
 have z4:g4.objs.size=s.heap.objs.size+4:=by rw [e4,Heap.size_push,z3]
 have u5:∀{c o},g4.get? c=some o→g5.get? c=some o:=fun q=>by rw [e5];exact Heap.get?_push_of_some _ q
 have u4:∀{c o},g3.get? c=some o→g4.get? c=some o:=fun q=>by rw [e4];exact Heap.get?_push_of_some _ q
 have u3:∀{c o},g2.get? c=some o→g3.get? c=some o:=fun q=>by rw [e3];exact Heap.get?_push_of_some _ q
 have u2:∀{c o},g1.get? c=some o→g2.get? c=some o:=fun q=>by rw [e2];exact Heap.get?_push_of_some _ q
 have w5:g5.get? (s.heap.objs.size+4)=some {cls:=.type "zip",data:=.fields #[.none,.bool false,.bool false,.ref (s.heap.objs.size+2),.ref (s.heap.objs.size+3)]}:=by
  rw [←z4,←z3,←z2,e5];exact Heap.get?_push_size _ rfl
 have w4:g4.get? (s.heap.objs.size+3)=some {cls:=.type "tuple",data:=.seq #[.none,.none]}:=by rw [←z3,e4];exact Heap.get?_push_size _ rfl
 have w3:g3.get? (s.heap.objs.size+2)=some {cls:=.type "tuple",data:=.seq #[.ref s.heap.objs.size,.ref (s.heap.objs.size+1)]}:=by rw [←z2,←z1,e3];exact Heap.get?_push_size _ rfl
 have w2:g2.get? (s.heap.objs.size+1)=some (p2.obj t2):=by rw [←z1,e2];exact Heap.get?_push_size _ (by cases p2<;>rfl)
 have w1:g1.get? s.heap.objs.size=some (p1.obj t1):=by rw [e1];exact Heap.get?_push_size _ (by cases p1<;>rfl)
 show _∧_
 rw [z4]
 exact⟨⟨_,w5,rfl⟩,h g5 w5 (u5 (u4 w3)) (u5 w4) (u5 (u4 (u3 (u2 w1)))) (u5 (u4 (u3 w2))) fun c o q=>u5 (u4 (u3 (u2 (by rw [e1];exact Heap.get?_push_of_some _ q))))⟩
theorem Kd.it0 {j:Addr}{h:Heap}{t:Tok} (p:Kd) (e:h.get? j=some (p.obj t)):p.it j 0 h:=by
 cases p with
 | l a=>exact⟨_,e,rfl,rfl⟩
 | t a=>exact⟨_,e,rfl,rfl⟩
 | s x=>exact⟨t,_,e,rfl,rfl⟩
theorem Kd.Ii {X:Cx}{pins:List (Addr×Obj)}{σ:St}{H:Hp}{s:Shared}{xs:List V} (p:Kd) (I:Inv X pins σ H s) (h:p.has X.K H xs):p.Mr s.heap:=by
 cases p with
 | l a=>obtain⟨aG,_,pl,_⟩:=I.list h;exact⟨_,pl.isList⟩
 | t a=>obtain⟨aG,_,pl,_⟩:=I.tuple h;exact⟨_,pl⟩
 | s x=>trivial
theorem Kd.FJ {u:Value} (p:Kd) (r:RelV p.v u):∃t,u=p.val t:=by
 cases p with
 | l a=>cases r;exact⟨0,rfl⟩
 | t a=>cases r;exact⟨0,rfl⟩
 | s x=>obtain⟨t,r⟩:=r;exact⟨t,r⟩
noncomputable def r9 (K:PySem.W.Frag) (x y:V) (H:Hp) (R:It→Hp→Prop):Prop:=∃p q:Kd,x=p.v∧y=q.v∧(∃xs,p.has K H xs)∧(∃xs,q.has K H xs)∧R (Itk K p q) H
noncomputable def Ma (K:PySem.W.Frag) (ta:TA):TI:=fun σ H R=>ta σ H fun vs H1=>∃x y,vs=[x,y]∧r9 K x y H1 R
theorem yd {K:PySem.W.Frag}{ta:TA}{σ:St}{H:Hp}{R:It→Hp→Prop}:Ma K ta σ H R=(ta σ H fun vs H1=>∃x y,vs=[x,y]∧r9 K x y H1 R):=(rfl)
theorem C2 {X:Cx}{K:PySem.W.Frag}{elts:List Expr}{n:Nat}{ps:Pos}{a b:Expr}{ta:TA}{p pos:Pos} (hK:X.K=K) (hg:Gl X "zip") (hm:X.mg "zip"=none) (ha:PA X [a,b] ta) (hs:starEach [a,b] X.env=[(false,eval a X.env),(false,eval b X.env)]:=by rfl) (jf:starEach [b] X.env=[(false,eval b X.env)]:=by rfl):PI X (.Tuple elts n ps) (.Call (.Name "zip" p) [a,b] [] pos) (Ma K ta):=by
 intro pins s σ H R I h
 subst hK
 refine Call_ (tH I hg hm boot_zip (PyProof.Rows.callWith_type1 (ck (ha pos pins s σ H _ I h) fun us s1 ⟨vs,H1,I1,r1,q1⟩=>?_) (by rw [hs,jf]) (by rw [jf];rfl)))
 obtain⟨x,y,rfl,p,q,rfl,rfl,⟨xs,hx⟩,⟨ys,hy⟩,qq⟩:=q1
 cases r1 with
 | cons r rr=>
 cases rr with
 | cons r' rr=>
 cases rr
 obtain⟨t1,rfl⟩:=p.FJ r
 obtain⟨t2,rfl⟩:=q.FJ r'
 refine Fe p q (p.Ii I1 hx) (q.Ii I1 hy) fun h' g1 g2 g3 g4 g5 g7=>wpAny_pyIter_zip g1 ?_
 have I2:Inv X pins σ H1 {s1 with heap:=h'}:=I1.kept (t':=s1.toks) g7
 refine⟨_,[s1.heap.objs.size+4,s1.heap.objs.size+2,s1.heap.objs.size+3,s1.heap.objs.size,s1.heap.objs.size+1],_,Itk X.K p q,H1,rfl,I2,El p q (s1.heap.objs.size+4) (s1.heap.objs.size+2) (s1.heap.objs.size+3) s1.heap.objs.size (s1.heap.objs.size+1) (ne5 _),⟨g1,g2,⟨_,_,g3⟩,p.it0 g4,q.it0 g5⟩,fun e he=>?_,qq⟩
 have he:s1.heap.objs.size≤e:=by
  simp only [List.mem_cons,List.not_mem_nil,or_false] at he
  rcases he with rfl|rfl|rfl|rfl|rfl<;>omega
 exact I1.sv he (I1.aX.fresh he)
theorem r9.Df {K:PySem.W.Frag}{p q:Kd}{xs ys:List V}{g:TG}{tb:TS}{D:Ends}{σ:St}{H:Hp} (e:p.has K H xs) (e2:q.has K H ys) (cU:xs.length=ys.length) (Pv:Nat→St→Hp→Prop) (h0:Pv 0 σ H) (hl:∀i σ H,i≤xs.length→Pv i σ H→p.has K H xs∧q.has K H ys)
 (hs:∀i x y σ H T H',xs[i]? = some x→ys[i]? = some y→Pv i σ H→av H H'→H T=none→H' T=some (.tup [x,y])→g (.ref T) σ H' fun σ2 H2=>tb {D with nx:=Pv (i+1),ct:=Pv (i+1),bk:=D.nx} σ2 H2) (hd:∀σ H,Pv xs.length σ H→D.nx σ H):r9 K p.v q.v H fun J H1=>AL J g tb D σ H1:=by
 refine⟨p,q,rfl,rfl,⟨xs,e⟩,⟨ys,e2⟩,fun i m σ H=>i+m=xs.length∧Pv i σ H,⟨xs.length,by simp,h0⟩,fun i m σ H h=>?_⟩
 obtain⟨h1,h2⟩:=h
 obtain⟨ea,eb⟩:=hl i σ H (by omega) h2
 by_cases c:m=0
 · subst c
   have:i=xs.length:=by omega
   subst this
   exact .inl ⟨⟨xs,ys,ea,eb,.inl rfl⟩,hd σ H h2⟩
 · have hi:i<xs.length:=by omega
   refine .inr ⟨⟨xs,ys,ea,eb,hi,by omega⟩,Pv (i+1),fun σ' H' q=>⟨m - 1,by omega,by omega,q⟩,fun x H' y=>?_⟩
   obtain⟨T,z1,z2,rfl,nT,rfl,qJ,QA⟩:=y
   exact hs i z1 z2 σ H T _ (qJ xs ea) (QA ys eb) h2 (cg nT _) nT bI
end L2
namespace L2
open PySem PySem.Spec PyProof.Rows
section
variable {prog : Program} {w : World} {A : Around} {s : Shared} {env : Env} {R : Result→Shared→Prop}
noncomputable abbrev NE (prog:Program) (w:World) (A:Around) (env:Env) (R:Result→Shared→Prop):Value→Shared→Prop:=notedBy (model prog w) A env fun e s'=>R (.error e) s'
theorem EH {elt iter:Expr}{ts ifs:List Expr}{kt:Nat}{tp pos:Pos}{scope:Scope}{it acc:Value} (J:Nat→Shared→Prop)
 (step:∀n s,J n s→wpAny (model prog w) A (pyNext it) (fun r a=>match r with
   | none=>R (.ok .next) a
   | some v=>wpAny (model prog w) A (letOwnedTupleGo (.Tuple ts kt tp) it v) (fun _ a1=>wpAny (model prog w) A (assign (.Tuple ts kt tp) env v) (fun _ b=>
    wpAny (model prog w) A (forIn ifs true fun c r=>if r=true then do let ok ←isTrue c env (eval c env);pure (ForInStep.yield ok) else pure (ForInStep.yield r)) (fun ok c=>
     if ok=true then wpAny (model prog w) A (eval elt env) (fun x d=>wpAny (model prog w) A (call (.builtin "list.append") [acc,x]) (fun _ e=>∃m,m<n∧J m e) (NE prog w A env R) d) (NE prog w A env R) c
     else ∃m,m<n∧J m c) (NE prog w A env R) b) (NE prog w A env R) a1) (NE prog w A env R) a) (NE prog w A env R) s)
 (n:Nat) (h:J n s):codeAny (model prog w) A (.compLoop (.ListComp elt [⟨.Tuple ts kt tp,iter,ifs,0⟩] scope pos) 0 it acc env) R s:=by
 refine codeAny_loop rfl J (fun n s hJ=>(show wpAny _ A ((compTurn (.ListComp elt [⟨.Tuple ts kt tp,iter,ifs,0⟩] scope pos) 0 it acc env).onRaise (fun x=>do noteFrame x env;theTreesLotGoes x)) _ _ s from wpAny_noted ?_)) n h
 rw [compTurn_list]
 have OZ:∀{Y:Value→Shared→Prop} (x:Value) (a:Shared),Y x a→Y x a:=fun _ _ z=>z
 refine wpAny_bind (wpAny_standAt (wpAny_bind (wpAny_mono (step n s hJ) (fun r a p=>?_) OZ)))
 cases r with
 | none=>exact wpAny_pure p
 | some v=>
  refine wpAny_bind (wpAny_mono p (fun _ a1 p1=>wpAny_bind (wpAny_mono p1 (fun _ b p2=>wpAny_bind (wpAny_mono p2 (fun ok c p3=>?_) OZ)) OZ)) OZ)
  cases ok with
  | false=>exact wpAny_pure ⟨rfl,p3⟩
  | true=>exact wpAny_bind (wpAny_bind (wpAny_mono p3 (fun x d p4=>wpAny_bind (wpAny_mono p4 (fun _ e p5=>wpAny_pure (wpAny_pure ⟨rfl,p5⟩)) OZ)) OZ))
end
structure CS2 (X:Cx) (scope:Scope) (x y:Str) (N:List Str) (caps:List Nat):Prop where
 kind:scope.kind = .function
 xA:(scope.names.all fun y=>y.2 != NameKind.cell)=true
 Br:(scope.names.all fun y=>y.2 != NameKind.local || scope.names.lookup y.1==some NameKind.local)=true
 lx:scope.names.lookup x=some .local
 ly:scope.names.lookup y=some .local
 nd:N.Nodup
 n0:N[0]? = some x
 n1:N[1]? = some y
 JJ:caps.map (fun j=>X.N[j]?)=(N.drop 2).map some
 Gh:((N.drop 2).all fun y=>scope.names.lookup y==some NameKind.free)=true
 Cu:(scope.names.all fun y=>y.2 != NameKind.free||X.env.scope.names.lookup y.1==some NameKind.cell||X.env.scope.names.lookup y.1==some NameKind.free)=true
theorem CS2.shape {X:Cx}{scope:Scope}{x y:Str}{N:List Str}{caps:List Nat} (S:CS2 X scope x y N caps):∃r,N=x::y::r:=by
 have h0:=S.n0
 have h1:=S.n1
 cases N with
 | nil=>cases h0
 | cons a r=>
  cases r with
  | nil=>cases h1
  | cons b r=>cases h0;cases h1;exact⟨r,rfl⟩
theorem CS2.c {X:Cx}{scope:Scope}{x y:Str}{N:List Str}{caps:List Nat} (S:CS2 X scope x y N caps):vA X scope x (x::N.drop 2) caps:=by
 obtain⟨r,e⟩:=S.shape
 refine⟨S.kind,S.xA,S.Br,S.lx,?_,rfl,S.JJ,S.Gh,S.Cu⟩
 have h:=S.nd
 rw [e] at h ⊢
 simp only [List.nodup_cons,List.mem_cons,not_or] at h
 exact List.nodup_cons.mpr ⟨h.1.2,h.2.2⟩
noncomputable def eY (caps:List Nat) (σ:St) (o p:Option V):St:=o::p::caps.map fun j=>(σ[j]?).join
section
variable {X : Cx} {pins : List (Addr × Obj)} {σ : St} {H : Hp} {s : Shared} {scope : Scope} {x y : Str} {N : List Str} {caps : List Nat} {fp : List Addr}
theorem CS2.len (S:CS2 X scope x y N caps):N.length=caps.length+2:=by
 obtain⟨r,e⟩:=S.shape
 have h:=S.c.len
 rw [e] at h ⊢
 simpa using h
theorem CS2.at (S:CS2 X scope x y N caps) {i:Nat}{z:Str} (h:N[i+2]? = some z):∃j,caps[i]? = some j∧X.N[j]? = some z∧scope.names.lookup z=some .free:=by
 obtain⟨r,e⟩:=S.shape
 refine S.c.at (i:=i) ?_
 rw [e] at h ⊢
 simpa using h
theorem K5 (S:CS2 X scope x y N caps) (I:Inv X pins σ H s) (hf:∀b∈fp,eX X pins H b) (fB:∀b∈fp,b<s.heap.objs.size) :
 (pZ X N scope (s.heap.objs.size+1) s H (s.heap.objs.size::fp)).Ok:=by
 have o:=Io S.c I hf fB
 exact⟨o.mod,o.kind,o.glob,o.blt,o.above,o.inj,o.has,o.IT,o.hd,o.frames,o.Ad,o.Ac,o.bs,o.Bo,o.uC,o.qR,o.lP,o.Fu⟩
theorem Gf (S:CS2 X scope x y N caps) (I:Inv X pins σ H s) (hf:∀b∈fp,eX X pins H b) (fB:∀b∈fp,b<s.heap.objs.size) {h₁:Heap}{m:Str→Option Value}{tk:Nat}
 (OR:h₁.Ns (s.heap.objs.size+1) m) (old:∀b o,s.heap.get? b=some o→h₁.get? b=some o) :
 Inv (pZ X N scope (s.heap.objs.size+1) s H (s.heap.objs.size::fp)) [] (eY caps σ none none) H {s with heap:=h₁,toks:=tk} where
 ok:=K5 S I hf fB
 os:=rfl
 bare:=I.bare
 base:=Un.kept old
 loc:=⟨m,OR,fun i y v e1 e2 _=>by
  cases i with
  | zero=>simp [eY] at e2
  | succ i=>
  cases i with
  | zero=>simp [eY] at e2
  | succ i=>
   obtain⟨j,hj,hX,jT⟩:=S.at e1
   have yT:(σ[j]?).join=some v:=by
    simp only [eY,List.getElem?_cons_succ,List.getElem?_map,hj,Option.map_some] at e2
    exact Option.some.inj e2
   have e3:σ[j]? = some (some v):=by
    cases hh:σ[j]? with
    | none=>rw [hh] at yT;simp at yT
    | some o=>rw [hh] at yT;simp at yT;rw [yT]
   obtain⟨m₂,_,hl⟩:=I.loc
   have hk:=S.c.frees _ (lookup_mem jT) rfl
   obtain⟨u,r,l⟩:=hl j y v hX e3 (by
    rcases hk with k|k
    · exact .inr (.inl k)
    · exact .inr (.inr k))
   refine⟨u,r,.inr ?_⟩
   rcases l with ⟨k,_⟩|⟨_,c,hc,hcell⟩
   · rcases hk with k'|k'<;>(rw [k] at k';cases k')
   · obtain⟨o,ho,hd⟩:=hcell
     exact⟨ky jT,c,oQ (lookup_mem jT) hc,o,old _ _ ho,hd⟩⟩
 cell:=fun y c e=>by
  obtain⟨v,o,ho,hd⟩:=I.cell y c (bX e)
  exact⟨v,o,old _ _ ho,hd⟩
 free:=I.aX.fresh (Nat.le_succ _)
 ix:=fun y c e=>I.ix y c (bX e)
 pin:=fun p hp=>by
  have:p∈([]:List (Addr×Obj)):=hp
  simp at this
 aX:=I.aX.kept old
 len:=by
  show (eY caps σ none none).length=N.length
  rw [S.len];simp [eY]
noncomputable def yo (K:PySem.W.Frag) (J:It) (caps:List Nat) (tc:TT) (te:TE) (σ:St) (H1:Hp) (Q:VK):Prop:=
 ∃W:Nat→Nat→List V→Hp→Prop,(∃m,W 0 m [] H1)∧∀i m ys H,W i m ys H→
  (J.stop i H∧∀p,H p=none→Q (.ref p) (upd H p (.lst ys))) ∨
  (J.go i H∧ys.length<sizeLine∧∃N:List V→Hp→Prop,(∀ys' H',N ys' H'→∃m',m'<m∧W (i+1) m' ys' H')∧∀v H',J.Fp i H v H'→
    ∃T a b,v = .ref T∧jE K H' T [a,b]∧tc (eY caps σ (some a) (some b)) H' fun c H2=>if c=true then te (eY caps σ (some a) (some b)) H2 fun y H3=>N (ys++[y]) H3 else N ys H2)
noncomputable def tF (K:PySem.W.Frag) (wi:TI) (caps:List Nat) (tc:TT) (te:TE):TE:=fun σ H Q=>wi σ H fun J H1=>yo K J caps tc te σ H1 Q
theorem rR {elt iter:Expr}{px py pt pos:Pos}{kx:Nat}{ifs:List Expr}{tc:TT}{te:TE}{J:It}{it:Addr}{tn:Nat→Heap→Prop}{Q:VK}{RR:Value→Addr→Result→Shared→Prop}{E:Value→Shared→Prop}
 (fS:X.calm=true) (S:CS2 X scope x y N caps) (hc:∀C s H ex,eT (pZ X N scope C s H ex) ifs tc) (he:∀C s H ex,PE (pZ X N scope C s H ex) elt te)
 (I:Inv X pins σ H s) (T:Turn X.prog X.w X.K (.Tuple [.Name x px,.Name y py] kx pt) J fp it tn) (t0:tn 0 s.heap) (hf:∀b∈fp,eX X pins H b) (wc:yo X.K J caps tc te σ H Q)
 (fin:∀D C s' m' H' ys,Inv X pins σ (upd H' D (.lst ys)) s'→Q (.ref D) (upd H' D (.lst ys))→s'.heap.Ns C m'→eX X pins (upd H' D (.lst ys)) C→C≠X.env.locals→RR (.ref D) C (.ok .next) s') :
 wpAny (model X.prog X.w) X.A (newList []) (fun acc s₃=>wpAny (model X.prog X.w) X.A (newFunctionEnv scope X.env.globals (lF X.env.cells scope.names) [] X.env.qual none .none (some X.env)) (fun Ga s₄=>
  codeAny (model X.prog X.w) X.A (.compStart (.ListComp elt [⟨.Tuple [.Name x px,.Name y py] kx pt,iter,ifs,0⟩] scope pos) 0 (.ref it) acc {Ga with scope:=relabel scope X.env}) (RR acc Ga.locals) s₄) E s₃) E s:=by
 refine wpAny_newObj_type (wpAny_newFunctionEnv S.c.Cs (by intro y hy;simp at hy) (fun h₁ uB xT=>?_) S.kind)
 dsimp only at uB xT ⊢
 generalize Nq:s.heap.push {cls:=.type "list",dict:=none,data:=.seq ([]:List Value).toArray}=H2 at uB xT ⊢
 have hC:H2.objs.size=s.heap.objs.size+1:=by rw [←Nq,Heap.size_push]
 have Jh:s.heap.objs.size≠H2.objs.size:=by rw [hC];exact Nat.ne_of_lt (Nat.lt_succ_self _)
 have below:∀b,b<s.heap.objs.size→b≠H2.objs.size:=fun b hb=>by rw [hC];exact Nat.ne_of_lt (Nat.lt_succ_of_lt hb)
 have old:∀b o,s.heap.get? b=some o→h₁.get? b=some o:=fun b o e=>xT.extBut b o (below b (Heap.lt_size e)) (Heap.get?_push_of_some _ (Nq▸Heap.get?_push_of_some _ e))
 have GR:h₁.get? s.heap.objs.size=some (lobj [] 0):=xT.extBut _ _ Jh (Heap.get?_push_of_some _ (Nq▸Heap.get?_push_size _ rfl))
 have fB:∀b∈fp,b<s.heap.objs.size:=fun b hb=>by
  obtain⟨o,e,_⟩:=T.obj 0 _ t0 b hb
  exact Heap.lt_size e
 have AZ:s.heap.objs.size∉fp:=fun z=>Nat.lt_irrefl _ (fB _ z)
 have rn:eX X pins H s.heap.objs.size:=I.sv (Nat.le_refl _) (I.aX.fresh (Nat.le_refl _))
 have ym:eX X pins H H2.objs.size:=I.sv (by rw [hC];exact Nat.le_succ _) (I.aX.fresh (by rw [hC];exact Nat.le_succ _))
 rw [hC] at uB Jh ym ⊢
 clear hC
 generalize hD:s.heap.objs.size=D at GR AZ rn Jh
 have IY:=Gf S I hf fB (h₁:=h₁) (tk:=s.toks+([]:List (Str×Value)).length) uB old
 rw [hD] at IY uB ym
 generalize hY:pZ X N scope (D+1) s H (D::fp)=Y at IY
 have ze:Y.env=compEnvC scope (lF X.env.cells scope.names) (D+1) X.env:=by rw [←hY];rfl
 have ES:Y.ex=D::fp:=by rw [←hY];rfl
 have Zo:Y.fs=kO X.stack:=by rw [←hY];rfl
 have RC:Y.pn=[]:=by rw [←hY];rfl
 have HP:Y.env.locals=D+1:=by rw [ze];rfl
 have YB:eT Y ifs tc:=by rw [←hY];exact hc _ _ _ _
 have heY:PE Y elt te:=by rw [←hY];exact he _ _ _ _
 have prY:Y.prog=X.prog∧Y.w=X.w∧Y.K=X.K∧Y.calm=X.calm∧Y.A=X.A∧Y.N=N∧Y.xe=fun _ _=>False:=by rw [←hY];exact⟨rfl,rfl,rfl,rfl,rfl,rfl,rfl⟩
 obtain⟨BM,A9,LD,Ly,Fl,K3,Jk⟩:=prY
 have M3:∀{H':Hp}{pl:List (Addr×Obj)},(∀b∈fp,H' b=none)→(∀p∈pl,p.1=D)→∀b∈fp,eX Y pl H' b:=fun {H' pl} hn hp b hb=>by
  refine⟨hn b hb,?_,?_,.inl (by rw [ES];exact List.mem_cons_of_mem _ hb),fun y c e=>(IY.ok.Ac b (by rw [ES];exact List.mem_cons_of_mem _ hb)).2 y c e,fun p iF z=>?_⟩
  · exact(IY.ok.Ac b (by rw [ES];exact List.mem_cons_of_mem _ hb)).1
  · exact IY.ok.qR b (by rw [ES];exact List.mem_cons_of_mem _ hb)
  · rw [RC,List.nil_append] at iF
    exact AZ (by rw [←hp p iF,z];exact hb)
 have Ik:D∈Y.ex:=by rw [ES];exact List.mem_cons_self
 have FL:∀{H':Hp}{s':Shared}{σ':St}{aG:List Value}{k:Nat},Inv Y [] σ' H' s'→H' D=none→s'.heap.get? D=some (lobj aG k)→Inv Y [(D,lobj aG k)] σ' H' s':=fun {H' s' σ' aG k} I' hn e=>
  I'.iY fun p hp=>by
   have Kt:p=(D,lobj aG k):=by simpa using hp
   subst Kt
   refine⟨e,hn,(IY.ok.Ac D Ik).1,IY.ok.qR D Ik,fun v z=>?_⟩
   have z':Data.seq aG.toArray k=Data.cell v:=z
   cases z'
 obtain⟨W,⟨m0,w0⟩,turn⟩:=wc
 have loop:∀s₃:Shared,s₃={s with heap:=h₁,toks:=s.toks+([]:List (Str×Value)).length}→
  codeAny (model X.prog X.w) X.A (.compLoop (.ListComp elt [⟨.Tuple [.Name x px,.Name y py] kx pt,iter,ifs,0⟩] scope pos) 0 (.ref it) (.ref D) Y.env) (RR (.ref D) (D+1)) s₃:=by
  rintro s₃ rfl
  refine EH
   (fun n s'=>∃i ys aG k H',Inv Y [(D,lobj aG k)] (eY caps σ none none) H' s'∧Vals ys aG∧ys.length≤sizeLine∧tn i s'.heap∧(∀b∈fp,H' b=none)∧W i n ys H') ?_ m0
   ⟨0,[],[],0,H,FL IY rn.1 GR,.nil,Nat.zero_le _,T.keep _ _ _ t0 fun b _ o e=>old b o e,fun b hb=>(hf b hb).1,w0⟩
  rintro n s1 ⟨i,ys,aG,k,H1,I1,rv,hl,zm,fr1,w1⟩
  have Cv:∀p∈[(D,lobj aG k)],p.1=D:=fun p hp=>by
   have Kt:p=(D,lobj aG k):=by simpa using hp
   rw [Kt]
  rcases turn i n ys H1 w1 with ⟨stop,qn⟩|⟨go,hsz,Nx,hNx,step⟩
  · have z:=T.done Y BM A9 LD (Ly.trans fS) i [(D,lobj aG k)] s1 (eY caps σ none none) H1 (notedBy (model X.prog X.w) X.A Y.env fun e s'=>RR (.ref D) (D+1) (.error e) s') I1 (M3 fr1 Cv) zm stop
    rw [Fl] at z
    refine ck z fun r s2 ⟨hr,I2⟩=>?_
    subst hr
    obtain⟨eD,nD,_,_,_⟩:=I2.pin (D,lobj aG k) (List.mem_append_right _ List.mem_cons_self)
    have hU:Un (kO X.stack) (D::fp) H (upd H1 D (.lst ys)) s.heap s2.heap:=by
     have b:=I2.base
     rw [Zo,ES] at b
     have b':Un (kO X.stack) (D::fp) H H1 s.heap s2.heap:=by
      have e1:Y.H₀=H:=by rw [←hY];rfl
      have e2:Y.s₀=s:=by rw [←hY];rfl
      rw [e1,e2] at b;exact b
     have ne:∀a u,H1 a=some u→a≠D:=fun a u e=>aL e nD
     exact⟨b'.keep,b'.slot,fun a o e n hx=>by rw [bg (fun z=>hx (by rw [z];exact List.mem_cons_self))];exact b'.free a o e n hx,b'.there,
      fun a xs e=>by rw [bg (ne _ _ (b'.cZ a xs e))];exact b'.cZ a xs e,fun a o u e=>by rw [bg (ne _ _ (b'.kI a o u e))];exact b'.kI a o u e,
      fun a ps e=>by obtain⟨mo,q⟩:=b'.nL a ps e;exact⟨mo,by rw [bg (ne _ _ q)];exact q⟩⟩
    have M4:iW X.prog X.w (upd H1 D (.lst ys)) s2.heap:=by
     have q:=I2.aX
     rw [BM,A9] at q
     exact q.adopt nD ⟨hl,aG,k,rv,eD⟩
    have IX:Inv X pins σ (upd H1 D (.lst ys)) s2:=I.LJ (by have:=I2.os;rw [show Y.s₀=s by rw [←hY];rfl] at this;exact this) hU M4 I2.bare (fun b hb=>by
     rcases List.mem_cons.mp hb with rfl|hb
     · exact⟨rn.2.2.2.1,rn.2.1,rn.2.2.2.2.1,rn.2.2.2.2.2⟩
     · have q:=hf b hb
       exact⟨q.2.2.2.1,q.2.1,q.2.2.2.2.1,q.2.2.2.2.2⟩)
    obtain⟨mC,QB,_⟩:=I2.loc
    rw [HP] at QB
    have fC:=I2.free
    rw [HP] at fC
    exact fin D (D+1) s2 mC H1 ys IX (qn D nD) QB ⟨by rw [bg (fun z=>Jh z.symm)];exact fC,ym.2⟩ ym.2.1
  · have z:=T.item Y BM A9 LD (Ly.trans fS) i [(D,lobj aG k)] s1 (eY caps σ none none) H1 (NE X.prog X.w X.A Y.env (RR (.ref D) (D+1))) I1 (M3 fr1 Cv) zm go
    rw [Fl] at z
    refine ck z fun r s2' z2=>?_
    obtain⟨u,hr,z2⟩:=z2
    subst hr
    refine ck z2 fun _ s2 ⟨v,H2,I2,ru,Fp,sj,Fo⟩=>?_
    have I2':=I2.pinned (M3 Fo Cv) (T.obj _ _ sj)
    have Sf:Y.env.scope.names.lookup x=some .local:=by rw [ze];exact lookup_relabel_local S.lx
    have lyY:Y.env.scope.names.lookup y=some .local:=by rw [ze];exact lookup_relabel_local S.ly
    have g1:=bG (X:=Y) (i:=0) (x:=x) (pos:=px) (by rw [K3];exact S.nd) (by rw [K3];exact S.n0) (.inl Sf) (.inr Sf)
    have g2:=bG (X:=Y) (i:=1) (x:=y) (pos:=py) (by rw [K3];exact S.nd) (by rw [K3];exact S.n1) (.inl lyY) (.inr lyY)
    have g:=ur (X:=Y) (pos:=pt) (k:=kx) (n:=2) (Ly.trans fS) (dg g1 (dg g2 ph))
    obtain⟨T1,a1,b1,ev,hT1,stp⟩:=step v H2 Fp
    have a:=g _ s2 _ H2 v u (fun σ' H'=>σ'=eY caps σ (some a1) (some b1)∧H'=H2) I2' ru ⟨T1,[a1,b1],ev,by rw [LD];exact hT1,rfl,a1,[b1],rfl,b1,[],rfl,rfl,rfl,rfl⟩
    rw [BM,A9,Fl,Jk] at a
    refine wpAny_mono a (fun _ s3 ⟨σ3,H3,I3,e1,e2⟩=>?_) fun _ _ f=>f.elim
    subst e1 e2
    have c:=YB _ s3 _ _ _ I3 stp
    rw [BM,A9,Fl,Jk] at c
    refine wpAny_mono c (fun b s4 ⟨H4,I4,q4⟩=>?_) fun _ _ f=>f.elim
    have again:∀{s5:Shared}{H5:Hp}{ys':List V}{its':List Value}{k' m':Nat},Inv Y (gG fp s2.heap) (eY caps σ (some a1) (some b1)) H5 s5→H5 D=none→s5.heap.get? D=some (lobj its' k')→Vals ys' its'→ys'.length≤sizeLine→m'<n→W (i+1) m' ys' H5→
     ∃m,m<n∧∃i ys aG k H',Inv Y [(D,lobj aG k)] (eY caps σ none none) H' s5∧Vals ys aG∧ys.length≤sizeLine∧tn i s5.heap∧(∀b∈fp,H' b=none)∧W i m ys H':=fun {s5 H5 ys' its' k' m'} I5 nD eD gQ vq hm w'=>by
     refine⟨m',hm,i+1,ys',its',k',H5,FL ((I5.iY fun p hp=>by simp at hp).weak (by simp [eY]) fun j w hj=>?_) nD eD,gQ,vq,T.keep _ _ _ sj fun b hb o e=>(I5.pin (b,o) (List.mem_append_right _ (gf hb e))).1,fun b hb=>?_,w'⟩
     · cases j with
       | zero=>simp [eY] at hj
       | succ j=>
       cases j with
       | zero=>simp [eY] at hj
       | succ j=>simpa [eY] using hj
     · obtain⟨o,e,d⟩:=T.obj _ _ sj b hb
       exact(I5.pin (b,o) (List.mem_append_right _ (gf hb e))).2.1
    have Ar:∀{s5:Shared}{H5:Hp}{σ5:St},Inv Y ([(D,lobj aG k)]++gG fp s2.heap) σ5 H5 s5→Inv Y (gG fp s2.heap) σ5 H5 s5:=fun I5=>I5.iY fun p hp=>I5.pin p (List.mem_append_right _ (List.mem_append_right _ hp))
    cases b with
    | false=>
     obtain⟨m',hm,w'⟩:=hNx _ _ q4
     obtain⟨eD,nD,_⟩:=I4.pin (D,lobj aG k) (List.mem_append_right _ (List.mem_append_left _ List.mem_cons_self))
     exact again (Ar I4) nD eD rv hl hm w'
    | true=>
     rw [if_pos rfl]
     rw [if_pos rfl] at q4
     have d:=heY _ s4 _ H4 _ I4 q4
     rw [BM,A9,Fl,Jk] at d
     refine wpAny_mono d (fun w s5 ⟨y,H5,I5,ry,q5⟩=>?_) fun _ _ f=>f.elim
     obtain⟨m',hm,w'⟩:=hNx _ _ q5
     obtain⟨eD,nD,_⟩:=I5.pin (D,lobj aG k) (List.mem_append_right _ (List.mem_append_left _ List.mem_cons_self))
     refine append_at (hsz:=by rw [List.size_toArray,←rv.length];exact hl) eD fun h6 hs6 XD=>?_
     have I6:Inv Y (gG fp s2.heap) (eY caps σ (some a1) (some b1)) H5 {s5 with heap:=h6,toks:=s5.toks}:=(Ar I5).turned (fun b o hb e=>(hs6.2 b hb).trans e) nD (IY.ok.Ac D Ik).1 (.inl Ik) (fun y c e=>(IY.ok.Ac D Ik).2 y c e) (fun p hp=>by
      rw [RC,List.nil_append] at hp
      intro z
      exact AZ (by rw [←z];exact(rz hp).1))
     refine again (ys':=ys++[y]) (its':=aG++[w]) (k':=k+1) I6 nD ?_ (rv.append (.cons ry .nil)) (by rw [List.length_append,List.length_singleton];exact hsz) hm w'
     rw [XD]
     show some ({cls:=.type "list",data:=.seq (aG.toArray.push w) (k+1)}:Obj)=some {cls:=.type "list",data:=.seq (aG++[w]).toArray (k+1)}
     rw [List.push_toArray]
 rw [ze] at loop
 have zm:tn 0 h₁:=T.keep _ _ _ t0 fun b _ o e=>old b o e
 exact codeAny_compStart_list (loop _ rfl) (T.self _ 0 _ _ _ zm (loop _ rfl))
theorem GJ {elt iter:Expr}{px py pt pos:Pos}{kx:Nat}{K:PySem.W.Frag}{ifs:List Expr}{wi:TI}{tc:TT}{te:TE} (fS:X.calm=true) (hK:X.K=K) (S:CS2 X scope x y N caps) (hi:PI X (.Tuple [.Name x px,.Name y py] kx pt) iter wi)
 (hc:∀C s H ex,eT (pZ X N scope C s H ex) ifs tc) (he:∀C s H ex,PE (pZ X N scope C s H ex) elt te) (hs:∀x,foldedSetIterable iter X.env x=pure x:=by intro _;rfl) :
 PE X (.ListComp elt [⟨.Tuple [.Name x px,.Name y py] kx pt,iter,ifs,0⟩] scope pos) (tF K wi caps tc te):=by
 intro pins s σ H Q I h
 subst hK
 rw [eval_ListComp]
 refine wpAny_comprehension_free (use:=none) rfl hs (gj (S.c.cells I.ok)) S.kind S.c.names (ck (hi pins s σ H _ I h) fun xv s1 h1=>ck h1 fun OM s2 h2=>?_)
 obtain⟨it,fp,tn,J,H2,e,I2,T,sj,f2,wc⟩:=h2
 subst e
 refine rR (RR:=fun acc C=>compPost (model X.prog X.w) X.A X.xe none (EP X pins σ Q) acc C) fS S hc he I2 T sj f2 wc fun D C s' m' H' ys I' q hn fC _=>?_
 refine⟨m',hn,fun h' eN=>⟨.ref D,upd H' D (.lst ys),?_,rfl,q⟩⟩
 exact I'.turned (t':=s'.toks) (fun b o hb e=>(eN.2 b hb).trans e) fC.1 fC.2.1 fC.2.2.2.1 fC.2.2.2.2.1 fC.2.2.2.2.2
end
theorem ub {K:PySem.W.Frag}{wi:TI}{caps:List Nat}{tc:TT}{te:TE}{σ:St}{H:Hp}{Q:VK}:tF K wi caps tc te σ H Q=(wi σ H fun J H1=>yo K J caps tc te σ H1 Q):=(rfl)
theorem Rd.same {H H':Hp}{a:Addr}{u:HO} (S:av H H') (r:Rd H a u):Rd H' a u:=by
 rcases r with r|⟨o,r⟩
 · exact .inl (S _ _ r)
 · exact .inr ⟨o,S _ _ r⟩
theorem Kd.same {K:PySem.W.Frag}{H H':Hp}{xs:List V} (p:Kd) (S:av H H') (h:p.has K H xs):p.has K H' xs:=by
 cases p with
 | l a=>
  rcases h with h|h
  · exact .inl (h.same S)
  · exact .inr h
 | t a=>
  rcases h with h|h
  · exact .inl (h.same S)
  · exact .inr h
 | s x=>exact h
theorem r9.comp {K:PySem.W.Frag}{p q:Kd}{xs zs:List V}{caps:List Nat}{tc:TT}{te:TE}{σ:St}{H:Hp}{Q:VK} (e:p.has K H xs) (e2:q.has K H zs) (cU:xs.length=zs.length) (Pv:Nat→List V→Hp→Prop) (h0:Pv 0 [] H) (hx:xs.length≤100000)
 (hy:∀i ys H',Pv i ys H'→ys.length≤i)
 (hs:∀i x z ys H',xs[i]? = some x→zs[i]? = some z→av H H'→(∃H1,av H H1∧av H1 H'∧Pv i ys H1)→tc (eY caps σ (some x) (some z)) H' fun b H2=>if b=true then te (eY caps σ (some x) (some z)) H2 fun y H3=>av H H3∧Pv (i+1) (ys++[y]) H3 else av H H2∧Pv (i+1) ys H2)
 (hd:∀p ys H1 H2,av H H1→av H1 H2→Pv xs.length ys H1→H1 p=none→H2 p=some (.lst ys)→Q (.ref p) H2):r9 K p.v q.v H fun J H1=>yo K J caps tc te σ H1 Q:=by
 refine⟨p,q,rfl,rfl,⟨xs,e⟩,⟨zs,e2⟩,fun i m ys H'=>i+m=xs.length∧av H H'∧Pv i ys H',⟨xs.length,by simp,av.refl _,h0⟩,fun i m ys H' h=>?_⟩
 obtain⟨h1,S,h2⟩:=h
 by_cases c:m=0
 · subst c
   have:i=xs.length:=by omega
   subst this
   exact .inl ⟨⟨xs,zs,p.same S e,q.same S e2,.inl rfl⟩,fun r n=>hd r ys H' _ S (cg n _) h2 n bI⟩
 · have hi:i<xs.length:=by omega
   refine .inr ⟨⟨xs,zs,p.same S e,q.same S e2,hi,by omega⟩,Nat.lt_of_le_of_lt (hy _ _ _ h2) (Nat.lt_of_lt_of_le hi (Nat.le_of_lt (cb hx))),fun ys' H'=>av H H'∧Pv (i+1) ys' H',fun ys' H' z=>⟨m - 1,by omega,by omega,z⟩,fun v H2 y=>?_⟩
   obtain⟨T,z1,z2,rfl,nT,rfl,qJ,QA⟩:=y
   refine⟨T,z1,z2,rfl,jE.of bI,?_⟩
   exact hs i z1 z2 ys _ (qJ xs (p.same S e)) (QA zs (q.same S e2)) (S.trans (cg nT _)) ⟨H',S,cg nT _,h2⟩
end L2
namespace L2
open PySem PySem.Spec PyProof.Rows
noncomputable def ki (n:Nat):List Nat:=(Nat.toDigits 10 n).map Char.toNat
noncomputable def kj (n:Nat):Str:=⟨(ki n).toArray⟩
theorem Ep:∀a:Fin 10,(Nat.digitChar a.val).toNat=48+a.val:=by decide
theorem t8 {d:Nat} (h:d<10):(Nat.digitChar d).toNat=48+d:=Ep ⟨d,h⟩
theorem sO {n:Nat} (h:n<10):ki n=[48+n]:=by unfold ki;rw [Nat.toDigits_of_lt_base h];simp [t8 h]
theorem nH {n:Nat} (h:10≤n):ki n=ki (n / 10)++[48+n % 10]:=by unfold ki;rw [Nat.toDigits_of_base_le (by decide) h];simp [t8 (Nat.mod_lt n (by decide))]
theorem nF {n:Nat} (h:n<10000):1≤(ki n).length∧(ki n).length≤4∧(∀c∈ki n,48≤c∧c≤57)∧(ki n=[48]∨(ki n).head? ≠ some 48)∧True:=by
 by_cases c1:n<10
 · rw [sO c1]
   refine⟨by simp,by simp,fun c hc=>by simp at hc;omega,?_,trivial⟩
   by_cases z:n=0
   · left;rw [z]
   · right;simp;omega
 by_cases c2:n<100
 · rw [nH (by omega),sO (show n / 10<10 by omega)]
   exact⟨by simp,by simp,fun c hc=>by simp at hc;omega,.inr (by simp;omega),trivial⟩
 by_cases c3:n<1000
 · rw [nH (by omega),nH (show 10≤n / 10 by omega),sO (show n / 10 / 10<10 by omega)]
   exact⟨by simp,by simp,fun c hc=>by simp at hc;omega,.inr (by simp;omega),trivial⟩
 rw [nH (by omega),nH (show 10≤n / 10 by omega),nH (show 10≤n / 10 / 10 by omega),sO (show n / 10 / 10 / 10<10 by omega)]
 exact⟨by simp,by simp,fun c hc=>by simp at hc;omega,.inr (by simp;omega),trivial⟩
noncomputable def cu (i:Int):Str:=Str.ofString (toString i)
theorem uc (n:Nat):cu n=kj n:=by
 unfold cu kj ki
 show Str.ofString (Nat.repr n)=_
 unfold Nat.repr
 exact PySem.W.Fast.ofString_ofList _
noncomputable def Lw:List V→Hp→VK→Prop:=fun xs H Q=>∃n:Nat,xs=[.str (kj n)]∧n<10000∧Q (.int n) H
theorem wJ {X:Cx}:df X (.type "int") Lw:=by
 intro pins s σ H xs us Q I r h
 obtain⟨n,rfl,hn,q⟩:=h
 obtain⟨u,rfl,t,rfl⟩:=vals1 r
 rw [←uc]
 exact PySem.W.KIN.call_num (n:=(n:Int)) (by omega) (by omega) ⟨.int n,H,I.tok _,⟨_,rfl⟩,q⟩
theorem yw {xs:List V}{H:Hp}{Q:VK}:Lw xs H Q=(∃n:Nat,xs=[.str (kj n)]∧n<10000∧Q (.int n) H):=(rfl)
noncomputable def PY:List V→Hp→VK→Prop:=fun xs H Q=>(∃z,xs=[.str z]∧Q (.str z) H)∨∃i:Int,xs=[.int i]∧i.natAbs.log2<1900∧Q (.str (cu i)) H
theorem qZ {X:Cx}:df X (.type "str") PY:=by
 intro pins s σ H xs us Q I r h
 rcases h with ⟨z,rfl,q⟩|⟨i,rfl,hi,q⟩
 · obtain⟨u,rfl,t,rfl⟩:=vals1 r
   exact P.str_of_str ⟨.str z,H,I,⟨_,rfl⟩,q⟩
 · obtain⟨u,rfl,t,rfl⟩:=vals1 r
   exact P.str_of_int (by omega) ⟨.str _,H,I.tok _,⟨_,rfl⟩,q⟩
theorem BH {xs:List V}{H:Hp}{Q:VK}:PY xs H Q=((∃z,xs=[.str z]∧Q (.str z) H)∨∃i:Int,xs=[.int i]∧i.natAbs.log2<1900∧Q (.str (cu i)) H):=(rfl)
end L2
namespace L2
open PySem PySem.Spec PyProof.Rows
open PySem.Builtin.Str PySem.StrLaws
theorem Fc {prog:Program}{w:World}{A:Around}{E:Value→Shared→Prop}{s:Shared}{x y:Str}{t u:Tok}{Q:Value→Shared→Prop} (hy:(y.length==0)=false) (hx:x.length+2≤sizeLine)
 (q:∀(l:List (Str×Tok)) (k:Nat),l.map (·.1)=Txt.split x y→Q (.ref s.heap.objs.size) {s with toks:=k,heap:=s.heap.push {cls:=.type "list",data:=.seq (strValues l).toArray}}) :
 wpAny (model prog w) A (call (.builtin "str.split") [.str x t,.str y u]) Q E s:=by
 have ln:=split_le x y
 have one:Txt.split x y=[x]→Q (.ref s.heap.objs.size) {s with toks:=s.toks,heap:=s.heap.push {cls:=.type "list",data:=.seq (strValues [(x,t)]).toArray}}:=fun e=>q [(x,t)] s.toks e.symm
 unfold Txt.split at ln one q
 cases c1:(decide (x.length<y.length)||decide (strKind x<strKind y)) with
 | true=>
  rw [c1,if_pos rfl] at one
  exact call_meets F.slot_str_split (typeIs_str _ _ _) F.entry_str_split (F.args_str_split_2 _ _) (meets_str_split_cannot_occur x y t u c1) (one rfl)
 | false=>
  simp only [c1,Bool.false_eq_true,if_false] at ln one q
  cases c2:(occurrences x y 0 x.length (x.length+1)).isEmpty with
  | true=>
   rw [c2,if_pos rfl] at one
   exact call_meets F.slot_str_split (typeIs_str _ _ _) F.entry_str_split (F.args_str_split_2 _ _) (meets_str_split_not_found x y t u c1 hy c2) (one rfl)
  | false=>
   simp only [c2,Bool.false_eq_true,if_false] at ln q
   refine call_meets F.slot_str_split (typeIs_str _ _ _) F.entry_str_split (F.args_str_split_2 _ _) (meets_str_split_sep x y t u c1 hy c2 (by omega) (by omega)) ?_
   have:=q (numbered s.toks (partsBetween x (occurrences x y 0 x.length (x.length+1)) y.length)) (s.toks+(partsBetween x (occurrences x y 0 x.length (x.length+1)) y.length).length) (numbered_texts _ _)
   rw [←strsFrom_eq] at this
   exact this
theorem N9 (l:List (Str×Tok)):Vals ((l.map (·.1)).map V.str) (strValues l):=by
 induction l with
 | nil=>exact .nil
 | cons a l ih=>exact .cons ⟨a.2,rfl⟩ ih
noncomputable def IG:V→List V→Hp→VK→Prop:=fun x xs H Q=>∃z y,x = .str z∧xs=[.str y]∧y.length≠0∧z.length≤100000∧aI H (.lst ((Txt.split z y).map V.str)) Q
theorem Ao {X:Cx}:IK X "str.split" IG:=by
 intro pins s σ H x xs v us Q I rx rs h
 obtain⟨z,y,rfl,rfl,hy,hz,q⟩:=h
 obtain⟨t,rfl⟩:=rx
 obtain⟨u,rfl,t2,rfl⟩:=vals1 rs
 have hb:(100002:Nat)≤sizeLine:=by decide
 refine Fc (beq_eq_false_iff_ne.mpr hy) (by omega) fun l k e=>?_
 have hl:((Txt.split z y).map V.str).length≤sizeLine:=by rw [List.length_map];have:=split_le z y;omega
 refine⟨.ref s.heap.objs.size,upd H s.heap.objs.size (.lst ((Txt.split z y).map V.str)),?_,rfl,q _ (I.aX.fresh (Nat.le_refl _))⟩
 refine I.laid (t':=k) (fun b o g=>Heap.get?_push_of_some _ g) (Nat.le_refl _) ⟨hl,strValues l,0,by rw [←e];exact N9 l,Heap.get?_push_size _ rfl⟩
theorem uv {x:V}{xs:List V}{H:Hp}{Q:VK}:IG x xs H Q=(∃z y,x = .str z∧xs=[.str y]∧y.length≠0∧z.length≤100000∧aI H (.lst ((Txt.split z y).map V.str)) Q):=(rfl)
noncomputable def jn (m:List Nat):List (List Nat)→List Nat
 | []=>[]
 | [d]=>d
 | d::e::r=>d++m++jn m (e::r)
theorem mh (sep:Str):∀ds:List Str,(Str.join sep ds).cps.toList=jn sep.cps.toList (ds.map fun d=>d.cps.toList)
 | []=>rfl
 | [d]=>rfl
 | d::e::r=>by
  show (d++sep++Str.join sep (e::r)).cps.toList=_
  simp only [Str.cps_append,Array.toList_append,mh sep (e::r),List.map_cons,jn]
theorem zV {c:Nat}:∀{a b X Y:List Nat},c∉a→c∉b→a++c::X=b++c::Y→a=b∧X=Y
 | [],[],X,Y,_,_,h=>by simpa using h
 | [],d::b,X,Y,_,hb,h=>by simp at h;simp at hb;exact absurd h.1 hb.1
 | d::a,[],X,Y,ha,_,h=>by simp at h;simp at ha;exact absurd h.1.symm ha.1
 | d::a,e::b,X,Y,ha,hb,h=>by
  simp only [List.cons_append,List.cons.injEq] at h
  simp only [List.mem_cons,not_or] at ha hb
  obtain⟨h1,h2⟩:=zV ha.2 hb.2 h.2
  exact⟨by rw [h.1,h1],h2⟩
theorem Hw {c:Nat}{r:List Nat}:∀{ds es:List (List Nat)},ds≠[]→es≠[]→(∀d∈ds,c∉d)→(∀d∈es,c∉d)→jn (c::r) ds=jn (c::r) es→ds=es
 | [],_,h,_,_,_,_=>absurd rfl h
 | _,[],_,h,_,_,_=>absurd rfl h
 | [d],[e],_,_,_,_,h=>by rw [show d=e from h]
 | [d],e::f::q,_,_,hd,_,h=>by
  have h:d=e++(c::r)++jn (c::r) (f::q):=h
  exact absurd (by rw [h];simp) (hd d (by simp))
 | d::f::q,[e],_,_,_,he,h=>by
  have h:d++(c::r)++jn (c::r) (f::q)=e:=h
  exact absurd (by rw [←h];simp) (he e (by simp))
 | d::f::q,e::g::p,_,_,hd,he,h=>by
  have h:d++(c::r)++jn (c::r) (f::q)=e++(c::r)++jn (c::r) (g::p):=h
  simp only [List.append_assoc,List.cons_append] at h
  obtain⟨h1,h2⟩:=zV (hd d (by simp)) (he e (by simp)) h
  have h2:=List.append_cancel_left h2
  rw [h1,Hw (by simp) (by simp) (fun x hx=>hd x (by simp [List.mem_cons.mp hx])) (fun x hx=>he x (by simp [List.mem_cons.mp hx])) h2]
noncomputable def marks (c:Nat) (r L:List Nat):Prop:=∀k,L[k]? = some c→(L.drop k).take (r.length+1)=c::r
theorem zi {c:Nat}{r:List Nat} (hr:c∉r):∀{ds:List (List Nat)},(∀d∈ds,c∉d)→marks c r (jn (c::r) ds)
 | [],_,k,h=>by simp [jn] at h
 | [d],hd,k,h=>absurd (List.mem_of_getElem? h) (hd d (by simp))
 | d::e::q,hd,k,h=>by
  have ih:=zi hr (ds:=e::q) fun x hx=>hd x (by simp [List.mem_cons.mp hx])
  have eq:jn (c::r) (d::e::q)=d++((c::r)++jn (c::r) (e::q)):=by simp [jn]
  rw [eq] at h ⊢
  by_cases c1:k<d.length
  · rw [List.getElem?_append_left c1] at h
    exact absurd (List.mem_of_getElem? h) (hd d (by simp))
  · rw [List.getElem?_append_right (by omega)] at h
    rw [List.drop_append,List.drop_eq_nil_of_le (by omega),List.nil_append]
    generalize k - d.length=j at h
    by_cases c2:j<(c::r).length
    · rw [List.getElem?_append_left c2] at h
      cases j with
      | zero=>
       rw [List.drop_zero]
       exact List.take_left' (by simp)
      | succ j=>
       rw [List.getElem?_cons_succ] at h
       exact absurd (List.mem_of_getElem? h) hr
    · rw [List.getElem?_append_right (by omega)] at h
      rw [List.drop_append,List.drop_eq_nil_of_le (by omega),List.nil_append]
      exact ih _ h
theorem Ef {x y:Str}{c a b:Nat} (hp:∀k,x.cps.toList[k]? = some c→At x y x.length k) (hn:∀k,a≤k→k<b→¬At x y x.length k):c∉(strSub x a b).cps.toList:=fun hm=>by
 rw [strSub_toList] at hm
 obtain⟨j,hj⟩:=List.getElem?_of_mem hm
 have fB:j<b - a:=by
  have h1:=(List.getElem?_eq_some_iff.mp hj).1
  simp at h1;omega
 rw [List.getElem?_take_of_lt fB,List.getElem?_drop] at hj
 exact hn (a+j) (by omega) (by omega) (hp _ hj)
theorem zh {x y:Str}{c:Nat} (hp:∀k,x.cps.toList[k]? = some c→At x y x.length k):∀(Ra:List Nat) (a f:Nat),ChainG x y x.length a Ra f→(∀k,f≤k→¬At x y x.length k)→∀p∈partsFrom x y.length a Ra,c∉p.cps.toList
 | [],a,f,h,hn,p,hm=>by
  have h:f=a:=h
  subst h
  rw [List.mem_singleton.mp hm]
  exact Ef hp fun k h1 _=>hn k h1
 | d::r,a,f,h,hn,p,hm=>by
  rcases List.mem_cons.mp hm with rfl|hm
  · exact Ef hp h.2.2.1
  · exact zh hp r _ f h.2.2.2 hn p hm
theorem Hm {x y:Str}{c:Nat} (hy:1≤y.length) (hk:PySem.Builtin.Str.strKind y=1) (hp:∀k,x.cps.toList[k]? = some c→At x y x.length k):∀p∈Txt.split x y,c∉p.cps.toList:=by
 obtain⟨f,hG,hn⟩:=occ_tight x y hy
 have none:(∀k,¬At x y x.length k)→c∉x.cps.toList:=fun h hm=>by
  obtain⟨j,hj⟩:=List.getElem?_of_mem hm
  exact h j (hp j hj)
 have kx:1≤PySem.Builtin.Str.strKind x:=by unfold PySem.Builtin.Str.strKind;split;omega;split<;>omega
 unfold Txt.split
 split
 · rename_i h
   intro p hm
   rw [List.mem_singleton.mp hm]
   refine none fun k hA=>?_
   have:=hA.1
   simp only [Bool.or_eq_true,decide_eq_true_eq] at h
   omega
 · split
   · rename_i h
     intro p hm
     rw [List.mem_singleton.mp hm]
     rw [List.isEmpty_iff.mp h] at hG
     have:f=0:=hG
     exact none fun k hA=>hn k (by omega) hA
   · rw [partsBetween_eq]
     exact zh hp _ 0 f hG hn
theorem IF (x y:Str):Txt.split x y≠[]:=fun e=>by
 have:=split_pos x y
 rw [e] at this
 simp at this
theorem uI {c:Nat}{r:List Nat} (ds:List Str) (hr:c∉r) (hk:PySem.Builtin.Str.strKind (⟨(c::r).toArray⟩:Str)=1) (h0:ds≠[]) (hd:∀d∈ds,c∉d.cps.toList):Txt.split (Txt.join ⟨(c::r).toArray⟩ ds) ⟨(c::r).toArray⟩=ds:=by
 have ej:Txt.join (⟨(c::r).toArray⟩:Str) ds=Str.join ⟨(c::r).toArray⟩ ds:=glued_eq_join _ _
 rw [ej]
 generalize hx:Str.join (⟨(c::r).toArray⟩:Str) ds=x
 have ex:x.cps.toList=jn (c::r) (ds.map fun d=>d.cps.toList):=by rw [←hx,mh]
 have NS:∀d∈ds.map (fun d:Str=>d.cps.toList),c∉d:=fun d h=>by
  obtain⟨e,he,rfl⟩:=List.mem_map.mp h
  exact hd e he
 have mk:=zi hr NS
 rw [←ex] at mk
 have lx:x.cps.toList.length=x.length:=by simp [Str.length]
 have ly:(⟨(c::r).toArray⟩:Str).length=r.length+1:=by simp [Str.length]
 have hp:∀k,x.cps.toList[k]? = some c→At x ⟨(c::r).toArray⟩ x.length k:=fun k h=>by
  have e:=mk k h
  refine⟨?_,?_⟩
  · have:=congrArg List.length e
    simp at this
    rw [ly,←lx]
    simp only [Array.length_toList] at this ⊢
    omega
  · rw [subAt_eq,ly,e];simp
 have no:=Hm (x:=x) (y:=⟨(c::r).toArray⟩) (by rw [ly];omega) hk hp
 have js:=join_split x ⟨(c::r).toArray⟩
 have ne:=IF x ⟨(c::r).toArray⟩
 generalize Txt.split x ⟨(c::r).toArray⟩=ps at no js ne
 have e2:jn (c::r) (ps.map fun d=>d.cps.toList)=jn (c::r) (ds.map fun d=>d.cps.toList):=by rw [←ex,←js,mh]
 have e3:=Hw (by simpa using ne) (by simpa using h0) (fun d h=>by
  obtain⟨e,he,rfl⟩:=List.mem_map.mp h
  exact no e he) NS e2
 exact List.map_inj_right (fun a b h=>Str.ext' (Array.toList_inj.mp h)) |>.mp e3
theorem xX (m:List Nat):∀ds:List (List Nat),(jn m ds).length≤(ds.map List.length).sum+ds.length*m.length
 | []=>by simp [jn]
 | [d]=>by simp [jn]
 | d::e::r=>by
  have:=xX m (e::r)
  simp only [jn,List.length_append,List.map_cons,List.sum_cons,List.length_cons,Nat.add_mul] at this ⊢
  omega
end L2
namespace L2
open PySem PySem.Spec PyProof.Rows
noncomputable def KD (P:Program) (w:World) (K:PySem.W.Frag) (a:Addr) (aS:List (Key×V)):Prop:=
 (a==sysModules)=false∧∃o es ep vs,K.lookup a=some o∧o.ExactDict∧o.data = .dict es ep∧KeysOf (cz P w) es∧Pairs (cz P w) es.toList vs∧(vs.map (·.1)).Nodup∧KV aS vs
noncomputable def xw (K:PySem.W.Frag) (a:Addr) (xs:List V):Prop:=∃(o:Obj) (aG:Array Value) (n:Nat),K.lookup a=some o∧o.cls = .type "tuple"∧o.data = .seq aG n∧aG.size≤sizeLine∧Vals xs aG.toList
theorem xw.sq {K:PySem.W.Frag}{a:Addr}{xs:List V} (h:xw K a xs) (H:Hp):jE K H a xs:=.inr h
theorem KD.at {P:Program}{w:World}{K:PySem.W.Frag}{a:Addr}{aS:List (Key×V)}{h:Heap} (d:KD P w K a aS) (k:K.In h):∃vs,KV aS vs∧h.DictOf (cz P w) a vs:=by
 obtain⟨_,o,es,ep,vs,l,h1,h2,h3,h4,h5,h6⟩:=d
 exact⟨vs,h6,o,es,ep,k _ _ l,h1,h2,h3,h4,h5⟩
noncomputable def Lc (aS:List (Key×V)) (ty:TE):TE:=fun σ H Q=>ty σ H fun y H1=>∃k v,y=kV k∧dQ aS k=some v∧Q v H1
noncomputable def De (aS:List (Key×V)) (ty:TE):TE:=fun σ H Q=>ty σ H fun y H1=>∃k,y=kV k∧Q (.bl (!(dQ aS k).isSome)) H1
theorem yg {aS:List (Key×V)}{ty:TE}{σ:St}{H:Hp}{Q:VK}:Lc aS ty σ H Q=(ty σ H fun y H1=>∃k v,y=kV k∧dQ aS k=some v∧Q v H1):=(rfl)
theorem qW {aS:List (Key×V)}{ty:TE}{σ:St}{H:Hp}{Q:VK}:De aS ty σ H Q=(ty σ H fun y H1=>∃k,y=kV k∧Q (.bl (!(dQ aS k).isSome)) H1):=(rfl)
section
variable {X : Cx} {i : Expr} {n : Str} {p pos : Pos} {ty : TE} {a : Addr} {aS : List (Key × V)}
theorem Jp (d:KD X.prog X.w X.K a aS) (hg:Gl X n) (hm:X.mg n=some (.ref a)) (hi:PE X i ty) (hs:R9 i) (hd:(n==("__debug__":Str))=false:=by decide):PE X (.Subscript (.Name n p) i pos) (Lc aS ty):=by
 intro pins s σ H Q I h
 refine JG PySem.F.slot_dict_getitem.lookup hs (pE I hg hm (ck (hi pins s σ H _ I h) fun iv s2 ⟨y,H2,I2,ry,k,v,ey,l,q2⟩=>?_) hd)
 subst ey
 obtain⟨vs,rel,dd⟩:=d.at I2.xk
 obtain⟨w',hw,NR⟩:=su.some_of (v:=v) (o:=valueAt vs k) (by rw [←l];exact rel.val k)
 exact⟨dd.typeIs,wpAny_getItem_of (Ai ry) dd.mapOf hw ⟨v,H2,I2.tok _,NR,q2⟩⟩
theorem Fn (d:KD X.prog X.w X.K a aS) (hg:Gl X n) (hm:X.mg n=some (.ref a)) (hi:PE X i ty) (hd:(n==("__debug__":Str))=false:=by decide):PC X .NotIn i (.Name n p) (De aS ty):=by
 intro pins s σ H Q I h
 refine ck (hi pins s σ H _ I h) fun iv s2 ⟨y,H2,I2,ry,k,ey,q2⟩=>pE I2 hg hm ?_ hd
 subst ey
 obtain⟨vs,rel,dd⟩:=d.at I2.xk
 refine wpAny_notIn_of (Ai ry) d.1 dd.mapOf ?_
 rw [←(rel.val k).nu]
 exact⟨.bl _,H2,I2.tok _,rfl,q2⟩
end
theorem kd4 {P:Program}{w:World}{K:PySem.W.Frag}{a:Addr}{x1 x2 x3 x4:Str}{t1 t2 t3 t4:Addr}{h1 h2 h3 h4:Int}{k1 k2 k3 k4:Tok}{ep:Nat} (ns:(a==sysModules)=false)
 (l:K.lookup a=some {cls:=.type "dict",dict:=none,data:=.dict #[⟨h1,.str x1 k1,.ref t1⟩,⟨h2,.str x2 k2,.ref t2⟩,⟨h3,.str x3 k3,.ref t3⟩,⟨h4,.str x4 k4,.ref t4⟩] ep,slots:=#[]})
 (e1:h1=hashStr w x1) (e2:h2=hashStr w x2) (e3:h3=hashStr w x3) (e4:h4=hashStr w x4) (nd:[x1,x2,x3,x4].Nodup) :
 KD P w K a [(.inr x1,.ref t1),(.inr x2,.ref t2),(.inr x3,.ref t3),(.inr x4,.ref t4)]:=by
 have is:∀(x:Str) (k:Tok),(cz P w).is (.inr x) (.str x k)=true:=fun x k=>by
  show Value.isStrOf x (.str x k)=true
  simp [Value.isStrOf]
 refine⟨ns,_,_,ep,[(.inr x1,.ref t1),(.inr x2,.ref t2),(.inr x3,.ref t3),(.inr x4,.ref t4)],l,⟨rfl,rfl,rfl⟩,rfl,fun e he=>?_,?_,?_,?_⟩
 · simp only [List.mem_toArray,List.mem_cons,List.not_mem_nil,or_false] at he
   rcases he with rfl|rfl|rfl|rfl
   · exact⟨.inr x1,is _ _,e1⟩
   · exact⟨.inr x2,is _ _,e2⟩
   · exact⟨.inr x3,is _ _,e3⟩
   · exact⟨.inr x4,is _ _,e4⟩
 · exact .cons (is _ _) rfl (.cons (is _ _) rfl (.cons (is _ _) rfl (.cons (is _ _) rfl .nil)))
 · have:[Sum.inr x1,Sum.inr x2,Sum.inr x3,Sum.inr x4]=([x1,x2,x3,x4].map Sum.inr:List Key):=rfl
   show [Sum.inr x1,Sum.inr x2,Sum.inr x3,(Sum.inr x4:Key)].Nodup
   rw [this]
   exact List.Pairwise.map _ (fun a b h=>by simpa using h) nd
 · exact .cons ⟨rfl,rfl⟩ (.cons ⟨rfl,rfl⟩ (.cons ⟨rfl,rfl⟩ (.cons ⟨rfl,rfl⟩ .nil)))
theorem kt2 {K:PySem.W.Frag}{a:Addr}{x1 x2:Str}{k1 k2:Tok}{n:Nat}{od:Option Addr}{sl:Array (Option Value)} (l:K.lookup a=some ⟨.type "tuple",od,.seq #[.str x1 k1,.str x2 k2] n,sl⟩):xw K a [.str x1,.str x2]:=
 ⟨_,_,n,l,rfl,rfl,(show 2≤sizeLine by decide),.cons ⟨_,rfl⟩ (.cons ⟨_,rfl⟩ .nil)⟩
theorem kt4 {K:PySem.W.Frag}{a:Addr}{x1 x2 x3 x4:Str}{k1 k2 k3 k4:Tok}{n:Nat}{od:Option Addr}{sl:Array (Option Value)} (l:K.lookup a=some ⟨.type "tuple",od,.seq #[.str x1 k1,.str x2 k2,.str x3 k3,.str x4 k4] n,sl⟩):xw K a [.str x1,.str x2,.str x3,.str x4]:=
 ⟨_,_,n,l,rfl,rfl,(show 4≤sizeLine by decide),.cons ⟨_,rfl⟩ (.cons ⟨_,rfl⟩ (.cons ⟨_,rfl⟩ (.cons ⟨_,rfl⟩ .nil)))⟩
end L2
namespace L2
open PySem PySem.Spec PyProof.Rows
section
variable {X : Cx}
noncomputable def CU (x:Str):Value→Bool | .str y _=>y==x|_=>false
theorem wX:∀{ys:List Str}{aG:List Value},Vals (ys.map V.str) aG→aG.countP (CU z)=ys.countP fun y=>decide (y=z)
 | [],_,.nil=>rfl
 | y::ys,_,.cons r rr=>by
  obtain⟨t,rfl⟩:=r
  rw [List.countP_cons,List.countP_cons,wX rr]
  have:CU z (.str y t)=decide (y=z):=by
   show (y==z)=_
   rw [Bool.eq_iff_iff];simp
  rw [this]
theorem vX:∀{ys:List Str}{aG:List Value},Vals (ys.map V.str) aG→∀v∈aG,∃y t,v = .str y t
 | [],_,.nil,v,h=>by simp at h
 | y::ys,_,.cons r rr,v,h=>by
  obtain⟨t,rfl⟩:=r
  rcases List.mem_cons.mp h with rfl|h
  · exact⟨y,t,rfl⟩
  · exact vX rr v h
noncomputable def C8:V→List V→Hp→VK→Prop:=fun x vs H Q=>∃(l:Addr) (ys:List Str) (z:Str),x = .ref l∧vs=[.str z]∧H l=some (.lst (ys.map V.str))∧Q (.int (ys.countP fun y=>decide (y=z):Nat)) H
theorem Fh:IK X "list.count" C8:=by
 intro pins s σ H x vs v us Q I rx rv h
 obtain⟨l,ys,z,rfl,rfl,hH,q⟩:=h
 cases rx
 obtain⟨u,rfl,ru⟩:=rv.one
 obtain⟨t,rfl⟩:=ru
 obtain⟨_,aG,n,r,hl,e⟩:=I.CI hH
 refine call_meets F.slot_list_count ⟨_,e,rfl⟩ F.entry_list_count (F.args_list_count_2 _ _) (PySem.SeqAt.list_countAt l aG.toArray n _ _ (.str z t) (CU z)) ⟨e,fun y hy=>?_,?_⟩
 · obtain⟨a,t',rfl⟩:=vX r y (by simpa using hy)
   exact PySem.SeqAt.EqAt.str_str a t' z t
 · have:=wX (z:=z) r
   refine⟨.int (ys.countP fun y=>decide (y=z):Nat),H,I.kept (t':=s.toks+1) fun b o e=>e,⟨s.toks,?_⟩,q⟩
   show Value.int (aG.countP (CU z):Nat) s.toks = .int (ys.countP fun y=>decide (y=z):Nat) s.toks
   rw [this]
theorem rg {x:V}{vs:List V}{H:Hp}{Q:VK}:C8 x vs H Q=(∃(l:Addr) (ys:List Str) (z:Str),x = .ref l∧vs=[.str z]∧H l=some (.lst (ys.map V.str))∧Q (.int (ys.countP fun y=>decide (y=z):Nat)) H):=(rfl)
theorem xx {P:Program}{w:World}{A:Around}{is:List Int}{aG:List Value} (r:Vals (is.map V.int) aG):TruthOf P w A (fun i v=>aG.toArray[i]? = some v) (fun i=>(is.map fun j=>j != 0).getD i false):=fun i v s Q E hv hq=>by
 have kY:aG[i]? = some v:=by simpa using hv
 have hi:i<aG.length:=(List.getElem?_eq_some_iff.mp kY).1
 have hb:i<is.length:=by have:=r.length;simp at this;omega
 obtain⟨u,hu,t,ru⟩:=r.get (i:=i) (x:=.int is[i]) (by simp [hb])
 rw [kY] at hu;cases hu
 subst ru
 have e:(is.map fun j=>j != 0).getD i false=(is[i] != 0):=by simp [List.getD,hb]
 have Gp:Q ((is.map fun j=>j != 0).getD i false) s:=hq
 rw [e] at Gp
 exact PySem.P.truthy_int Gp
theorem E7 (hc:X.calm=true):df X (.builtin "any") (fun xs H Q=>∃(a:Addr) (is:List Int),xs=[.ref a]∧fQ X.K H a (is.map V.int)∧Q (.bl (is.any fun j=>j != 0)) H):=by
 intro pins s σ H xs us Q I r h
 obtain⟨a,is,rfl,hq,q⟩:=h
 obtain⟨u,rfl,ru⟩:=vals1 r
 cases ru
 obtain⟨aG,rv,p,hz⟩:=I.list hq
 have I1:Inv X pins σ H {s with heap:=s.heap.push {cls:=.type "list_iterator",data:=.fields #[.ref a,.int 0 0]}}:=I.kept (t':=s.toks) fun b o e=>Heap.get?_push_of_some _ e
 have fp:=I.sv (b:=s.heap.objs.size) (Nat.le_refl _) (I.aX.fresh (Nat.le_refl _))
 have hl:=rv.length
 have fB:a<s.heap.objs.size:=by obtain⟨o,ho,_⟩:=p.isList;exact Heap.lt_size ho
 refine call_any_walk (wpAny_pyIter_list p.isList ⟨s.heap.objs.size,[s.heap.objs.size,a],[s.heap.objs.size],aG.toArray.size,_,_,fun i=>(is.map fun j=>j != 0).getD i false,rfl,
  Walks.list (A:=X.A.in1) (show X.A.in1.handled=none from I.ok.hd hc) _ _ (Nat.ne_of_lt fB) aG.toArray,⟨⟨_,Heap.get?_push_size _ rfl,rfl,rfl⟩,p.isList.push _⟩,xx rv,fun h' tk kk=>?_⟩)
 refine⟨.bl (is.any fun j=>j != 0),H,I1.turned (fun b o hb e=>kk b o (by simpa using hb) e) fp.1 fp.2.1 fp.2.2.2.1 fp.2.2.2.2.1 fp.2.2.2.2.2,?_,q⟩
 have e:aG.toArray.size=(is.map fun j=>j != 0).length:=by simp at hl ⊢;exact hl.symm
 rw [e,any_range,List.any_map]
 rfl
end
section
variable {X : Cx} {pins : List (Addr × Obj)} {σ : St} {H : Hp} {s : Shared} {scope : Scope} {x y : Str} {N : List Str} {caps : List Nat} {fp : List Addr}
theorem GZ {elt iter:Expr}{px pz pt py pos u7:Pos}{kx:Nat}{K:PySem.W.Frag}{ifs:List Expr}{wi:TI}{tc:TT}{te:TE}{z:Str}{i:Nat} (fS:X.calm=true) (hK:X.K=K) (S:CS2 X scope x y N caps) (hi:PI X (.Tuple [.Name x px,.Name y pz] kx pt) iter wi)
 (hc:∀C s H ex,eT (pZ X N scope C s H ex) ifs tc) (he:∀C s H ex,PE (pZ X N scope C s H ex) elt te) (hN:X.N.Nodup) (hy:X.N[i]? = some z) (hx:X.env.scope.names.lookup z=some .local)
 (MW:swapsWith (.ListComp elt [⟨.Tuple [.Name x px,.Name y pz] kx pt,iter,ifs,0⟩] scope pos) (some (.Name z py)) u7.line X.env=pure true) (hs:∀x,foldedSetIterable iter X.env x=pure x:=by intro _;rfl) :
 PS X (.Assign [.Name z py] (.ListComp elt [⟨.Tuple [.Name x px,.Name y pz] kx pt,iter,ifs,0⟩] scope pos) u7) (fun D σ H=>tF K wi caps tc te σ H fun v H1=>D.nx (σ.set i (some v)) H1):=by
 intro pins s σ H D I h
 subst hK
 rw [exec_Assign_Name_used _ _ _ _ MW]
 refine wpAny_bind (wpAny_standAt (wpAny_bind ?_))
 show wpAny _ X.A (do let _ ←comprehension (.ListComp elt [⟨.Tuple [.Name x px,.Name y pz] kx pt,iter,ifs,0⟩] scope pos) scope X.env _ (newList []) false (eval iter X.env) (some (assign (.Name z py) X.env))) _ _ s
 refine wpAny_bind (wpAny_mono (wpAny_comprehension_free (use:=some (assign (.Name z py) X.env)) (Q:=fun _ s'=>SP X pins D .next s') rfl hs (gj (S.c.cells I.ok)) S.kind S.c.names
  (ck (hi pins s σ H _ I h) fun xv s1 h1=>ck h1 fun OM s2 h2=>?_)) (fun _ s' hq=>wpAny_pure (wpAny_pure hq)) fun _ _ e=>e)
 obtain⟨it,fp,tn,J,H2,e,I2,T,sj,f2,wc⟩:=h2
 subst e
 refine rR (RR:=fun acc C=>compPost (model X.prog X.w) X.A X.xe (some (assign (.Name z py) X.env)) (fun _ s'=>SP X pins D .next s') acc C) fS S hc he I2 T sj f2 wc fun d C s' m' H' ys I' q hn fC Vk=>?_
 show wpAny _ X.A (assign (.Name z py) X.env (.ref d)) _ _ _
 refine wpAny_assign_Name (qw I' hN hy (.inl hx) (v:=.ref d) rfl (fun KJ I'' ⟨a,hs,ha⟩=>?_) (.inr hx))
 have bB:C≠a:=by
  rcases ha with rfl|ha
  · exact Vk
  · exact fun z=>fC.2.2.2.2.1 _ _ ha z.symm
 refine⟨m',hn.sameBut hs bB,fun h' eN=>⟨_,_,I''.turned (t':=KJ.toks) (fun b o hb e=>(eN.2 b hb).trans e) fC.1 fC.2.1 fC.2.2.2.1 fC.2.2.2.2.1 fC.2.2.2.2.2,q⟩⟩
noncomputable def FE (K:PySem.W.Frag) (i:Nat) (wi:TI) (caps:List Nat) (tc:TT) (te:TE):TS:=fun D σ H=>tF K wi caps tc te σ H fun v H1=>D.nx (σ.set i (some v)) H1
theorem Hz {elt iter:Expr}{px pz pt py pos u7:Pos}{kx:Nat}{K:PySem.W.Frag}{ifs:List Expr}{wi:TI}{tc:TT}{te:TE}{z:Str}{i:Nat} (fS:X.calm=true) (hK:X.K=K) (S:CS2 X scope x y N caps) (hi:PI X (.Tuple [.Name x px,.Name y pz] kx pt) iter wi)
 (hc:∀C s H ex,eT (pZ X N scope C s H ex) ifs tc) (he:∀C s H ex,PE (pZ X N scope C s H ex) elt te) (hN:X.N.Nodup) (hy:X.N[i]? = some z) (hx:X.env.scope.names.lookup z=some .local)
 (MW:swapsWith (.ListComp elt [⟨.Tuple [.Name x px,.Name y pz] kx pt,iter,ifs,0⟩] scope pos) (some (.Name z py)) u7.line X.env=pure true) (hs:∀x,foldedSetIterable iter X.env x=pure x:=by intro _;rfl) :
 PS X (.Assign [.Name z py] (.ListComp elt [⟨.Tuple [.Name x px,.Name y pz] kx pt,iter,ifs,0⟩] scope pos) u7) (FE K i wi caps tc te):=GZ fS hK S hi hc he hN hy hx MW hs
theorem tY {K:PySem.W.Frag}{i:Nat}{wi:TI}{caps:List Nat}{tc:TT}{te:TE}{D:Ends}{σ:St}{H:Hp}:FE K i wi caps tc te D σ H=(tF K wi caps tc te σ H fun v H1=>D.nx (σ.set i (some v)) H1):=(rfl)
end
theorem G9 {X:Cx}{K:PySem.W.Frag}{o e:Expr}{es:List Expr}{to:TE}{t:TA}{name:Str}{apos fE:Pos}{T id:String}{r:V→List V→Hp→VK→Prop} (hK:X.K=K) (pa:PlainAttrs T) (slot:Slot T name id) (IU:typeOf (.builtin id)=pure (.type "method_descriptor")) (hm:IK X id r) (ho:PE X o to) (ha:PA X (e::es) t)
 (h1:attributeBase o name X.env (eval o X.env)=eval o X.env:=by rfl)
 (h2:((backTo fE (starEach (e::es) X.env)).all (fun x=>!x.1)&&(backToKw fE (keywordEach [] X.env)).all (fun x=>x.1.isSome)&&decide ((e::es).length+([]:List Keyword).length+(if ([]:List Keyword).isEmpty then 0 else 1)<30))=true:=by rfl)
 (h3:(apos.endLine==fE.line)=true:=by rfl) (h4:starEach (e::es) X.env=(false,eval e X.env)::starEach es X.env:=by rfl) (h5:(backTo fE (starEach es X.env)).any (·.1)=false:=by rfl) :
 PE X (.Call (.Attribute o name apos) (e::es) [] fE) (Ub K T r to t):=hK▸jR pa slot IU hm ho ha h1 h2 h3 h4 h5
end L2
set_option linter.all false
namespace M
variable {α : Type}
noncomputable abbrev MSt:=List (Option (List Nat))×List (Option (List Nat))
section
variable [DecidableEq α] (T : Tr α) (k m : Nat) (row : List (au α))
noncomputable def stN (n:Nat):MSt:=(row.take n).foldl (mark T) (List.replicate k none,List.replicate m none)
noncomputable def vw (n:Nat) (p:List Nat):Prop:=some p∈(stN T k m row n).1
noncomputable def kM (a:Nat) (q:List Nat):Prop:=∃i sh:Int,row[a]? = some (.put i sh)∧(stN T k m row a).1.getD i.toNat none=some q
noncomputable def oK (a f:Nat):Prop:=a<f∧∃(i sh j:Int),row[a]? = some (.put i sh)∧row[f]? = some (.fetch sh j)∧∀r,a<r→r<f→∀i',row[r]? ≠ some (.put i' sh)
end
section
variable [DecidableEq α] {T : Tr α} {k m : Nat} {row : List (au α)}
theorem Ay {n:Nat}{d:au α} (e:row[n]? = some d):stN T k m row (n+1)=mark T (stN T k m row n) d:=by
 unfold stN
 rw [List.take_add_one,e,List.foldl_append];rfl
theorem sL (n:Nat):(stN T k m row n).1.length=k∧(stN T k m row n).2.length=m:=by
 have:=au.Iy (z:=(none:Option (List Nat))) (tk:=fun x=>firstOf x (T.wk [])) (jn:=over T) (row.take n) (List.replicate k none,List.replicate m none)
 exact⟨this.1.trans (by simp),this.2.trans (by simp)⟩
theorem getD_mem {β:Type}{l:List (Option β)}{i:Nat}{p:β} (h:l.getD i none=some p):some p∈l∧i<l.length:=by
 rw [List.getD_eq_getElem?_getD] at h
 cases e:l[i]? with
 | none=>rw [e] at h;cases h
 | some o=>
  rw [e] at h
  have h:o=some p:=h
  subst h
  exact⟨List.mem_of_getElem? e,(List.getElem?_eq_some_iff.mp e).1⟩
theorem mem_getD {β:Type}{l:List (Option β)}{p:β} (h:some p∈l):∃i,i<l.length∧l.getD i none=some p:=by
 obtain⟨i,hi⟩:=List.getElem?_of_mem h
 refine⟨i,(List.getElem?_eq_some_iff.mp hi).1,?_⟩
 rw [List.getD_eq_getElem?_getD,hi];rfl
theorem jF {β:Type} (l:List β) (i j:Nat) (v z:β):(l.set i v).getD j z=if j=i∧i<l.length then v else l.getD j z:=by
 rw [List.getD_eq_getElem?_getD,List.getD_eq_getElem?_getD,List.getElem?_set]
 by_cases c:i=j
 · subst c
   by_cases d:i<l.length
   · rw [if_pos rfl,if_pos d,if_pos ⟨rfl,d⟩];rfl
   · rw [if_pos rfl,if_neg d,if_neg fun z=>d z.2,List.getElem?_eq_none (by omega)]
 · rw [if_neg c,if_neg fun z=>c z.1.symm]
theorem y3 {n i:Nat}{p:List Nat} (h:(List.replicate n (none:Option (List Nat))).getD i none=some p):False:=by
 have:=(getD_mem h).1
 have:=List.eq_of_mem_replicate this
 cases this
theorem vU (aX:∀d∈row,d.ok k m):∀(n:Nat) (sh:Int) (p:List Nat),n≤row.length→0≤sh→(stN T k m row n).2.getD sh.toNat none=some p→∃a i,a<n∧row[a]? = some (.put i sh)∧(stN T k m row a).1.getD i.toNat none=some p∧∀r,a<r→r<n→∀i',row[r]? ≠ some (.put i' sh)
 | 0,sh,p,_,_,h=>(y3 h).elim
 | n+1,sh,p,hn,h0,h=>by
  have e:row[n]? = some row[n]:=List.getElem?_eq_getElem (by omega)
  have hd:=aX row[n] (List.getElem_mem _)
  generalize row[n]=d at e hd
  rw [Ay e] at h
  have keep:(stN T k m row n).2.getD sh.toNat none=some p→(∀i',d ≠ .put i' sh)→∃a i,a<n+1∧row[a]? = some (.put i sh)∧(stN T k m row a).1.getD i.toNat none=some p∧∀r,a<r→r<n+1→∀i',row[r]? ≠ some (.put i' sh):=fun h bB=>by
   obtain⟨a,i,h1,h2,h3,h4⟩:=vU aX n sh p (by omega) h0 h
   refine⟨a,i,by omega,h2,h3,fun r hr vi i' Xo=>?_⟩
   by_cases c:r=n
   · rw [c,e] at Xo;exact bB i' (Option.some.inj Xo)
   · exact h4 r hr (by omega) i' Xo
  cases d with
  | take x i=>exact keep h (fun _ z=>nomatch z)
  | join f i j l=>exact keep h (fun _ z=>nomatch z)
  | fetch s i=>exact keep h (fun _ z=>nomatch z)
  | put i s=>
   have hs:=hd.2 s (by simp [au.sn])
   by_cases c:sh=s
   · subst c
     refine⟨n,i,by omega,e,?_,fun r h1 h2=>by omega⟩
     have h:((stN T k m row n).2.set sh.toNat ((stN T k m row n).1.getD i.toNat none)).getD sh.toNat none=some p:=h
     have:=(sL (T:=T) (k:=k) (m:=m) (row:=row) n).2
     rw [jF,if_pos ⟨rfl,by have:=hs.2;have:=hs.1;omega⟩] at h
     exact h
   · have h:((stN T k m row n).2.set s.toNat ((stN T k m row n).1.getD i.toNat none)).getD sh.toNat none=some p:=h
     rw [jF,if_neg (by have:=hs.1;omega)] at h
     exact keep h (fun i' z=>c (au.put.inj z).2.symm)
noncomputable def Made (T:Tr α) (k m:Nat) (row:List (au α)) (p:List Nat) (b:Nat):Prop:=(∃x i,row[b]? = some (.take x i)∧firstOf x (T.wk [])=some p)∨∃f i j h,row[b]? = some (.join f i j h)∧over T f ((stN T k m row b).1.getD i.toNat none) ((stN T k m row b).1.getD j.toNat none)=some p
structure Life (T:Tr α) (k m:Nat) (row:List (au α)) (p:List Nat) (b n:Nat) (mv:List (Nat×Nat)):Prop where
 le:b<n
 made:Made T k m row p b
 Wl:∀x∈mv,b<x.1∧x.2<n∧kM T k m row x.1 p∧oK row x.1 x.2
 at':∀τ,b<τ→τ≤n→vw T k m row τ p∨∃x∈mv,x.1<τ∧τ≤x.2
theorem life (aX:∀d∈row,d.ok k m):∀(n:Nat) (i:Nat) (p:List Nat),n≤row.length→(stN T k m row n).1.getD i none=some p→∃b mv,Life T k m row p b n mv:=by
 intro n
 induction n using Nat.strongRecOn with
 | ind n ih=>
 intro i p hn h
 cases n with
 | zero=>exact(y3 h).elim
 | succ n=>
 have hb:vw T k m row (n+1) p:=(getD_mem h).1
 have e:row[n]? = some row[n]:=List.getElem?_eq_getElem (by omega)
 have hd:=aX row[n] (List.getElem_mem _)
 generalize row[n]=d at e hd
 have hlen:=sL (T:=T) (k:=k) (m:=m) (row:=row) n
 have IP:=Ay (T:=T) (k:=k) (m:=m) e
 have QF:Made T k m row p n→∃b mv,Life T k m row p b (n+1) mv:=fun mk=>⟨n,[],by omega,mk,by simp,fun τ h1 h2=>by
  have:τ=n+1:=by omega
  subst this;exact .inl hb⟩
 have lB:(stN T k m row n).1.getD i none=some p→∃b mv,Life T k m row p b (n+1) mv:=fun h=>by
  obtain⟨b,mv,L⟩:=ih n (by omega) i p (by omega) h
  refine⟨b,mv,by have:=L.le;omega,L.made,fun x hx=>?_,fun τ h1 h2=>?_⟩
  · obtain⟨g1,g2,g3⟩:=L.Wl x hx
    exact⟨g1,by omega,g3⟩
  · by_cases c:τ=n+1
    · subst c;exact .inl hb
    · exact L.at' τ h1 (by omega)
 rw [IP] at h
 cases d with
 | put s j=>exact lB h
 | take x j=>
  have h:((stN T k m row n).1.set j.toNat (firstOf x (T.wk []))).getD i none=some p:=h
  rw [jF] at h
  split at h
  · exact QF (.inl ⟨x,j,e,h⟩)
  · exact lB h
 | join f i1 j1 l=>
  have h:((stN T k m row n).1.set l.toNat (over T f ((stN T k m row n).1.getD i1.toNat none) ((stN T k m row n).1.getD j1.toNat none))).getD i none=some p:=h
  rw [jF] at h
  split at h
  · exact QF (.inr ⟨f,i1,j1,l,e,h⟩)
  · exact lB h
 | fetch s j=>
  have h:((stN T k m row n).1.set j.toNat ((stN T k m row n).2.getD s.toNat none)).getD i none=some p:=h
  rw [jF] at h
  split at h
  · have hs:=hd.2 s (by simp [au.sn])
    obtain⟨a,i2,h1,h2,h3,h4⟩:=vU aX n s p (by omega) hs.1 h
    obtain⟨b,mv,L⟩:=ih a (by omega) i2.toNat p (by omega) h3
    refine⟨b,(a,n)::mv,by have:=L.le;omega,L.made,fun x hx=>?_,fun τ g1 g2=>?_⟩
    · rcases List.mem_cons.mp hx with rfl|hx
      · exact⟨L.le,by show n<n+1;omega,⟨i2,s,h2,h3⟩,h1,i2,s,j,h2,e,h4⟩
      · obtain⟨g1,g2,g3⟩:=L.Wl x hx
        exact⟨g1,by omega,g3⟩
    · by_cases c:τ≤a
      · rcases L.at' τ g1 c with z|⟨x,hx,z⟩
        · exact .inl z
        · exact .inr ⟨x,List.mem_cons_of_mem _ hx,z⟩
      · by_cases c2:τ=n+1
        · subst c2;exact .inl hb
        · exact .inr ⟨(a,n),List.mem_cons_self,by show a<τ;omega,by show τ≤n;omega⟩
  · exact lB h
end
end M
set_option linter.all false
namespace M
variable {α : Type}
section
variable [DecidableEq α]
inductive jB (T:Tr α) (k m:Nat) (row:List (au α)):Tr α→List Nat→Nat→Type
 | leaf (x:α) (p:List Nat) (b n:Nat) (mv:List (Nat×Nat)) (L:Life T k m row p b n mv):jB T k m row (.leaf x) p n
 | knot (f:α) (l r:Tr α) (p:List Nat) (b n:Nat) (mv:List (Nat×Nat)) (L:Life T k m row p b n mv) (d0:jB T k m row l (p++[0]) b) (d1:jB T k m row r (p++[1]) b):jB T k m row (.knot f l r) p n
variable {T : Tr α} {k m : Nat} {row : List (au α)}
theorem jY {x:α}{p:List Nat}:∀{l:List (List Nat×Tr α)},firstOf x l=some p→∃q∈l,q.1=p∧q.2 = .leaf x
 | [],h=>by cases h
 | q::r,h=>by
  simp only [firstOf] at h
  split at h
  · rename_i c
    cases h
    refine⟨q,List.mem_cons_self,rfl,?_⟩
    have h1:=c.1
    have h2:=c.2
    generalize q.2=u at h1 h2
    cases u with
    | leaf y=>exact congrArg Tr.leaf h2
    | knot=>cases h1
  · obtain⟨q',h1,h2⟩:=jY h
    exact⟨q',List.mem_cons_of_mem _ h1,h2⟩
theorem drv (aX:∀d∈row,d.ok k m) (s:Tr α):∀(p:List Nat) (n:Nat),T.sub p=some s→n≤row.length→vw T k m row n p→Nonempty (jB T k m row s p n):=by
 induction s with
 | leaf x=>
  intro p n hs hn hb
  obtain⟨i,_,hi⟩:=mem_getD hb
  obtain⟨b,mv,L⟩:=life aX n i p hn hi
  exact⟨.leaf x p b n mv L⟩
 | knot f l r ihl ihr=>
  intro p n hs hn hb
  obtain⟨i,_,hi⟩:=mem_getD hb
  obtain⟨b,mv,L⟩:=life aX n i p hn hi
  rcases L.made with ⟨x,j,_,h⟩|⟨g,i1,j1,h,_,ho⟩
  · obtain⟨q,hq,rfl,e⟩:=jY h
    have:=Tr.i7 hq
    rw [hs,e] at this;cases this
  · obtain⟨e1,e2,_⟩:=ng ho
    obtain⟨d0⟩:=ihl _ b (Tr.Lg hs) (by have:=L.le;omega) (getD_mem e1).1
    obtain⟨d1⟩:=ihr _ b (Tr.Lu hs) (by have:=L.le;omega) (getD_mem e2).1
    exact⟨.knot f l r p b n mv L d0 d1⟩
noncomputable def gv (mv:List (Nat×Nat)) (τ:Nat):Option Nat:=(mv.find? fun x=>decide (x.1<τ∧τ≤x.2)).map (·.1)
theorem kb {mv:List (Nat×Nat)}{τ:Nat} (h:gv mv τ=none):∀x∈mv,¬(x.1<τ∧τ≤x.2):=by
 unfold gv at h
 rw [Option.map_eq_none_iff,List.find?_eq_none] at h
 intro x hx z
 exact h x hx (decide_eq_true z)
theorem kl {mv:List (Nat×Nat)}{τ a:Nat} (h:gv mv τ=some a):∃x∈mv,x.1=a∧x.1<τ∧τ≤x.2:=by
 unfold gv at h
 obtain⟨x,hx,rfl⟩:=Option.map_eq_some_iff.mp h
 have:=List.find?_some hx
 exact⟨x,List.mem_of_find?_eq_some hx,rfl,by simpa using this⟩
namespace jB
noncomputable def al:{s:Tr α}→{p:List Nat}→{n:Nat}→jB T k m row s p n→Nat→List (List Nat×Option Nat)
 | _,_,_,.leaf _ p b n mv _,τ=>if b<τ∧τ≤n then [(p,gv mv τ)] else []
 | _,_,_,.knot _ _ _ p b n mv _ d0 d1,τ=>if τ≤b then d0.al τ++d1.al τ else if τ≤n then [(p,gv mv τ)] else []
theorem own {p:List Nat}{b n τ:Nat}{mv:List (Nat×Nat)} (L:Life T k m row p b n mv) (h1:b<τ) (h2:τ≤n):(gv mv τ=none→vw T k m row τ p)∧∀a,gv mv τ=some a→b<a∧a<τ∧kM T k m row a p∧∃f,oK row a f:=by
 refine⟨fun h=>?_,fun a h=>?_⟩
 · rcases L.at' τ h1 h2 with z|⟨x,hx,z⟩
   · exact z
   · exact absurd z (kb h x hx)
 · obtain⟨x,hx,rfl,h3,h4⟩:=kl h
   obtain⟨g1,g2,g3,g4⟩:=L.Wl x hx
   exact⟨g1,h3,g3,_,g4⟩
theorem nP {s:Tr α}{p:List Nat}{n:Nat} (d:jB T k m row s p n):∀τ,∀x∈d.al τ,p <+: x.1∧τ≤n∧(x.2=none→vw T k m row τ x.1)∧∀a,x.2=some a→a<τ∧kM T k m row a x.1∧∃f,oK row a f:=by
 induction d with
 | leaf x p b n mv L=>
  intro τ y hy
  simp only [al] at hy
  split at hy
  · rename_i c
    rw [List.mem_singleton.mp hy]
    have:=own L c.1 c.2
    exact⟨List.prefix_rfl,c.2,this.1,fun a ha=>(this.2 a ha).2⟩
  · cases hy
 | knot f l r p b n mv L d0 d1 ih0 ih1=>
  intro τ y hy
  have hle:=L.le
  simp only [al] at hy
  split at hy
  · rcases List.mem_append.mp hy with hy|hy
    · obtain⟨g1,g2,g3⟩:=ih0 τ y hy
      exact⟨(List.prefix_append p [0]).trans g1,by omega,g3⟩
    · obtain⟨g1,g2,g3⟩:=ih1 τ y hy
      exact⟨(List.prefix_append p [1]).trans g1,by omega,g3⟩
  · split at hy
    · rename_i c1 c2
      rw [List.mem_singleton.mp hy]
      have:=own L (by omega) c2
      exact⟨List.prefix_rfl,c2,this.1,fun a ha=>(this.2 a ha).2⟩
    · cases hy
theorem iN {p q:List Nat} (h0:p++[0] <+: q) (h1:p++[1] <+: q):False:=by
 obtain⟨a,rfl⟩:=h0
 obtain⟨b,h⟩:=h1
 simp at h
theorem G2 {s:Tr α}{p:List Nat}{n:Nat} (d:jB T k m row s p n):∀τ,((d.al τ).map (·.1)).Nodup:=by
 induction d with
 | leaf x p b n mv L=>
  intro τ
  simp only [al]
  split<;>simp
 | knot f l r p b n mv L d0 d1 ih0 ih1=>
  intro τ
  simp only [al]
  split
  · rw [List.map_append,List.nodup_append]
    refine⟨ih0 τ,ih1 τ,fun x hx y hy e=>?_⟩
    obtain⟨u,hu,rfl⟩:=List.mem_map.mp hx
    obtain⟨v,hv,e2⟩:=List.mem_map.mp hy
    have g1:=(nP d0 τ u hu).1
    have g2:=(nP d1 τ v hv).1
    rw [e2,←e] at g2
    exact iN g1 g2
  · split<;>simp
theorem CY {s:Tr α}{p:List Nat}{n:Nat} (d:jB T k m row s p n):∀τ τ',τ≤τ'→τ'≤n→∀x∈d.al τ,∃y∈d.al τ',y.1 <+: x.1∧(x.2=none→∀a,y.2=some a→τ≤a):=by
 induction d with
 | leaf z p b n mv L=>
  intro τ τ' h1 h2 x hx
  simp only [al] at hx
  split at hx
  · rename_i c
    rw [List.mem_singleton.mp hx]
    refine⟨(p,gv mv τ'),by simp only [al];rw [if_pos ⟨by omega,h2⟩];exact List.mem_singleton.mpr rfl,List.prefix_rfl,fun hn a ha=>?_⟩
    obtain⟨x,hx,rfl,g1,g2⟩:=kl ha
    have:=kb hn x hx
    omega
  · cases hx
 | knot f l r p b n mv L d0 d1 ih0 ih1=>
  intro τ τ' h1 h2 x hx
  by_cases c':τ'≤b
  · have c:τ≤b:=by omega
    simp only [al,if_pos c,if_pos c'] at hx ⊢
    rcases List.mem_append.mp hx with hx|hx
    · obtain⟨y,hy,g⟩:=ih0 τ τ' h1 c' x hx
      exact⟨y,List.mem_append_left _ hy,g⟩
    · obtain⟨y,hy,g⟩:=ih1 τ τ' h1 c' x hx
      exact⟨y,List.mem_append_right _ hy,g⟩
  · have hy:(p,gv mv τ')∈(jB.knot f l r p b n mv L d0 d1).al τ':=by
     simp only [al];rw [if_neg c',if_pos h2];exact List.mem_singleton.mpr rfl
    refine⟨_,hy,(nP _ τ x hx).1,fun hn a ha=>?_⟩
    by_cases c:τ≤b
    · have:=(own L (show b<τ' by omega) h2).2 a ha
      omega
    · simp only [al] at hx
      rw [if_neg c,if_pos (by omega)] at hx
      rw [List.mem_singleton.mp hx] at hn
      obtain⟨z,hz,rfl,g1,g2⟩:=kl ha
      have:=kb hn z hz
      omega
theorem I9 {s:Tr α}{p:List Nat}{n:Nat} (d:jB T k m row s p n):∃τ,τ≤n∧s.rk≤(d.al τ).length:=by
 induction d with
 | leaf x p b n mv L=>
  refine⟨n,Nat.le_refl _,?_⟩
  simp only [al]
  rw [if_pos ⟨L.le,Nat.le_refl _⟩]
  exact Nat.le_refl 1
 | knot f l r p b n mv L d0 d1 ih0 ih1=>
  obtain⟨τ0,h0,g0⟩:=ih0
  obtain⟨τ1,h1,g1⟩:=ih1
  have hle:=L.le
  have len:∀τ,τ≤b→((jB.knot f l r p b n mv L d0 d1).al τ).length=(d0.al τ).length+(d1.al τ).length:=fun τ hτ=>by
   simp only [al];rw [if_pos hτ,List.length_append]
  have e:(Tr.knot f l r).rk=if l.rk=r.rk then l.rk+1 else max l.rk r.rk:=rfl
  have pl:=l.G4
  have pr:=r.G4
  have pos:∀{s':Tr α}{p':List Nat} (d':jB T k m row s' p' b) (τ τ':Nat),τ≤τ'→τ'≤b→1≤(d'.al τ).length→1≤(d'.al τ').length:=fun d' τ τ' q1 q2 q3=>by
   obtain⟨x,hx⟩:=List.exists_mem_of_length_pos q3
   obtain⟨y,hy,_⟩:=CY d' τ τ' q1 q2 x hx
   exact List.length_pos_of_mem hy
  rw [e]
  split
  · rename_i c
    by_cases q:τ0≤τ1
    · refine⟨τ1,by omega,?_⟩
      rw [len _ h1]
      have:=pos d0 τ0 τ1 q h1 (by omega)
      omega
    · refine⟨τ0,by omega,?_⟩
      rw [len _ h0]
      have:=pos d1 τ1 τ0 (by omega) h0 (by omega)
      omega
  · by_cases q:r.rk≤l.rk
    · exact⟨τ0,by omega,by rw [len _ h0];omega⟩
    · exact⟨τ1,by omega,by rw [len _ h1];omega⟩
end jB
end
end M
set_option linter.all false
namespace M
variable {α : Type}
noncomputable def oz (k:Nat):Tr α→Nat
 | .leaf _=>0
 | .knot _ l r=>oz k l+oz k r+if l.rk+1=k∧r.rk+1=k then 1 else 0
noncomputable def iI (k:Nat):Tr α→Nat
 | .leaf _=>0
 | .knot _ l r=>iI k l+iI k r+if k≤l.rk∧k≤r.rk then 1 else 0
theorem tq (f:α) (l r:Tr α):(Tr.knot f l r).rk=if l.rk=r.rk then l.rk+1 else max l.rk r.rk:=rfl
theorem EV (k:Nat) (hk:2≤k) (t:Tr α):iI k t+(if k≤t.rk then 1 else 0)=oz k t:=by
 induction t with
 | leaf x=>
  have:(Tr.leaf x).rk=1:=rfl
  simp only [iI,oz,this]
  rw [if_neg (by omega)]
 | knot f l r ihl ihr=>
  have e:=tq f l r
  simp only [iI,oz,←ihl,←ihr]
  generalize (Tr.knot f l r).rk=R at e ⊢
  generalize l.rk=x at e ⊢
  generalize r.rk=y at e ⊢
  by_cases c:x=y
  · rw [if_pos c] at e
    repeat' split
    all_goals omega
  · rw [if_neg c] at e
    repeat' split
    all_goals omega
theorem q9 {k:Nat} (hk:2≤k) {t:Tr α} (h:t.rk<k):oz k t=0:=by
 induction t with
 | leaf x=>rfl
 | knot f l r ihl ihr=>
  rw [tq] at h
  simp only [oz]
  split at h
  · rw [ihl (by omega),ihr (by omega),if_neg (by omega)]
  · rw [ihl (by omega),ihr (by omega),if_neg (by omega)]
theorem wd {β:Type} [DecidableEq β]:∀{Y Z:List β},Y.Nodup→(∀y∈Y,y∈Z)→Y.length≤Z.length
 | [],_,_,_=>Nat.zero_le _
 | y::Y,Z,nd,h=>by
  have nd:=List.nodup_cons.mp nd
  have hy:=h y List.mem_cons_self
  have:=wd (Z:=Z.erase y) nd.2 fun x hx=>by
   refine (List.mem_erase_of_ne ?_).mpr (h x (List.mem_cons_of_mem _ hx))
   intro e;rw [e] at hx;exact nd.1 hx
  rw [List.length_erase_of_mem hy] at this
  have:=List.length_pos_of_mem hy
  simp only [List.length_cons];omega
theorem Ex {β:Type} [DecidableEq β] {Y Z:List β} (nd:Y.Nodup) (h:∀y∈Y,y∈Z) (l:Z.length≤Y.length):∀z∈Z,z∈Y:=by
 intro z hz
 refine Classical.byContradiction fun c=>?_
 have:=wd (Z:=Z.erase z) nd fun y hy=>(List.mem_erase_of_ne (fun e=>c (by rw [←e];exact hy))).mpr (h y hy)
 rw [List.length_erase_of_mem hz] at this
 have:=List.length_pos_of_mem hz
 omega
section
variable [DecidableEq α] {T : Tr α} {k m : Nat} {row : List (au α)}
theorem kM.fn {a:Nat}{q q':List Nat} (h:kM T k m row a q) (h':kM T k m row a q'):q=q':=by
 obtain⟨i,s,e,g⟩:=h
 obtain⟨i',s',e',g'⟩:=h'
 rw [e] at e'
 cases e'
 rw [g] at g'
 exact Option.some.inj g'
theorem KQ {a b c:List Nat} (h1:a <+: c) (h2:b <+: c):a <+: b∨b <+: a:=List.prefix_or_prefix_of_prefix h1 h2
noncomputable def j6 (T:Tr α) (k m:Nat) (row:List (au α)) (p:List Nat) (n a:Nat):Prop:=a<n∧(∃f,oK row a f)∧∃q,kM T k m row a q∧p <+: q
structure Full (T:Tr α) (k m:Nat) (row:List (au α)) {s:Tr α}{p:List Nat}{n:Nat} (d:jB T k m row s p n) (A:List Nat) (mo:Nat) (c:List Nat):Prop where
 le:mo≤n
 IQ:p <+: c
 all:∀o∈(stN T k m row mo).1,∃q,o=some q∧c <+: q
 one:∃x∈d.al mo,x.2=none∧c <+: x.1
 old:∀a∈A,∀q,kM T k m row a q→a<mo∨(¬c <+: q∧¬q <+: c)
theorem extra {s:Tr α}{p c:List Nat}{n mo τ:Nat}{d:jB T k m row s p n}{A:List Nat} (F:Full T k m row d A mo c) (h1:mo≤τ) (h2:τ≤n) (h3:∀q,vw T k m row τ q→¬p <+: q) :
 ∃a,mo≤a∧a<τ∧j6 T k m row p τ a∧a∉A:=by
 obtain⟨x,hx,hn,hc⟩:=F.one
 obtain⟨y,hy,hyx,IP⟩:=d.CY mo τ h1 h2 x hx
 obtain⟨g1,_,g3,g4⟩:=d.nP τ y hy
 cases e:y.2 with
 | none=>exact absurd g1 (h3 _ (g3 e))
 | some a=>
  obtain⟨q1,q2,q3⟩:=g4 a e
  refine⟨a,IP hn a e,q1,⟨q1,q3,y.1,q2,g1⟩,fun hA=>?_⟩
  rcases F.old a hA _ q2 with z|⟨z1,z2⟩
  · have:=IP hn a e;omega
  · rcases KQ hc hyx with z|z
    · exact z1 z
    · exact z2 z
theorem La (hk:2≤k) {s:Tr α}{p:List Nat}{n:Nat} (d:jB T k m row s p n):∃A:List Nat,A.Nodup∧(∀a∈A,j6 T k m row p n a)∧(∀a∈A,s.eR=false→∀q,kM T k m row a q→q≠p)∧(oz k s≤A.length∨oz k s≤A.length+1∧∃mo c,Full T k m row d A mo c):=by
 induction d with
 | leaf x p b n mv L=>exact⟨[],List.nodup_nil,by simp,by simp,.inl (Nat.le_refl _)⟩
 | knot f l r p b n mv L d0 d1 ih0 ih1=>
  have hle:=L.le
  have strict:∀{i:Nat}{q:List Nat},p++[i] <+: q→q≠p:=fun {i q} h e=>by
   have h1:=h.length_le
   have h2:=congrArg List.length e
   rw [List.length_append] at h1
   simp only [List.length_cons,List.length_nil] at h1
   omega
  have up:∀{i:Nat}{q:List Nat},p++[i] <+: q→p <+: q:=fun {i q} h=>(List.prefix_append p [i]).trans h
  have Oz:∀τ,τ≤b→(jB.knot f l r p b n mv L d0 d1).al τ=d0.al τ++d1.al τ:=fun τ hτ=>by simp only [jB.al];rw [if_pos hτ]
  by_cases hδ:l.rk+1=k∧r.rk+1=k
  · have c1:oz k (Tr.knot f l r)=1:=by
     simp only [oz]
     rw [q9 hk (by omega:l.rk<k),q9 hk (by omega:r.rk<k),if_pos hδ]
    rw [c1]
    obtain⟨τ,hτ,hr⟩:=(jB.knot f l r p b n mv L d0 d1).I9
    rw [tq,if_pos (by omega)] at hr
    have hb:τ≤b:=by
     refine Nat.le_of_not_lt fun c=>?_
     simp only [jB.al] at hr
     rw [if_neg (by omega),if_pos hτ] at hr
     simp at hr;omega
    have Vw:∀x∈(jB.knot f l r p b n mv L d0 d1).al τ,x.1≠p:=fun x hx=>by
     rw [Oz τ hb] at hx
     rcases List.mem_append.mp hx with hx|hx
     · exact strict (d0.nP τ x hx).1
     · exact strict (d1.nP τ x hx).1
    by_cases hs:∃x∈(jB.knot f l r p b n mv L d0 d1).al τ,∃a,x.2=some a
    · obtain⟨x,hx,a,ha⟩:=hs
      obtain⟨g1,_,_,g4⟩:=jB.nP _ τ x hx
      obtain⟨q1,q2,q3⟩:=g4 a ha
      refine⟨[a],by simp,fun a' h'=>?_,fun a' h' _ q hq=>?_,.inl (Nat.le_refl _)⟩
      · rw [List.mem_singleton.mp h'];exact⟨by omega,q3,x.1,q2,g1⟩
      · rw [List.mem_singleton.mp h'] at hq
        rw [hq.fn q2];exact Vw x hx
    · have LX:∀x∈(jB.knot f l r p b n mv L d0 d1).al τ,x.2=none:=fun x hx=>by
       cases e:x.2 with
       | none=>rfl
       | some a=>exact absurd ⟨x,hx,a,e⟩ hs
      refine⟨[],by simp,by simp,by simp,.inr ⟨Nat.le_refl _,τ,p,?_⟩⟩
      have nd:=jB.G2 (jB.knot f l r p b n mv L d0 d1) τ
      have all:∀o∈(stN T k m row τ).1,o∈((jB.knot f l r p b n mv L d0 d1).al τ).map fun x=>some x.1:=by
       refine Ex ?_ (fun o ho=>?_) ?_
       · have:(((jB.knot f l r p b n mv L d0 d1).al τ).map fun x=>some x.1)=((((jB.knot f l r p b n mv L d0 d1).al τ).map (·.1)).map some):=by rw [List.map_map];rfl
         rw [this]
         exact List.Pairwise.map _ (fun _ _ h e=>h (Option.some.inj e)) nd
       · obtain⟨x,hx,rfl⟩:=List.mem_map.mp ho
         exact(jB.nP _ τ x hx).2.2.1 (LX x hx)
       · rw [(sL τ).1,List.length_map];omega
      refine⟨hτ,List.prefix_rfl,fun o ho=>?_,?_,by simp⟩
      · obtain⟨x,hx,rfl⟩:=List.mem_map.mp (all o ho)
        exact⟨x.1,rfl,(jB.nP _ τ x hx).1⟩
      · obtain⟨x,hx⟩:=List.exists_mem_of_length_pos (show 0<((jB.knot f l r p b n mv L d0 d1).al τ).length by omega)
        exact⟨x,hx,LX x hx,(jB.nP _ τ x hx).1⟩
  · have c1:oz k (Tr.knot f l r)=oz k l+oz k r:=by simp only [oz];rw [if_neg hδ];omega
    rw [c1]
    obtain⟨A0,n0,g0,_,h0⟩:=ih0
    obtain⟨A1,n1,g1,_,h1⟩:=ih1
    have apart:∀a,j6 T k m row (p++[0]) b a→j6 T k m row (p++[1]) b a→False:=fun a ⟨_,_,q,hq,hp⟩ ⟨_,_,q',Gp,Kt⟩=>by
     rw [hq.fn Gp] at hp
     exact jB.iN hp Kt
    have nd:(A0++A1).Nodup:=List.nodup_append.mpr ⟨n0,n1,fun x hx y hy e=>apart x (g0 x hx) (e▸g1 y hy)⟩
    have good:∀a∈A0++A1,j6 T k m row p n a:=fun a ha=>by
     rcases List.mem_append.mp ha with ha|ha
     · obtain⟨q1,q2,q,q3,q4⟩:=g0 a ha
       exact⟨by omega,q2,q,q3,up q4⟩
     · obtain⟨q1,q2,q,q3,q4⟩:=g1 a ha
       exact⟨by omega,q2,q,q3,up q4⟩
    have str:∀a∈A0++A1,∀q,kM T k m row a q→q≠p:=fun a ha q hq=>by
     rcases List.mem_append.mp ha with ha|ha
     · obtain⟨_,_,q',q3,q4⟩:=g0 a ha
       rw [hq.fn q3];exact strict q4
     · obtain⟨_,_,q',q3,q4⟩:=g1 a ha
       rw [hq.fn q3];exact strict q4
    have IV:∀{i j:Nat}{c q:List Nat},i≠j→p++[i] <+: c→p++[j] <+: q→¬c <+: q∧¬q <+: c:=fun {i j c q} hij h1 h2=>by
     have key:∀{u:List Nat},p++[i] <+: u→p++[j] <+: u→False:=fun {u} a b=>by
      obtain⟨x,rfl⟩:=a
      obtain⟨y,e⟩:=b
      simp at e
      exact hij e.1.symm
     exact⟨fun z=>key (h1.trans z) h2,fun z=>key h1 (h2.trans z)⟩
    have O9:∀{τ:Nat}{x:List Nat×Option Nat},τ≤b→x∈d0.al τ→x∈(jB.knot f l r p b n mv L d0 d1).al τ:=fun {τ x} hτ hx=>by rw [Oz τ hτ];exact List.mem_append_left _ hx
    have PB:∀{τ:Nat}{x:List Nat×Option Nat},τ≤b→x∈d1.al τ→x∈(jB.knot f l r p b n mv L d0 d1).al τ:=fun {τ x} hτ hx=>by rw [Oz τ hτ];exact List.mem_append_right _ hx
    have PQ:∀{c:List Nat}{a:Nat}{q:List Nat},p++[1] <+: c→a∈A0→kM T k m row a q→¬c <+: q∧¬q <+: c:=fun {c a q} hc ha hq=>by
     obtain⟨_,_,q',q3,q4⟩:=g0 a ha
     rw [hq.fn q3];exact IV (by decide) hc q4
    have Rp:∀{c:List Nat}{a:Nat}{q:List Nat},p++[0] <+: c→a∈A1→kM T k m row a q→¬c <+: q∧¬q <+: c:=fun {c a q} hc ha hq=>by
     obtain⟨_,_,q',q3,q4⟩:=g1 a ha
     rw [hq.fn q3];exact IV (by decide) hc q4
    have aeM:∃o,∀mo,o<(stN T k m row mo).1.length:=⟨0,fun mo=>by rw [(sL mo).1];omega⟩
    rcases h0 with h0|⟨h0,Tw,c0,F0⟩
    · rcases h1 with h1|⟨h1,Qn,c1',F1⟩
      · exact⟨A0++A1,nd,good,fun a ha _=>str a ha,.inl (by rw [List.length_append];omega)⟩
      · refine⟨A0++A1,nd,good,fun a ha _=>str a ha,.inr ⟨by rw [List.length_append];omega,Qn,c1',by have:=F1.le;omega,up F1.IQ,F1.all,?_,fun a ha q hq=>?_⟩⟩
        · obtain⟨x,hx,z⟩:=F1.one
          exact⟨x,PB F1.le hx,z⟩
        · rcases List.mem_append.mp ha with ha|ha
          · exact .inr (PQ F1.IQ ha hq)
          · exact F1.old a ha q hq
    · rcases h1 with h1|⟨h1,Qn,c1',F1⟩
      · refine⟨A0++A1,nd,good,fun a ha _=>str a ha,.inr ⟨by rw [List.length_append];omega,Tw,c0,by have:=F0.le;omega,up F0.IQ,F0.all,?_,fun a ha q hq=>?_⟩⟩
        · obtain⟨x,hx,z⟩:=F0.one
          exact⟨x,O9 F0.le hx,z⟩
        · rcases List.mem_append.mp ha with ha|ha
          · exact F0.old a ha q hq
          · exact .inr (Rp F0.IQ ha hq)
      · have YG:∀q,vw T k m row Qn q→¬p++[0] <+: q:=fun q hq z=>by
         obtain⟨q',e,hc⟩:=F1.all _ hq
         cases e
         exact jB.iN z (F1.IQ.trans hc)
        have Wn:∀q,vw T k m row Tw q→¬p++[1] <+: q:=fun q hq z=>by
         obtain⟨q',e,hc⟩:=F0.all _ hq
         cases e
         exact jB.iN (F0.IQ.trans hc) z
        by_cases c:Tw≤Qn
        · obtain⟨a,b1,b2,b3,b4⟩:=extra F0 c F1.le YG
          have Nu:j6 T k m row (p++[0]) b a:=⟨by have:=F1.le;omega,b3.2⟩
          have nA:a∉A0++A1:=fun z=>by
           rcases List.mem_append.mp z with z|z
           · exact b4 z
           · exact apart a Nu (g1 a z)
          refine⟨a::(A0++A1),List.nodup_cons.mpr ⟨nA,nd⟩,fun x hx=>?_,fun x hx _ q hq=>?_,.inr ⟨by simp only [List.length_cons,List.length_append];omega,Qn,c1',by have:=F1.le;omega,up F1.IQ,F1.all,?_,fun x hx q hq=>?_⟩⟩
          · rcases List.mem_cons.mp hx with rfl|hx
            · obtain⟨q1,q2,q,q3,q4⟩:=Nu
              exact⟨by omega,q2,q,q3,up q4⟩
            · exact good x hx
          · rcases List.mem_cons.mp hx with rfl|hx
            · obtain⟨q1,q2,q',q3,q4⟩:=Nu
              rw [hq.fn q3];exact strict q4
            · exact str x hx q hq
          · obtain⟨x,hx,z⟩:=F1.one
            exact⟨x,PB F1.le hx,z⟩
          · rcases List.mem_cons.mp hx with rfl|hx
            · exact .inl b2
            · rcases List.mem_append.mp hx with hx|hx
              · exact .inr (PQ F1.IQ hx hq)
              · exact F1.old x hx q hq
        · obtain⟨a,b1,b2,b3,b4⟩:=extra F1 (by omega) F0.le Wn
          have Nu:j6 T k m row (p++[1]) b a:=⟨by have:=F0.le;omega,b3.2⟩
          have nA:a∉A0++A1:=fun z=>by
           rcases List.mem_append.mp z with z|z
           · exact apart a (g0 a z) Nu
           · exact b4 z
          refine⟨a::(A0++A1),List.nodup_cons.mpr ⟨nA,nd⟩,fun x hx=>?_,fun x hx _ q hq=>?_,.inr ⟨by simp only [List.length_cons,List.length_append];omega,Tw,c0,by have:=F0.le;omega,up F0.IQ,F0.all,?_,fun x hx q hq=>?_⟩⟩
          · rcases List.mem_cons.mp hx with rfl|hx
            · obtain⟨q1,q2,q,q3,q4⟩:=Nu
              exact⟨by omega,q2,q,q3,up q4⟩
            · exact good x hx
          · rcases List.mem_cons.mp hx with rfl|hx
            · obtain⟨q1,q2,q',q3,q4⟩:=Nu
              rw [hq.fn q3];exact strict q4
            · exact str x hx q hq
          · obtain⟨x,hx,z⟩:=F0.one
            exact⟨x,O9 F0.le hx,z⟩
          · rcases List.mem_cons.mp hx with rfl|hx
            · exact .inl b2
            · rcases List.mem_append.mp hx with hx|hx
              · exact F0.old x hx q hq
              · exact .inr (Rp F0.IQ hx hq)
end
end M
set_option linter.all false
namespace M
variable {α : Type}
theorem jJ {β:Type} (P:β→Bool):∀(l:List β) (I:List Nat),I.Nodup→(∀i∈I,∃x,l[i]? = some x∧P x=true)→I.length≤l.countP P
 | [],I,_,h=>by
  cases I with
  | nil=>exact Nat.le_refl _
  | cons i I=>obtain⟨x,hx,_⟩:=h i List.mem_cons_self;simp at hx
 | y::l,I,nd,h=>by
  have OQ:((I.filter fun i=>decide (i≠0)).map (· - 1)).Nodup:=by
   have h1:(I.filter fun i=>decide (i≠0)).Nodup:=nd.filter _
   refine List.pairwise_map.mpr (List.Pairwise.imp_of_mem ?_ h1)
   intro a b ha hb CP e
   have:=of_decide_eq_true (List.mem_filter.mp ha).2
   have:=of_decide_eq_true (List.mem_filter.mp hb).2
   exact CP (by omega)
  have ih:=jJ P l _ OQ fun i hi=>by
   obtain⟨j,hj,rfl⟩:=List.mem_map.mp hi
   have h1:=List.mem_filter.mp hj
   have h2:=of_decide_eq_true h1.2
   obtain⟨x,hx,hp⟩:=h j h1.1
   cases j with
   | zero=>exact absurd rfl h2
   | succ j=>exact⟨x,hx,hp⟩
  rw [List.length_map] at ih
  have hlen:I.length=(I.filter fun i=>decide (i≠0)).length+(I.filter fun i=>!decide (i≠0)).length:=by
   have:∀J:List Nat,J.length=(J.filter fun i=>decide (i≠0)).length+(J.filter fun i=>!decide (i≠0)).length:=fun J=>by
    induction J with
    | nil=>rfl
    | cons a J ih=>
     rw [List.length_cons,List.filter_cons,List.filter_cons]
     by_cases c:a≠0
     · rw [if_pos (decide_eq_true c),if_neg (by rw [decide_eq_true c];decide),List.length_cons];omega
     · rw [if_neg (by rw [decide_eq_false c];decide),if_pos (by rw [decide_eq_false c];rfl),List.length_cons];omega
   exact this I
  have hz:(I.filter fun i=>!decide (i≠0)).length≤if P y=true then 1 else 0:=by
   have nz:(I.filter fun i=>!decide (i≠0)).Nodup:=nd.filter _
   cases e:I.filter fun i=>!decide (i≠0) with
   | nil=>exact Nat.zero_le _
   | cons a J=>
    have ha:a∈I.filter fun i=>!decide (i≠0):=by rw [e];exact List.mem_cons_self
    have ha':=List.mem_filter.mp ha
    have a0:a=0:=by simpa using ha'.2
    obtain⟨x,hx,hp⟩:=h a ha'.1
    rw [a0] at hx
    have:y=x:=Option.some.inj hx
    rw [this,if_pos hp]
    cases J with
    | nil=>exact Nat.le_refl _
    | cons b J=>
     have hb:b∈I.filter fun i=>!decide (i≠0):=by rw [e];exact List.mem_cons_of_mem _ List.mem_cons_self
     have b0:b=0:=by simpa using (List.mem_filter.mp hb).2
     rw [e,a0,b0] at nz
     simp at nz
  rw [List.countP_cons]
  omega
namespace au
noncomputable def oN:au α→Bool
 | .take _ _=>true
 | _=>false
noncomputable def oH:au α→Bool
 | .join _ _ _ _=>true
 | _=>false
noncomputable def zy:au α→Bool
 | .put _ _=>true
 | _=>false
noncomputable def pM:au α→Bool
 | .fetch _ _=>true
 | _=>false
end au
section
variable [DecidableEq α] {T : Tr α} {k m : Nat} {row : List (au α)}
theorem Im {a a' f:Nat} (h:oK row a f) (h':oK row a' f):a=a':=by
 obtain⟨l,i,sh,j,e1,e2,e3⟩:=h
 obtain⟨l',i',sh',j',Qa,yT,e3'⟩:=h'
 rw [e2] at yT
 cases yT
 rcases Nat.lt_trichotomy a a' with z|z|z
 · exact absurd Qa (e3 a' z l' i')
 · exact z
 · exact absurd e1 (e3' a z l i)
theorem Made.fn {p q:List Nat}{b:Nat} (h:Made T k m row p b) (h':Made T k m row q b):p=q:=by
 rcases h with ⟨x,i,e,g⟩|⟨f,i,j,l,e,g⟩<;>rcases h' with ⟨x',i',e',g'⟩|⟨f',i',j',l',e',g'⟩<;>rw [e] at e'<;>cases e'<;>(rw [g] at g';exact Option.some.inj g')
theorem Lh {s:Tr α}{p:List Nat}{n:Nat} (d:jB T k m row s p n) (hs:T.sub p=some s):∃I J:List Nat,I.Nodup∧J.Nodup∧I.length=s.lv.length∧J.length+1=s.lv.length∧(∀i∈I,∃q,p <+: q∧Made T k m row q i∧∃d,row[i]? = some d∧d.oN=true)∧∀i∈J,∃q,p <+: q∧Made T k m row q i∧∃d,row[i]? = some d∧d.oH=true:=by
 induction d with
 | leaf x p b n mv L=>
  refine⟨[b],[],by simp,by simp,rfl,rfl,fun i hi=>?_,by simp⟩
  rw [List.mem_singleton.mp hi]
  refine⟨p,List.prefix_rfl,L.made,?_⟩
  rcases L.made with ⟨y,j,e,_⟩|⟨f,i,j,h,e,g⟩
  · exact⟨_,e,rfl⟩
  · obtain⟨l,r,hk⟩:=ou (ng g).2.2
    rw [hs] at hk;cases hk
 | knot f l r p b n mv L d0 d1 ih0 ih1=>
  obtain⟨I0,J0,a1,a2,a3,a4,a5,a6⟩:=ih0 (Tr.Lg hs)
  obtain⟨I1,J1,b1,b2,b3,b4,b5,b6⟩:=ih1 (Tr.Lu hs)
  have up:∀{i:Nat}{q:List Nat},p++[i] <+: q→p <+: q:=fun {i q} h=>(List.prefix_append p [i]).trans h
  have ap:∀{i:Nat}{q q':List Nat},p++[0] <+: q→p++[1] <+: q'→Made T k m row q i→Made T k m row q' i→False:=fun {i q q'} h h' g g'=>by
   rw [g.fn g'] at h
   exact jB.iN h h'
  have self:∀{j:Nat}{q:List Nat},p++[j] <+: q→Made T k m row q b→False:=fun {j q} h g=>by
   have e:=L.made.fn g
   have h1:=h.length_le
   rw [←e,List.length_append] at h1
   simp only [List.length_cons,List.length_nil] at h1
   omega
  have hj:∃d,row[b]? = some d∧d.oH=true:=by
   rcases L.made with ⟨x,j,e,g⟩|⟨f,i,j,h,e,g⟩
   · obtain⟨q,hq,rfl,e'⟩:=jY g
     have:=Tr.i7 hq
     rw [hs,e'] at this;cases this
   · exact⟨_,e,rfl⟩
  refine⟨I0++I1,b::(J0++J1),List.nodup_append.mpr ⟨a1,b1,fun x hx y hy e=>?_⟩,List.nodup_cons.mpr ⟨fun hb=>?_,List.nodup_append.mpr ⟨a2,b2,fun x hx y hy e=>?_⟩⟩,by simp [Tr.lv,a3,b3],by simp [Tr.lv];omega,fun i hi=>?_,fun i hi=>?_⟩
  · obtain⟨q,h1,h2,_⟩:=a5 x hx
    obtain⟨q',Qv,Rw,_⟩:=b5 y hy
    exact ap h1 Qv h2 (e▸Rw)
  · rcases List.mem_append.mp hb with hb|hb
    · obtain⟨q,h1,h2,_⟩:=a6 b hb
      exact self h1 h2
    · obtain⟨q,h1,h2,_⟩:=b6 b hb
      exact self h1 h2
  · obtain⟨q,h1,h2,_⟩:=a6 x hx
    obtain⟨q',Qv,Rw,_⟩:=b6 y hy
    exact ap h1 Qv h2 (e▸Rw)
  · rcases List.mem_append.mp hi with hi|hi
    · obtain⟨q,h1,h2⟩:=a5 i hi
      exact⟨q,up h1,h2⟩
    · obtain⟨q,h1,h2⟩:=b5 i hi
      exact⟨q,up h1,h2⟩
  · rcases List.mem_cons.mp hi with rfl|hi
    · exact⟨p,List.prefix_rfl,L.made,hj⟩
    · rcases List.mem_append.mp hi with hi|hi
      · obtain⟨q,h1,h2⟩:=a6 i hi
        exact⟨q,up h1,h2⟩
      · obtain⟨q,h1,h2⟩:=b6 i hi
        exact⟨q,up h1,h2⟩
theorem FV (hk:2≤k) (aX:∀d∈row,d.ok k m) (h:vw T k m row row.length []) :
 T.lv.length≤row.countP au.oN∧T.lv.length≤row.countP au.oH+1∧iI k T≤row.countP au.zy∧iI k T≤row.countP au.pM:=by
 have h0:T.sub []=some T:=by cases T<;>rfl
 obtain⟨d⟩:=drv aX T [] row.length h0 (Nat.le_refl _) h
 obtain⟨I,J,a1,a2,a3,a4,a5,a6⟩:=Lh d h0
 obtain⟨A,b1,b2,_,b4⟩:=La hk d
 have hc:=EV k hk T
 have hA:iI k T≤A.length:=by
  by_cases c:k≤T.rk
  · rw [if_pos c] at hc
    rcases b4 with z|⟨z,_⟩<;>omega
  · rw [if_neg c] at hc
    have:=q9 hk (show T.rk<k by omega)
    omega
 have c1:=jJ au.oN row I a1 fun i hi=>by
  obtain⟨q,_,_,d,e,g⟩:=a5 i hi
  exact⟨d,e,g⟩
 have c2:=jJ au.oH row J a2 fun i hi=>by
  obtain⟨q,_,_,d,e,g⟩:=a6 i hi
  exact⟨d,e,g⟩
 have c3:=jJ au.zy row A b1 fun a ha=>by
  obtain⟨_,_,q,⟨i,sh,e,_⟩,_⟩:=b2 a ha
  exact⟨_,e,rfl⟩
 have fx:∀a,∃f,a∈A→oK row a f:=fun a=>by
  by_cases c:a∈A
  · obtain⟨_,⟨f,hf⟩,_⟩:=b2 a c
    exact⟨f,fun _=>hf⟩
  · exact⟨0,fun z=>absurd z c⟩
 have nf:(A.map fun a=>(fx a).choose).Nodup:=by
  refine List.pairwise_map.mpr (List.Pairwise.imp_of_mem ?_ b1)
  intro a b ha hb CP e
  have h1:=(fx a).choose_spec ha
  have h2:=(fx b).choose_spec hb
  rw [e] at h1
  exact CP (Im h1 h2)
 have c4:=jJ au.pM row _ nf fun f hf=>by
  obtain⟨a,ha,rfl⟩:=List.mem_map.mp hf
  obtain⟨_,i,sh,j,_,e,_⟩:=(fx a).choose_spec ha
  exact⟨_,e,rfl⟩
 rw [List.length_map] at c4
 omega
end
end M
namespace L2
open PySem PySem.W PySem.Calls
theorem By {p q:Program}{loose:List Str}{Xt:Shared→Bool}{α:Type}{Yf:Shared→α}{Ya:World→α}{N a b1 F1 F G m₀:Nat}{ann:Option Value}{S S1:World→OsState→SharedT}{b b' b2:List Stmt}{env:Env}{ps ps' ps1 pl fq:Pos} (hb:b'++b2=b)
 (he:opening p=plainProg p.main.scope.names) (hf:∀s,fenceModules? p s=some s) (hN:Nat.ble 600 N=true)
 (hz:∀w:World,((boot_heap w.params).isNs mainGlobals&&(Array.mk []:Array GenState).size==0,(boot_heap w.params).objs.size,(boot_heap w.params).nsMap mainGlobals "__annotations__")=(true,m₀,ann))
 (h1:∀w os,topGo treeTable p w m₀ ann a ⟨boot_heap w.params,Array.mk [],boot_drawn,boot_toks,os⟩ (topStub p)=some ((S w os).abs,⟨denote treeTable (.body b env),.body b env,ps,[topFrame fq]⟩))
 (h2:∀w os,segRun treeTable p w m₀ ann 1 b1 (S w os).abs (blockOf b env (.body b env) ps [topFrame fq])=some (.next,(S w os).abs,.body b env,ps'))
 (hm:∀w os,segRunT treeTable p w m₀ ann 1 F1 (S w os) (piecesOf b' env (.body b env) ps' [topFrame fq])=some (.next,S1 w os,.body b env,ps1))
 (h3:∀w os,(segRunT treeTable p w m₀ ann 1 F (S1 w os) (piecesOf b2 env (.body b env) ps1 [topFrame fq])).map (fun x=>(x.1,x.2.2.1,x.2.2.2,(topRun treeTable p w m₀ ann G x.2.1.abs ⟨doneF .next,.body b env,pl,[topFrame fq]⟩).map fun s=>
   ((staticsOk (importedModules p.main.body) (boot_heap w.params) s.heap&&namesBound p s.heap&&gensDone s&&laidKept (boot_heap w.params) s.heap),openSeen q loose (importedModules p.main.body) Xt true s,Yf s)))=some (.next,.body b env,pl,some (true,openGood q loose,Ya w)))
 (le:Nat.ble (a+(b1+(F1+(F+G)))) N=true):LeftO p q loose Xt Yf Ya N:=fun w=>by
 obtain⟨⟨h,gs,d,k,os⟩,e,e'⟩:=Option.map_eq_some_iff.mp (boot_open he hN hf w)
 obtain⟨rfl,rfl,rfl,rfl⟩:h=boot_heap w.params∧gs=Array.mk []∧d=boot_drawn∧k=boot_toks:=by simpa using e'
 obtain⟨z1,z2,z3⟩:_∧_∧_:=by simpa only [Prod.mk.injEq] using hz w
 obtain⟨⟨f,sT,c,pp⟩,g1,g2⟩:=Option.map_eq_some_iff.mp (h3 w os)
 simp only [Prod.mk.injEq] at g2
 obtain⟨rfl,rfl,rfl,g3⟩:=g2
 obtain⟨s,g4,g5⟩:=Option.map_eq_some_iff.mp g3
 simp only [Prod.mk.injEq] at g5
 obtain⟨l1,l2,l3⟩:=g5
 have g6:topRun treeTable p w m₀ ann (F1+(F+G)) (S w os).abs (restOf (b'++(b2++[])) env (.body b env) ps' [topFrame fq])=some s:=piece_app (segRun_of (hm w os)) (piece_app (segRun_of g1) g4)
 rw [List.append_nil,hb] at g6
 have g7:=go_top (h1 w os) (piece_block (h2 w os) g6)
 have r:=topRun_mono (N - (a+(b1+(F1+(F+G))))) _ _ _ _ g7
 rw [show a+(b1+(F1+(F+G)))+(N - (a+(b1+(F1+(F+G)))))=N by have:=Nat.le_of_ble_eq_true le;omega] at r
 have t:topFrom treeTable p w N ⟨boot_heap w.params,Array.mk [],boot_drawn,boot_toks,os⟩=some s:=by
  unfold topFrom
  dsimp only
  rw [z1,z2,z3,r]
  show (match staticsOk (importedModules p.main.body) (boot_heap w.params) s.heap&&namesBound p s.heap&&gensDone s&&laidKept (boot_heap w.params) s.heap with|true=>_|false=>_)=_
  rw [l1]
 unfold openEnds
 rw [e]
 show (topFrom treeTable p w N _).map _=_
 rw [t]
 exact congrArg some (Prod.ext l2 l3)
end L2
set_option maxHeartbeats 4000000
namespace K63
open PySem L2
local macro_rules | `(tactic| walk_at "rd")=>`(tactic| simp only [$[$((("yd ub yw BH uv yg qW rg tY Be CF xc xW KP BP My BS FN BG xE BW xu GH xi CK yh B6 Cg s9 sU Bb ya Ct B7 Ci CJ Cf xN DM FU NB DJ NI FF GQ sS uS yN sR AI BC yi CZ rC x6 GY CD Ca Bm xO FW qi qT AS AX Bh xB tW A8 xP Bd Bk yv A7 B8 BB BD w8 AQ yK sF yO ty_str O3 xt uZ x9 xS vh yl Cb yR Fx MT Oi L2.start bT Cc HJ List.getElem?_cons_zero List.getElem?_cons_succ Option.some.injEq Option.join_some exists_eq_left' exists_eq_left exists_eq_right V.int.injEq V.ref.injEq V.str.injEq V.bl.injEq V.ty.injEq and_true true_and List.set_cons_zero List.set_cons_succ List.cons.injEq List.cons_append List.nil_append List.append_nil List.map_cons List.map_nil List.length_cons List.length_nil List.replicate exists_and_left exists_and_right Nat.reduceAdd Nat.reduceSub aP bD dH gW Aq if_true if_false Bool.false_eq_true xa xy xI".splitOn " ").map fun s=>Lean.mkIdent s.toName).toArray):ident],*])
local macro_rules | `(tactic| walk_at "cm")=>`(tactic| first | (refine UG ?_ ?_ <;> omega) | (refine aed ?_ ?_ <;> omega))
noncomputable def top (i:Nat):Stmt:=PySem.Challenge.pw_fewboxes_k63_rows_judged.main.body.getD i (.Pass ⟨0,0,0,0⟩)
noncomputable abbrev du:Stmt:=top 9
noncomputable abbrev cq:Stmt:=top 10
noncomputable abbrev cn:Stmt:=top 11
noncomputable abbrev eJ:Stmt:=top 12
noncomputable abbrev di:Stmt:=top 13
noncomputable abbrev cO:Stmt:=top 14
noncomputable abbrev ic:Stmt:=top 19
noncomputable abbrev ib:Stmt:=top 20
noncomputable abbrev jM:Stmt:=top 21
noncomputable abbrev jK:Stmt:=top 22
noncomputable abbrev h9:Stmt:=top 23
noncomputable abbrev fU:Stmt:=top 24
noncomputable abbrev dm:Stmt:=top 25
noncomputable abbrev eE:Stmt:=top 26
noncomputable abbrev dA:Stmt:=top 27
noncomputable abbrev ij:Stmt:=top 28
noncomputable abbrev s_fresh:Stmt:=top 30
noncomputable abbrev fm:Stmt:=top 31
noncomputable abbrev cI:Stmt:=top 32
noncomputable abbrev jO:Stmt:=top 33
noncomputable abbrev ip:Stmt:=top 34
noncomputable abbrev cK:Stmt:=top 35
noncomputable abbrev qX:Stmt:=top 37
noncomputable abbrev qU:Stmt:=top 38
noncomputable abbrev fZ:Stmt:=top 39
noncomputable abbrev nc:Stmt:=top 40
noncomputable abbrev fk:Stmt:=top 44
noncomputable abbrev fz:Stmt:=top 45
noncomputable abbrev fh:Stmt:=top 46
noncomputable abbrev fV:Stmt:=top 47
noncomputable abbrev gg:Stmt:=top 49
noncomputable abbrev qY:Stmt:=top 50
noncomputable abbrev ft:Stmt:=top 51
noncomputable abbrev qh:Stmt:=top 52
noncomputable abbrev iq:Stmt:=top 56
noncomputable abbrev ni:Stmt:=top 57
noncomputable abbrev ie:Stmt:=top 59
noncomputable abbrev eF:Stmt:=top 60
noncomputable abbrev fo:Stmt:=top 61
noncomputable abbrev dj:Stmt:=top 62
noncomputable abbrev fv:Stmt:=top 63
noncomputable abbrev eI:Stmt:=top 64
noncomputable abbrev fw:Stmt:=top 65
noncomputable abbrev eM:Stmt:=top 66
noncomputable abbrev dB:Stmt:=top 67
noncomputable abbrev dn:Stmt:=top 68
noncomputable abbrev fX:Stmt:=top 69
noncomputable abbrev eg:Stmt:=top 70
noncomputable abbrev fy:Stmt:=top 71
noncomputable abbrev wg:Stmt:=top 72
theorem lj:aM ["deed"] ["deed"] (ai du):=⟨rfl,rfl,rfl,by decide +kernel,rfl,by decide +kernel,by decide +kernel⟩
theorem jV:aM ["deed"] ["deed"] (ai cq):=⟨rfl,rfl,rfl,by decide +kernel,rfl,by decide +kernel,by decide +kernel⟩
theorem jD:aM ["deed","asked","there","number"] ["deed","asked","there"] (ai cn):=⟨rfl,rfl,rfl,by decide +kernel,rfl,by decide +kernel,by decide +kernel⟩
theorem nZ:aM ["deed","state"] ["deed","state"] (ai eJ):=⟨rfl,rfl,rfl,by decide +kernel,rfl,by decide +kernel,by decide +kernel⟩
theorem mP:aM ["deed","state"] ["deed","state"] (ai di):=⟨rfl,rfl,rfl,by decide +kernel,rfl,by decide +kernel,by decide +kernel⟩
theorem kP:aM ["deed","state","value","boxes","shelf"] ["deed","state","value"] (ai cO):=⟨rfl,rfl,rfl,by decide +kernel,rfl,by decide +kernel,by decide +kernel⟩
theorem uA:aM ["text"] ["text"] (ai ic):=⟨rfl,rfl,rfl,by decide +kernel,rfl,by decide +kernel,by decide +kernel⟩
theorem tQ:aM ["tree"] ["tree"] (ai ib):=⟨rfl,rfl,rfl,by decide +kernel,rfl,by decide +kernel,by decide +kernel⟩
theorem qB:aM ["tree","found","step"] ["tree"] (ai jM):=⟨rfl,rfl,rfl,by decide +kernel,rfl,by decide +kernel,by decide +kernel⟩
theorem we:aM ["tree"] ["tree"] (ai jK):=⟨rfl,rfl,rfl,by decide +kernel,rfl,by decide +kernel,by decide +kernel⟩
theorem sX:aM ["tree","place","part","step"] ["tree","place"] (ai h9):=⟨rfl,rfl,rfl,by decide +kernel,rfl,by decide +kernel,by decide +kernel⟩
theorem rW:aM ["tree","x","place"] ["tree","x"] (ai fU):=⟨rfl,rfl,rfl,by decide +kernel,rfl,by decide +kernel,by decide +kernel⟩
theorem lL:aM ["tree","bound"] ["tree","bound"] (ai dm):=⟨rfl,rfl,rfl,by decide +kernel,rfl,by decide +kernel,by decide +kernel⟩
theorem nY:aM ["tree"] ["tree"] (ai eE):=⟨rfl,rfl,rfl,by decide +kernel,rfl,by decide +kernel,by decide +kernel⟩
theorem lH:aM ["tree","taken","place","part","name"] ["tree"] (ai dA):=⟨rfl,rfl,rfl,by decide +kernel,rfl,by decide +kernel,by decide +kernel⟩
theorem uE:aM ["tree"] ["tree"] (ai ij):=⟨rfl,rfl,rfl,by decide +kernel,rfl,by decide +kernel,by decide +kernel⟩
theorem yW:aM ["k","many"] ["k","many"] (ai s_fresh):=⟨rfl,rfl,rfl,by decide +kernel,rfl,by decide +kernel,by decide +kernel⟩
theorem pX:aM ["tree","f","left","right","place"] ["tree","f","left","right"] (ai fm):=⟨rfl,rfl,rfl,by decide +kernel,rfl,by decide +kernel,by decide +kernel⟩
theorem kU:aM ["tree","deed","state"] ["tree","deed","state"] (ai cI):=⟨rfl,rfl,rfl,by decide +kernel,rfl,by decide +kernel,by decide +kernel⟩
theorem vS:aM ["tree","deed","state"] ["tree","deed","state"] (ai jO):=⟨rfl,rfl,rfl,by decide +kernel,rfl,by decide +kernel,by decide +kernel⟩
theorem ud:aM ["tree","k","many","row","states","deed"] ["tree","k","many","row"] (ai ip):=⟨rfl,rfl,rfl,by decide +kernel,rfl,by decide +kernel,by decide +kernel⟩
theorem kR:aM ["state"] ["state"] (ai cK):=⟨rfl,rfl,rfl,by decide +kernel,rfl,by decide +kernel,by decide +kernel⟩
theorem yL:aM ["tree","left","right"] ["tree"] (ai qX):=⟨rfl,rfl,rfl,by decide +kernel,rfl,by decide +kernel,by decide +kernel⟩
theorem DU:aM ["tree","k"] ["tree","k"] (ai qU):=⟨rfl,rfl,rfl,by decide +kernel,rfl,by decide +kernel,by decide +kernel⟩
theorem rF:aM ["tree","k"] ["tree","k"] (ai fZ):=⟨rfl,rfl,rfl,by decide +kernel,rfl,by decide +kernel,by decide +kernel⟩
theorem zM:aM ["tree","k","takes","joins","shelved"] ["tree","k"] (ai nc):=⟨rfl,rfl,rfl,by decide +kernel,rfl,by decide +kernel,by decide +kernel⟩
theorem oV:aM ["word"] ["word"] (ai fk):=⟨rfl,rfl,rfl,by decide +kernel,rfl,by decide +kernel,by decide +kernel⟩
theorem pH:aM ["kind","word"] ["kind","word"] (ai fz):=⟨rfl,rfl,rfl,by decide +kernel,rfl,by decide +kernel,by decide +kernel⟩
theorem pT:aM ["text","words","kinds"] ["text"] (ai fh):=⟨rfl,rfl,rfl,by decide +kernel,rfl,by decide +kernel,by decide +kernel⟩
theorem rO:aM ["text"] ["text"] (ai fV):=⟨rfl,rfl,rfl,by decide +kernel,rfl,by decide +kernel,by decide +kernel⟩
theorem rD:aM ["text","start","end"] ["text","start"] (ai gg):=⟨rfl,rfl,rfl,by decide +kernel,rfl,by decide +kernel,by decide +kernel⟩
theorem Di:aM ["text","at","sign"] ["text","at","sign"] (ai qY):=⟨rfl,rfl,rfl,by decide +kernel,rfl,by decide +kernel,by decide +kernel⟩
theorem kC:aM ["text","start","level","end","name","left","right"] ["text","start","level"] (ai ft):=⟨rfl,rfl,rfl,by decide +kernel,rfl,by decide +kernel,by decide +kernel⟩
theorem Ed:aM ["text","found","wrong"] ["text"] (ai qh):=⟨rfl,rfl,rfl,by decide +kernel,rfl,by decide +kernel,by decide +kernel⟩
theorem uo:aM ["row","kinds"] ["row"] (ai iq):=⟨rfl,rfl,rfl,by decide +kernel,rfl,by decide +kernel,by decide +kernel⟩
theorem zK:aM ["text","k","rowtext","tree","row","fewest","states","more","told"] ["text","k","rowtext"] (ai ni):=⟨rfl,rfl,rfl,by decide +kernel,rfl,by decide +kernel,by decide +kernel⟩
theorem tj:aM ["script","k","cell"] ["script","k"] (ai ie):=⟨rfl,rfl,rfl,by decide +kernel,rfl,by decide +kernel,by decide +kernel⟩
theorem og:aM ["cell","many","letters","size","out","k","signs"] ["cell","many"] (ai eF):=⟨rfl,rfl,rfl,by decide +kernel,rfl,by decide +kernel,by decide +kernel⟩
theorem oY:aM ["script","cell"] ["script"] (ai fo):=⟨rfl,rfl,rfl,by decide +kernel,rfl,by decide +kernel,by decide +kernel⟩
theorem lA:aM ["script"] ["script"] (ai dj):=⟨rfl,rfl,rfl,by decide +kernel,rfl,by decide +kernel,by decide +kernel⟩
theorem pY:aM ["script","at","many","deeds","trees","n","cell","p","two","side","knot"] ["script","at","many"] (ai fv):=⟨rfl,rfl,rfl,by decide +kernel,rfl,by decide +kernel,by decide +kernel⟩
theorem i8:aM ["tree","place","left","right","two"] ["tree","place"] (ai eI):=⟨rfl,rfl,rfl,by decide +kernel,rfl,by decide +kernel,by decide +kernel⟩
theorem pU:aM ["script","n","names","deeds","k","many","cell","word"] ["script","n","names","deeds","k","many"] (ai fw):=⟨rfl,rfl,rfl,by decide +kernel,rfl,by decide +kernel,by decide +kernel⟩
theorem jm:aM ["tree","place"] ["tree","place"] (ai eM):=⟨rfl,rfl,rfl,by decide +kernel,rfl,by decide +kernel,by decide +kernel⟩
theorem mK:aM ["parts","deed","boxes","shelf","place","name","knot","found","sons"] ["parts","deed","boxes","shelf"] (ai dB):=⟨rfl,rfl,rfl,by decide +kernel,rfl,by decide +kernel,by decide +kernel⟩
theorem iC:aM ["script","pot","tree","free","cell","first","row","room","ends","s"] ["script","pot","tree","free"] (ai dn):=⟨rfl,rfl,rfl,by decide +kernel,rfl,by decide +kernel,by decide +kernel⟩
theorem rT:aM ["script","at","tree","k","boxes","again"] ["script","at","tree","k"] (ai fX):=⟨rfl,rfl,rfl,by decide +kernel,rfl,by decide +kernel,by decide +kernel⟩
theorem oj:aM ["script","tree","size","k","names","deeds","row"] ["script","tree","size","k"] (ai eg):=⟨rfl,rfl,rfl,by decide +kernel,rfl,by decide +kernel,by decide +kernel⟩
theorem kG:aM ["tree"] ["tree"] (ai fy):=⟨rfl,rfl,rfl,by decide +kernel,rfl,by decide +kernel,by decide +kernel⟩
theorem Ih:aM ["script","size","tree","k","names","deeds","row","n","parts","boxes","shelf","deed","knots","puts_v","more","word","few","found","due"] ["script"] (ai wg):=⟨rfl,rfl,rfl,by decide +kernel,rfl,by decide +kernel,by decide +kernel⟩
set_option genInjectivity false in
set_option genSizeOfSpec false in
structure Txt (K:PySem.W.Frag) (mg:Str→Option Value) where
 jw:Addr
 je:FuncData
 nN:eP K "box_numbers" "box_numbers" du jw je
 vo:mg "box_numbers"=some (.ref jw)
 vv:Binds K je ["deed"] []
 gI:Addr
 gO:FuncData
 kS:eP K "shelf_numbers" "shelf_numbers" cq gI gO
 sx:mg "shelf_numbers"=some (.ref gI)
 so:Binds K gO ["deed"] []
 gR:Addr
 gJ:FuncData
 gN:eP K "check_numbers" "check_numbers" cn gR gJ
 kQ:mg "check_numbers"=some (.ref gR)
 kW:Binds K gJ ["deed","asked","there"] []
 kA:Addr
 j0:FuncData
 pV:eP K "check_deed" "check_deed" eJ kA j0
 xp:mg "check_deed"=some (.ref kA)
 yG:Binds K j0 ["deed","state"] []
 jA:Addr
 jz:FuncData
 nQ:eP K "moved_value" "moved_value" di jA jz
 vG:mg "moved_value"=some (.ref jA)
 vF:Binds K jz ["deed","state"] []
 iP:Addr
 iD:FuncData
 ml:eP K "state_behind" "state_behind" cO iP iD
 uu:mg "state_behind"=some (.ref iP)
 vc:Binds K iD ["deed","state","value"] []
 qu:Addr
 qL:FuncData
 ny:eP K "is_name" "is_name" ic qu qL
 ql:mg "is_name"=some (.ref qu)
 qQ:Binds K qL ["text"] []
 rB:Addr
 qm:FuncData
 fA:eP K "is_leaf" "is_leaf" ib rB qm
 fT:mg "is_leaf"=some (.ref rB)
 gi:Binds K qm ["tree"] []
 tU:Addr
 tK:FuncData
 iE:eP K "places" "places" jM tU tK
 mX:mg "places"=some (.ref tU)
 lC:Binds K tK ["tree"] []
 uJ:Addr
 uL:FuncData
 pI:eP K "leaves" "leaves" jK uJ uL
 tJ:mg "leaves"=some (.ref uJ)
 t7:Binds K uL ["tree"] []
 qC:Addr
 qV:FuncData
 ia:eP K "part_at" "part_at" h9 qC qV
 jG:mg "part_at"=some (.ref qC)
 jL:Binds K qV ["tree","place"] []
 oE:Addr
 oC:FuncData
 uQ:eP K "place_of" "place_of" fU oE oC
 BJ:mg "place_of"=some (.ref oE)
 Ba:Binds K oC ["tree","x"] []
 dt:Addr
 dq:FuncData
 gm:eP K "deeper_than" "deeper_than" dm dt dq
 jq:mg "deeper_than"=some (.ref dt)
 i9:Binds K dq ["tree","bound"] []
 j9:Addr
 j7:FuncData
 pS:eP K "check_size" "check_size" eE j9 j7
 yE:mg "check_size"=some (.ref j9)
 yp:Binds K j7 ["tree"] []
 jg:Addr
 jo:FuncData
 nO:eP K "check_names" "check_names" dA jg jo
 vD:mg "check_names"=some (.ref jg)
 vz:Binds K jo ["tree"] []
 qK:Addr
 qS:FuncData
 wO:eP K "formula" "formula" ij qK qS
 Er:mg "formula"=some (.ref qK)
 E3:Binds K qS ["tree"] []
 xl:Addr
 x8:FuncData
 Dj:eP K "fresh" "fresh" s_fresh xl x8
 Kr:mg "fresh"=some (.ref xl)
 J9:Binds K x8 ["k","many"] []
 lK:Addr
 mG:FuncData
 r6:eP K "knot_over" "knot_over" fm lK mG
 zw:mg "knot_over"=some (.ref lK)
 y8:Binds K mG ["tree","f","left","right"] []
 iB:Addr
 iJ:FuncData
 mD:eP K "mark_brought" "mark_brought" cI iB iJ
 t9:mg "mark_brought"=some (.ref iB)
 ve:Binds K iJ ["tree","deed","state"] []
 ux:Addr
 tM:FuncData
 zC:eP K "marked" "marked" jO ux tM
 FX:mg "marked"=some (.ref ux)
 FT:Binds K tM ["tree","deed","state"] []
 rh:Addr
 qy:FuncData
 wB:eP K "moments" "moments" ip rh qy
 EW:mg "moments"=some (.ref rh)
 E8:Binds K qy ["tree","k","many","row"] []
 iK:Addr
 iz:FuncData
 mm:eP K "formula_held" "formula_held" cK iK iz
 tm:mg "formula_held"=some (.ref iK)
 uF:Binds K iz ["state"] []
 CA:Addr
 Bl:FuncData
 qH:eP K "rank" "rank" qX CA Bl
 yC:mg "rank"=some (.ref CA)
 yA:Binds K Bl ["tree"] []
 Cp:Addr
 BY:FuncData
 Hf:eP K "puts" "puts" qU Cp BY
 MQ:mg "puts"=some (.ref Cp)
 Nf:Binds K BY ["tree","k"] []
 oq:Addr
 om:FuncData
 tS:eP K "must_put" "must_put" fZ oq om
 Bt:mg "must_put"=some (.ref oq)
 AY:Binds K om ["tree","k"] []
 xj:Addr
 yx:FuncData
 DS:eP K "least" "least" nc xj yx
 JO:mg "least"=some (.ref xj)
 Ju:Binds K yx ["tree","k"] []
 mW:Addr
 mY:FuncData
 me:eP K "is_number" "is_number" fk mW mY
 rQ:mg "is_number"=some (.ref mW)
 rP:Binds K mY ["word"] []
 mL:Addr
 mi:FuncData
 se:eP K "read_part" "read_part" fz mL mi
 zr:mg "read_part"=some (.ref mL)
 zD:Binds K mi ["kind","word"] []
 lS:Addr
 lO:FuncData
 sd:eP K "read_deed" "read_deed" fh lS lO
 zF:mg "read_deed"=some (.ref lS)
 zH:Binds K lO ["text"] []
 oJ:Addr
 oF:FuncData
 tT:eP K "read_row" "read_row" fV oJ oF
 BR:mg "read_row"=some (.ref oJ)
 Bn:Binds K oF ["text"] []
 ow:Addr
 ot:FuncData
 u9:eP K "name_end" "name_end" gg ow ot
 AN:mg "name_end"=some (.ref ow)
 BA:Binds K ot ["text","start"] []
 Bg:Addr
 CL:FuncData
 BE:eP K "past" "past" qY Bg CL
 HW:mg "past"=some (.ref Bg)
 FH:Binds K CL ["text","at","sign"] []
 lq:Addr
 mV:FuncData
 gC:eP K "tree_from" "tree_from" ft lq mV
 lZ:mg "tree_from"=some (.ref lq)
 mq:Binds K mV ["text","start","level"] []
 CC:Addr
 CM:FuncData
 HX:eP K "read" "read" qh CC CM
 Nj:mg "read"=some (.ref CC)
 NF:Binds K CM ["text"] []
 rp:Addr
 qe:FuncData
 v9:eP K "figures" "figures" iq rp qe
 E9:mg "figures"=some (.ref rp)
 EY:Binds K qe ["row"] []
 xV:Addr
 yt:FuncData
 Ee:eP K "judge" "judge" ni xV yt
 Ki:mg "judge"=some (.ref xV)
 KR:Binds K yt ["text","k","rowtext"] []
 qP:Addr
 rA:FuncData
 bp:eP K "_law_at" "_law_at" ie qP rA
 bu:mg "_law_at"=some (.ref qP)
 bt:Binds K rA ["script","k"] []
 kh:Addr
 j8:FuncData
 cV:eP K "_law_names" "_law_names" eF kh j8
 eh:mg "_law_names"=some (.ref kh)
 eG:Binds K j8 ["cell","many"] []
 mz:Addr
 lD:FuncData
 mR:eP K "_law_many" "_law_many" fo mz lD
 rL:mg "_law_many"=some (.ref mz)
 rV:Binds K lD ["script"] []
 jh:Addr
 jt:FuncData
 gk:eP K "_law_second" "_law_second" dj jh jt
 jc:mg "_law_second"=some (.ref jh)
 jk:Binds K jt ["script"] []
 mI:Addr
 mM:FuncData
 rS:eP K "_law_tree" "_law_tree" fv mI mM
 yU:mg "_law_tree"=some (.ref mI)
 zU:Binds K mM ["script","at","many"] []
 j4:Addr
 jZ:FuncData
 fL:eP K "_law_ranks" "_law_ranks" eI j4 jZ
 kF:mg "_law_ranks"=some (.ref j4)
 kq:Binds K jZ ["tree","place"] []
 lE:Addr
 mw:FuncData
 lQ:eP K "_law_deed" "_law_deed" fw lE mw
 rG:mg "_law_deed"=some (.ref lE)
 rJ:Binds K mw ["script","n","names","deeds","k","many"] []
 ke:Addr
 kJ:FuncData
 fJ:eP K "_law_knots" "_law_knots" eM ke kJ
 kf:mg "_law_knots"=some (.ref ke)
 ku:Binds K kJ ["tree","place"] []
 jy:Addr
 jx:FuncData
 oh:eP K "_law_marked" "_law_marked" dB jy jx
 vC:mg "_law_marked"=some (.ref jy)
 vJ:Binds K jx ["parts","deed","boxes","shelf"] []
 ja:Addr
 jr:FuncData
 cC:eP K "_law_wasted" "_law_wasted" dn ja jr
 fc:mg "_law_wasted"=some (.ref ja)
 fe:Binds K jr ["script","pot","tree","free"] []
 oy:Addr
 oI:FuncData
 vf:eP K "_law_row" "_law_row" fX oy oI
 B9:mg "_law_row"=some (.ref oy)
 BV:Binds K oI ["script","at","tree","k"] []
 ko:Addr
 kc:FuncData
 o1:eP K "_law_drawn" "_law_drawn" eg ko kc
 xU:mg "_law_drawn"=some (.ref ko)
 xZ:Binds K kc ["script","tree","size","k"] []
 mE:Addr
 lN:FuncData
 gw:eP K "_law_text" "_law_text" fy mE lN
 mU:mg "_law_text"=some (.ref mE)
 mO:Binds K lN ["tree"] []
 DT:Addr
 zL:FuncData
 RA:eP K "law" "law" wg DT zL
 QV:mg "law"=some (.ref DT)
 aeU:Binds K zL ["script"] []
 LP:mg "all"=none
 Qm:mg "any"=none
 wW:mg "int"=none
 km:mg "isinstance"=none
 cJ:mg "len"=none
 yH:mg "list"=none
 Mg:mg "max"=none
 Hy:mg "min"=none
 sG:mg "range"=none
 wD:mg "str"=none
 CQ:mg "tuple"=none
 Lp:mg "zip"=none
 yb:Tok
 xY:mg "BOXES_TOLD"=some (.int 10000 yb)
 uH:Tok
 ug:mg "LONGEST_NAME"=some (.int 8 uH)
 Az:Tok
 rN:mg "MOST_DEEP"=some (.int 24 Az)
 uw:Tok
 tZ:mg "MOST_FIGURES"=some (.int 4 uw)
 vN:Tok
 vk:mg "MOST_LEAVES"=some (.int 32 vN)
 uz:Tok
 uU:mg "SHELF_PLACES"=some (.int 100 uz)
 iw:Addr
 Ho:mg "TooFew"=some (.ref iw)
 HY:uV K iw
section
variable {P : Program} {w : World} {K : PySem.W.Frag} {mg : Str→Option Value} {base : Heap}
noncomputable def cm (ns:List Int) (k:Nat):Int:=
 if k<ns.length then ns.getD k 0 else
  let c:Int:=40692*k+1
  let c:Int:=if 0<ns.length then c+ns.getD (k*k % ns.length) 0 % 2147483647 else c
  let c:Int:=c*48271 % 2147483647
  c*c % 2147483629
noncomputable def Zu (K:PySem.W.Frag):Sp:=fun vs H Q _=>∃(a:Addr) (ns:List Int) (k:Int),vs=[.ref a,.int k]∧fQ K H a (ns.map V.int)∧ns.length≤63∧0≤k∧k<1000000∧Q (.int (cm ns k.toNat)) H
theorem GS {ns:List Int}{k:Nat} (h:k<ns.length):kX (ns.map V.int) (k:Int)=some (.int (ns.getD k 0)):=
 h7 (by simp [List.getD,h])
theorem rM (T:Txt K mg):bz P w K mg base CX0 1 T.qP T.rA ["script","k"] (Zu K):=by
 refine T.bp.ok (k:=0) tj (fun vs H Q E h=>?_) (fun bJ A outer s H vs Q E hr h=>?_)
 · obtain⟨a,ns,k,rfl,_⟩:=h
   rfl
 obtain⟨a,ns,k,rfl,hS,aK,h0,hk,q⟩:=h
 obtain⟨k,rfl⟩:∃n:Nat,k=(n:Int):=⟨k.toNat,by (clear hk aK;lia)⟩
 rw [Int.toNat_natCast] at q
 have nd:=tj.nd
 refine⟨_,(ah (aU (aF zb (pv 1) (aO fF rfl T.cJ bM (aa (pv 0) af)) (aJ _)) (aj (aE (ar xf (pv 0) (pv 1) (fun _ _=>rfl)))) aH)
  (ah (aw (i:=2) nd rfl (Or.inl rfl) (aq bo (aq mQ ae (pv 1)) ae))
  (ah (aU (aF kT (aO fF rfl T.cJ bM (aa (pv 0) af)) ae (aJ _)) (aj (aw (i:=2) nd rfl (Or.inl rfl) (aq bo (pv 2) (aq aY (ar xf (pv 0) (aq aY (aq mQ (pv 1) (pv 1)) (aO fF rfl T.cJ bM (aa (pv 0) af))) (fun _ _=>rfl)) ae)))) aH)
  (ah (aw (i:=2) nd rfl (Or.inl rfl) (aq aY (aq mQ (pv 2) ae) ae))
  (aj (aE (aq aY (aq mQ (pv 2) (pv 2)) ae))))))),?_⟩
 refine gU fun C hC=>?_
 walk_at "rd"
 unfold cm at q
 refine BI hS ?_
 rw [List.length_map]
 refine cj (fun c=>?_) (fun c=>?_)
 · have c:k<ns.length:=by simpa using c
   rw [if_pos c] at q
   exact L1 hS (GS c) q
 · have c:¬k<ns.length:=by simpa using c
   rw [if_neg c] at q
   dsimp only at q
   rw [hC]
   clear hC C
   refine y6 fun C hC=>?_
   have tail:∀z:Int,Q (.int (z*48271 % 2147483647*(z*48271 % 2147483647) % 2147483629)) H→C [some (.ref a),some (.int k),some (.int z)] H:=by
    intro z hz
    rw [hC]
    clear hC C q
    walk_at "rd"
    exact⟨by walk_at "cm",by decide,by walk_at "cm",by decide,hz⟩
   walk_at "rd"
   refine⟨by walk_at "cm",BI hS ?_⟩
   rw [List.length_map]
   refine cj (fun d=>?_) (fun d=>?_)
   · have d:0<ns.length:=by simpa using d
     rw [if_pos d] at q
     have m:k*k % ns.length<ns.length:=Nat.mod_lt _ d
     have e:((k:Int)*(k:Int) % ((ns.length:Nat):Int))=((k*k % ns.length:Nat):Int):=by push_cast;rfl
     refine⟨by walk_at "cm",BI hS ?_⟩
     rw [List.length_map,e]
     exact⟨by (clear aK h0 hk c m e hC;omega),L1 hS (GS m) ⟨_,rfl,by decide,tail _ q⟩⟩
   · have d:¬0<ns.length:=by simpa using d
     rw [if_neg d] at q
     exact tail _ q
noncomputable def Ku:Sp:=fun vs H Q _=>∃(c:Int) (many:Nat),vs=[.int c,.int many]∧many≤32∧zE H ((List.range many).map fun k=>D.str (kr c many k)) Q
theorem uP (T:Txt K mg):bz P w K mg base CX0 1 T.kh T.j8 ["cell","many"] Ku:=by
 refine T.cV.ok (k:=0) og (fun vs H Q E h=>?_) (fun bJ A outer s H vs Q E hr h=>?_)
 · obtain⟨c,many,rfl,_⟩:=h
   rfl
 obtain⟨c,many,rfl,hm,q⟩:=h
 have nd:=og.nd
 refine⟨_,(ah (aw (i:=2) nd rfl (Or.inl rfl) aD)
  (ah (aw (i:=3) nd rfl (Or.inl rfl) (aq bo ae (aq aY (aq bF (pv 0) ae) (ar bj (bb (aa ae (aa ae af))) (bL nj rfl T.wW qx (aa (cB kT (pv 1) ae (aJ _)) af)) (fun _ _=>rfl)))))
  (ah (aw (i:=4) nd rfl (Or.inl rfl) (bb af))
  (ah (gL PassesOwn.never rfl (nE rfl T.sG (aa (pv 1) af)) (bG (i:=5) nd rfl (Or.inl rfl)) (ah (aw (i:=6) nd rfl (Or.inl rfl) (aq ox (bb (aa (ar qd (pv 2) (aq aY (pv 0) ae) (fun _ _=>rfl)) af)) (pv 3)))
    (ah (gh (ar qd (pv 2) (aq aY (aq bo (aq bo (pv 0) ae) (aq aY (pv 5) ae)) ae) (fun _ _=>rfl)) (gH (pv 6) (aq aY (aq bF (pv 0) ae) (pv 3)) set_list))
    (ah (aU (aF kT (pv 5) ae (aJ _)) (aj (fN (jR PySem.F.plainAttrs_list PySem.F.slot_list_append PySem.F.type_list_append jN (pv 6) (aa (ar qd (pv 2) (aq aY (pv 0) ae) (fun _ _=>rfl)) af)))) aH)
    (ah (aU (PW.pt (gM (aF br (aq aY (aq bF (pv 0) ae) ae) ae (aJ _)) (fI (aF wm (pv 1) ae (aJ _))))) (aj (aw (i:=6) nd rfl (Or.inl rfl) (aq ox (bb (aa (ar qd (pv 2) (aq aY (pv 0) ae) (fun _ _=>rfl)) af)) (aq bo ae (aq aY (aq bo (pv 0) (pv 5)) ae))))) aH)
    (aj (fN (jR PySem.F.plainAttrs_list PySem.F.slot_list_append PySem.F.type_list_append jN (pv 4) (aa (jR PySem.F.plainAttrs_str PySem.F.slot_str_join PySem.F.type_str_join oX aD (aa (pv 6) af)) af)))))))))
  (aj (aE (pv 4))))))),?_⟩
 walk_at "rd"
 refine⟨⟨by decide,by decide⟩,by decide,aI.mk fun p1 H1 S1 n1 e1=>?_⟩
 walk_at "rd"
 have hz:kX [V.int 8,V.int 7] (if decide (24<(many:Int))=true then 1 else 0)=some (.int (if 24<many then 7 else 8)):=by
  by_cases h:24<many
  · rw [if_pos (decide_eq_true (by (clear hm n1 e1;omega))),if_pos h];exact bD
  · rw [if_neg (by simp;(clear hm n1 e1;omega)),if_neg h];exact aP
 refine⟨_,aC e1,_,hz,_,rfl,by split<;>decide,Nat.zero_le _,aI.mk fun p2 H2 S2 n2 e2=>?_⟩
 have S:=S1.trans S2
 have n0:H p2=none:=S1.free n2
 have hsz:(1+c / 26 % (if 24<many then 7 else 8):Int)=(M.cD c many:Nat):=by
  unfold M.cD
  have:(0:Int)<(if 24<many then 7 else 8):=by split<;>decide
  have:=Int.emod_nonneg (c / 26) (show (if 24<many then 7 else 8:Int)≠0 by omega)
  push_cast
  (clear hm n1 e1 hz n2 e2 n0;lia)
 rw [hsz]
 have s1:=M.qo c many
 have s2:=(M.vZ c many).1
 generalize cY:M.cD c many=size at hsz s1 s2
 refine⟨by (clear hm n1 e1 hz n2 e2 n0 cY hsz s1 s2;lia),by omega,?_⟩
 rw [Int.toNat_natCast]
 refine forR (fun i σ H'=>∃(o5 o6:Option V),i≤many∧av H H'∧H' p2=some (.lst ((List.range i).map fun k=>V.str (kr c many k)))∧
  σ=[some (.int c),some (.int many),some (.str LETT),some (.int size),some (.ref p2),o5,o6]) ⟨none,none,Nat.zero_le _,S,e2,rfl⟩ ?_ ?_
 · rintro i σ H3 hi ⟨o5,o6,_,S3,e3,rfl⟩
   simp only [sU]
   refine y6 fun C hC=>?_
   walk_at "rd"
   have hk:((c+1+(0+(i:Int)) % 24) % 26)=(c+1+((i % 24:Nat):Int)) % 26:=by push_cast;(clear hm n1 e1 hz n2 e2 n0 cY hsz s1 s2 hi e3 hC;lia)
   refine⟨by decide,pK,_,yu c,by decide,aI.mk fun p4 H4 S4 n4 e4=>⟨p4,rfl,_,e4,by (clear hm n1 e1 hz n2 e2 n0 cY hsz s1 s2 hi e3 hC hk n4 e4;lia),by (clear hm n1 e1 hz n2 e2 n0 cY hsz hk n4 e4 e3 hC hi s1;omega),aN (by simp;(clear hm n1 e1 hz n2 e2 n0 cY hsz hk n4 e4 e3 hC hi s1;lia)),aI.mk fun p5 H5 S5 n5 e5=>?_⟩⟩
   rw [Int.toNat_natCast,DB] at e5
   rw [hk]
   have NM:=M.IH c size s1
   have OT:0≤c / 208 % (size:Int):=Int.emod_nonneg _ (by (clear s2 hi e3 hC hk n4 e4 n5 e5 NM hm n1 e1 hz n2 e2 n0 cY hsz;omega))
   refine⟨by decide,by decide,pK,_,yu _,⟨by decide,by decide⟩,by (clear hi e3 hC hk n4 e4 n5 e5 NM OT hm n1 e1 hz n2 e2 n0 cY hsz s2;omega),p5,rfl,_,e5,_,kg OT (by simp;(clear hm n1 e1 hz n2 e2 n0 cY hsz s1 s2 hi e3 hC hk n4 e4 OT n5 e5;lia)),gF.mk fun H6 k6 e6=>?_⟩
   have zX:p2≠p5:=aL (S4 _ _ e3) n5
   have S6:av H H6:=av.hI ((S3.trans S4).trans S5) ((S3.trans S4).free n5) k6
   have f6:H6 p2=some (.lst ((List.range i).map fun k=>V.str (kr c many k))):=by
    rw [k6 _ zX];exact S5 _ _ (S4 _ _ e3)
   have DL:H6 p5=some (.lst (((List.replicate size (M.dG c)).set (c / 208 % (size:Int)).toNat (M.dG (c+1+((i % 24:Nat):Int)))).map fun x=>V.str ⟨#[x]⟩)):=by
    rw [e6,List.map_set,List.map_replicate]
   have AF:=(S3.trans S4).free n5
   clear e6 k6 e5 e4 n4 n5 S5 S4 S3 NM hk
   generalize hW:(List.replicate size (M.dG c)).set (c / 208 % (size:Int)).toNat (M.dG (c+1+((i % 24:Nat):Int)))=W at DL
   have lW:W.length=size:=by rw [←hW];simp
   have Q8:¬(c / 1664 % 3=0∧many≤8)→¬23<i→M.nm c many i=W:=fun h1 h2=>by
    unfold M.nm;rw [if_neg h1,cY,if_neg h2,hW]
   have CO:¬(c / 1664 % 3=0∧many≤8)→23<i→M.nm c many i=W++[M.dG c]:=fun h1 h2=>by
    unfold M.nm;rw [if_neg h1,cY,if_pos h2,hW]
   have sW:(c / 1664 % 3=0∧many≤8)→M.nm c many i=List.replicate (1+((c+i) % 8).toNat) (M.dG c):=fun h1=>by
    unfold M.nm;rw [if_pos h1]
   clear hW OT
   rw [hC]
   clear hC C
   refine gU fun C hC=>?_
   have tail:∀(l:List Nat) (H7:Hp),av H H7→H7 p2=some (.lst ((List.range i).map fun k=>V.str (kr c many k)))→H7 p5=some (.lst (l.map fun x=>V.str ⟨#[x]⟩))→l.length≤size+1→(¬(c / 1664 % 3=0∧many≤8)→M.nm c many i=l)→
    C [some (.int c),some (.int many),some (.str LETT),some (.int size),some (.ref p2),some (.int (0+i)),some (.ref p5)] H7:=by
    intro l H7 S7 f7 e7 ll Ft
    rw [hC]
    clear hC C Q8 CO DL f6 S6
    refine gU fun C hC=>?_
    have fin:∀(l':List Nat) (p':Addr) (H8:Hp),av H H8→H8 p2=some (.lst ((List.range i).map fun k=>V.str (kr c many k)))→H8 p'=some (.lst (l'.map fun x=>V.str ⟨#[x]⟩))→l'.length≤1000→M.nm c many i=l'→
     C [some (.int c),some (.int many),some (.str LETT),some (.int size),some (.ref p2),some (.int (0+i)),some (.ref p')] H8:=by
     intro l' p' H8 S8 f8 e8 ll' hl
     rw [hC]
     walk_at "rd"
     refine IE f8 e8 (by simp;(clear zX AF lW sW f7 e7 ll Ft hC f8 e8 ll' hl cY hsz s1 s2 hi e3 n2 e2 n0 e1 hz n1;lia)) ll' fun H9 k9 e9=>⟨hi,av.hI S8 n0 k9,?_,_,rfl⟩
     rw [e9,List.range_succ,List.map_append,←hl];rfl
    walk_at "rd"
    refine⟨⟨by decide,by decide⟩,by decide,cj (fun c2=>cj (fun c3=>?_) (fun c3=>fin l p5 H7 S7 f7 e7 (by (clear hm n1 e1 hz n2 e2 e3 zX AF lW sW f7 n0 cY hsz hC c2 c3 hi e7 s1 Ft;lia)) (Ft fun z=>c3 (decide_eq_true (by (clear hm n1 e1 hz n2 e2 n0 cY hsz s1 s2 hi e3 zX AF lW sW f7 e7 ll Ft hC c2 c3;lia)))))) (fun c2=>fin l p5 H7 S7 f7 e7 (by (clear hm n1 e1 hz n2 e2 e3 zX AF lW sW f7 n0 cY hsz hC c2 hi e7 s1 Ft;lia)) (Ft fun z=>c2 (decide_eq_true z.1)))⟩
    have c2:=of_decide_eq_true c2
    have c3:many≤8:=by have:=of_decide_eq_true c3;(clear hm n1 e1 hz n2 e2 n0 cY hsz s1 s2 hi e3 zX AF lW sW f7 e7 ll Ft hC c3 c2;lia)
    have hn:(1+(c+(0+(i:Int))) % 8).toNat=1+((c+i) % 8).toNat:=by (clear hm n1 e1 hz n2 e2 n0 cY hsz s1 s2 hi e3 zX AF lW sW f7 e7 ll Ft hC c2 c3;lia)
    refine⟨by decide,pK,_,yu c,by decide,aI.mk fun p7 H8 S8 n8 e8=>⟨by decide,p7,rfl,_,e8,by (clear hm n1 e1 hz n2 e2 n0 cY hsz s1 s2 hi e3 zX AF lW sW f7 e7 ll Ft hC c2 c3 hn n8 e8;omega),by (clear hm n1 e1 hz n2 e2 n0 cY hsz s1 s2 hi e3 zX AF lW sW f7 e7 ll Ft hC c2 c3 hn n8 e8;omega),aN (by simp;(clear hm n1 e1 hz n2 e2 n0 cY hsz s1 s2 hi e3 zX AF lW sW f7 e7 ll Ft hC c2 c3 hn n8 e8;omega)),aI.mk fun p8 H9 S9 n9 e9=>?_⟩⟩
    rw [hn,DB] at e9
    exact fin (List.replicate (1+((c+i) % 8).toNat) (M.dG c)) p8 H9 ((S7.trans S8).trans S9) (S9 _ _ (S8 _ _ f7)) (by rw [e9,List.map_replicate]) (by simp;(clear hm n1 e1 hz n2 e2 n0 cY hsz s1 s2 hi e3 zX AF lW sW f7 e7 ll Ft hC c2 c3 hn n8 e8 n9 e9;omega)) (sW ⟨c2,c3⟩)
   walk_at "rd"
   refine cj (fun c1=>?_) (fun c1=>?_)
   · have c1:23<i:=by have:=of_decide_eq_true c1;(clear hm n1 e1 hz n2 e2 n0 cY hsz s1 s2 hi e3 zX f6 AF DL lW Q8 CO sW hC c1;omega)
     exact⟨lJ DL,by decide,pK,_,yu c,_,DL,cb (by simp;(clear hm n1 e1 hz n2 e2 Q8 CO sW hC c1 n0 cY hsz e3 zX f6 hi AF s1 DL;lia)),gF.mk fun H7 k7 e7=>tail (W++[M.dG c]) H7 (av.hI S6 AF k7) (by rw [k7 _ zX];exact f6) (by rw [e7,List.map_append];rfl) (by simp;(clear hm n1 e1 hz n2 e2 n0 cY hsz s1 s2 hi e3 zX f6 hC c1 e7 AF DL CO sW;lia)) (fun h=>CO h c1)⟩
   · have c1:¬23<i:=fun z=>c1 (decide_eq_true (by (clear hm n1 e1 hz n2 e2 n0 cY hsz s1 s2 hi e3 zX f6 AF DL lW Q8 CO sW hC c1;omega)))
     exact tail W H6 S6 f6 DL (by (clear hm n1 e1 hz n2 e2 n0 cY hsz s1 s2 hi e3 zX f6 hC c1 AF DL CO sW;lia)) (fun h=>Q8 h c1)
 · rintro σ H3 ⟨o5,o6,_,S3,e3,rfl⟩
   walk_at "rd"
   refine q p2 _ _ S3 n0 e3 ?_
   have:∀(l:List Nat),aR H3 (l.map fun k=>D.str (kr c many k)) (l.map fun k=>V.str (kr c many k)):=fun l=>by
    induction l with
    | nil=>exact .nil
    | cons k r ih=>exact .cons (bc.mpr rfl) ih
   exact this _
noncomputable def sI (ns:List Int):Nat:=(if cm ns 0 % 3=2 then 13+cm ns 0 / 3 % 20 else 1+cm ns 0 / 3 % 12).toNat
noncomputable def Nh (K:PySem.W.Frag):Sp:=fun vs H Q _=>∃(a:Addr) (ns:List Int),vs=[.ref a]∧fQ K H a (ns.map V.int)∧ns.length≤63∧∀(m:Nat) H',1≤m→m≤32→av H H'→m=sI ns→Q (.int m) H'
theorem Dq (T:Txt K mg):bz P w K mg base CX0 2 T.mz T.lD ["script"] (Nh K):=by
 refine T.mR.ok (k:=1) oY (fun vs H Q E h=>?_) (fun bJ A outer s H vs Q E hr h=>?_)
 · obtain⟨a,ns,rfl,_⟩:=h
   rfl
 obtain⟨a,ns,rfl,hS,aK,q⟩:=h
 have nd:=oY.nd
 have aZ:=(rM (P:=P) (w:=w) (base:=base) T).mono (k:=1) (by omega)
 refine⟨_,(ah (aw (i:=1) nd rfl (Or.inl rfl) (ao aZ hr rfl T.bu T.bp.kp T.bt .nil aA (aa (pv 0) (aa ae af))))
  (aj (aE (ar bj (bb (aa (aq bo ae (aq aY (aq bF (pv 1) ae) ae)) (aa (aq bo ae (aq aY (aq bF (pv 1) ae) ae)) af))) (bL nj rfl T.wW qx (aa (cB br (aq aY (pv 1) ae) ae (aJ _)) af)) (fun _ _=>rfl))))),?_⟩
 walk_at "rd"
 refine⟨a,ns,0,rfl,hS,aK,by decide,by decide,?_⟩
 have bC:sI ns=(if cm ns (0:Int).toNat % 3=2 then 13+cm ns (0:Int).toNat / 3 % 20 else 1+cm ns (0:Int).toNat / 3 % 12).toNat:=rfl
 generalize cm ns (0:Int).toNat=c at bC ⊢
 walk_at "rd"
 refine⟨⟨by decide,by decide⟩,by decide,⟨by decide,by decide⟩,by decide,by decide,aI.mk fun p1 H1 S1 n1 e1=>⟨by decide,p1,rfl,_,aC e1,?_⟩⟩
 have h1:0≤c / 3 % 12:=by (clear aK bC n1 e1;lia)
 have h2:0≤c / 3 % 20:=by (clear aK bC n1 e1 h1;lia)
 by_cases h:c % 3=2
 · have:=q (13+c / 3 % 20).toNat H1 (by (clear aK bC n1 e1 h1 h2 h;lia)) (by (clear aK bC n1 e1 h1 h2 h;lia)) S1 (by rw [bC,if_pos h])
   rw [Int.toNat_of_nonneg (by (clear aK bC n1 e1 h1 h2 h;lia))] at this
   exact⟨_,by rw [if_pos (decide_eq_true h)];exact bD,this⟩
 · have:=q (1+c / 3 % 12).toNat H1 (by (clear aK bC n1 e1 h1 h2 h;lia)) (by (clear aK bC n1 e1 h1 h2 h;lia)) S1 (by rw [bC,if_neg h])
   rw [Int.toNat_of_nonneg (by (clear aK bC n1 e1 h1 h2 h;lia))] at this
   exact⟨_,by rw [if_neg (by simpa using h)];exact aP,this⟩
noncomputable def bN (ns:List Int):Int:=if cm ns 2 % 4=3 then cm ns 1 else cm ns 2
noncomputable def GF (K:PySem.W.Frag):Sp:=fun vs H Q _=>∃(a:Addr) (ns:List Int),vs=[.ref a]∧fQ K H a (ns.map V.int)∧ns.length≤63∧Q (.int (bN ns)) H
theorem qj (T:Txt K mg):bz P w K mg base CX0 2 T.jh T.jt ["script"] (GF K):=by
 refine T.gk.ok (k:=1) lA (fun vs H Q E h=>?_) (fun bJ A outer s H vs Q E hr h=>?_)
 · obtain⟨a,ns,rfl,_⟩:=h
   rfl
 obtain⟨a,ns,rfl,hS,aK,q⟩:=h
 have nd:=lA.nd
 have aZ:=(rM (P:=P) (w:=w) (base:=base) T).mono (k:=1) (by omega)
 refine⟨_,(ah (aU (aF br (aq aY (ao aZ hr rfl T.bu T.bp.kp T.bt .nil aA (aa (pv 0) (aa ae af))) ae) ae (aJ _)) (aj (aE (ao aZ hr rfl T.bu T.bp.kp T.bt .nil aA (aa (pv 0) (aa ae af))))) aH)
  (aj (aE (ao aZ hr rfl T.bu T.bp.kp T.bt .nil aA (aa (pv 0) (aa ae af)))))),?_⟩
 walk_at "rd"
 refine⟨a,ns,2,rfl,hS,aK,by decide,by decide,_,rfl,by decide,cj (fun z=>?_) (fun z=>?_)⟩
 · have z:cm ns 2 % 4=3:=of_decide_eq_true z
   rw [bN,if_pos z] at q
   exact⟨a,ns,1,rfl,hS,aK,by decide,by decide,q⟩
 · have z:¬cm ns 2 % 4=3:=fun y=>z (decide_eq_true y)
   rw [bN,if_neg z] at q
   exact⟨a,ns,2,rfl,hS,aK,by decide,by decide,q⟩
noncomputable def Nv (K:PySem.W.Frag):Sp:=fun vs H Q _=>∃(a:Addr) (ns:List Int) (at' many:Nat),vs=[.ref a,.int at',.int many]∧fQ K H a (ns.map V.int)∧ns.length≤63∧at'≤1000∧1≤many∧many≤32∧
 ∀t c c' v H',av H H'→Dt H' (dT t) v→lI many t c c'→(c=bN ns∧c'=cm ns at')→Q v H'
theorem JQ (T:Txt K mg):bz P w K mg base CX0 3 T.mI T.mM ["script","at","many"] (Nv K):=by
 refine T.rS.ok (k:=2) pY (fun vs H Q E h=>?_) (fun bJ A outer s H vs Q E hr h=>?_)
 · obtain⟨a,ns,at',many,rfl,_⟩:=h
   rfl
 obtain⟨a,ns,at',many,rfl,hS,aK,lG,bq,hm,q⟩:=h
 have nd:=pY.nd
 have aZ:=(rM (P:=P) (w:=w) (base:=base) T).mono (k:=2) (by omega)
 have cA:=(uP (P:=P) (w:=w) (base:=base) T).mono (k:=2) (by omega)
 have fb:=(qj (P:=P) (w:=w) (base:=base) T).mono (k:=2) (by omega)
 refine⟨_,(ah (aw (i:=3) nd rfl (Or.inl rfl) (ao cA hr rfl T.eh T.cV.kp T.eG .nil aA (aa (ao aZ hr rfl T.bu T.bp.kp T.bt .nil aA (aa (pv 0) (aa (pv 1) af))) (aa ae af))))
  (ah (sV (i:=4) (N:=["x"]) (caps:=[]) rfl ⟨rfl,rfl,rfl,rfl,by decide +kernel,rfl,rfl,rfl,rfl⟩ (wb (ao cA hr rfl T.eh T.cV.kp T.eG .nil aA (aa (ao fb hr rfl T.jc T.gk.kp T.jk .nil aA (aa (pv 0) af)) (aa (pv 2) af)))) (fun _ _ _ _=>cS) (fun _ _ _ _=>(aV (aa aD (aa (pv 0) af)))) nd rfl rfl rfl)
  (ah (aw (i:=5) nd rfl (Or.inl rfl) (aq bo (pv 1) ae))
  (ah (Am PassesOwn.never (aF kT (aO kz rfl T.cJ bM (aa (pv 4) af)) ae (aJ _)) (ah (aw (i:=6) nd rfl (Or.inl rfl) (ao aZ hr rfl T.bu T.bp.kp T.bt .nil aA (aa (pv 0) (aa (pv 5) af))))
    (ah (aw (i:=7) nd rfl (Or.inl rfl) (aq aY (aq bF (pv 6) ae) (aq fK (aO kz rfl T.cJ bM (aa (pv 4) af)) ae)))
    (ah (aU (PW.pt (zu (aF kT (aq aY (pv 6) ae) ae (aJ _)) (tG (aF kT (pv 2) ae (aJ _))))) (aj (aw (i:=7) nd rfl (Or.inl rfl) (aq aY (aq fK (aq fK (pv 5) (pv 1)) ae) (aq fK (aO kz rfl T.cJ bM (aa (pv 4) af)) ae)))) aH)
    (ah (aw (i:=8) nd rfl (Or.inl rfl) (bb (aa (ar bj (pv 4) (pv 7) (fun _ _=>rfl)) (aa (ar bj (pv 4) (aq bo (pv 7) ae) (fun _ _=>rfl)) af))))
    (ah (aw (i:=9) nd rfl (Or.inl rfl) (aq aY (aq bF (pv 6) ae) ae))
    (ah (aw (i:=10) nd rfl (Or.inl rfl) (aV (aa aD (aa (ar bj (pv 3) (aq aY (aq bF (pv 6) ae) ae) (fun _ _=>rfl)) (aa (ar bj (pv 8) (pv 9) (fun _ _=>rfl)) (aa (ar bj (pv 8) (aq fK ae (pv 9)) (fun _ _=>rfl)) af))))))
    (ah (aw (i:=4) nd rfl (Or.inl rfl) (aq eO (aq eO (fO Iz (pv 4) m8 (ff (pv 7))) (bb (aa (pv 10) af))) (fO Iz (pv 4) (ff (aq bo (pv 7) ae)) m8)))
    (aj (aw (i:=5) nd rfl (Or.inl rfl) (aq bo (pv 5) ae)))))))))))
  (aj (aE (ar bj (pv 4) ae (fun _ _=>rfl)))))))),?_⟩
 walk_at "rd"
 refine⟨a,ns,at',rfl,hS,aK,by (clear aK lG bq hm;lia),by omega,?_⟩
 have jv:cm ns (at':Int).toNat=cm ns at':=rfl
 generalize cm ns (at':Int).toNat=c' at jv ⊢
 refine⟨c',3,rfl,by decide,fun pd dv H1 S1 nI ed Dd=>?_⟩
 refine⟨a,ns,rfl,S1.seq hS,aK,?_⟩
 generalize hc:bN ns=c
 refine⟨c,many,rfl,hm,fun pn nv H2 S2 nM en Dn=>?_⟩
 have Q6:nv=(List.range many).map fun k=>V.str (kr c many k):=by
  have:((List.range many).map fun k=>D.str (kr c many k))=((List.range many).map (kr c many)).map D.str:=by rw [List.map_map];rfl
  rw [this] at Dn
  rw [aR.yM Dn,List.map_map];rfl
 subst Q6
 refine WalkL.comp en (fun i ys H'=>aR H' ((List.range i).map fun k=>dT (.leaf (kr c many k))) ys∧i≤many) ⟨.nil,Nat.zero_le _⟩ (by simp;(clear nI ed hc nM en aK lG bq jv;lia)) (fun i ys H' h=>by have:=h.1.length;simp at this;(clear aK lG bq hm jv nI ed hc nM en h;lia)) (fun i x ys H' ex S' h=>?_) (fun p ys H3 H4 S3 S4 h np ep=>?_)
 · obtain⟨hi,ex⟩:=List.getElem?_eq_some_iff.mp ex
   simp at hi ex
   subst ex
   walk_at "rd"
   refine⟨by decide,aI.mk fun p1 H5 S5 n5 e5=>⟨S'.trans S5,?_,hi⟩⟩
   rw [List.range_succ,List.map_append]
   exact(h.1.same S5).append (.one (DQ e5))
 · simp at h
   have PK:dv=((List.range 3).map (kr c' 3)).map V.str:=by
    have:((List.range 3).map fun k=>D.str (kr c' 3 k))=((List.range 3).map (kr c' 3)).map D.str:=by rw [List.map_map];rfl
    rw [this] at Dd
    exact aR.yM Dd
   subst PK
   have S14:=(S2.trans S3).trans S4
   have D4:=h.same S4
   have st:=M.TI.start (names:=(List.range many).map (kr c many)) (deeds:=(List.range 3).map (kr c' 3))
   rw [show ((List.range many).map (kr c many)).length=many by simp] at st
   obtain⟨W,hW⟩:∃W:Nat→St→Hp→Prop,∀m σ H',W m σ H'↔∃(j:Nat) (ts:List L2.Tree) (vs:List V) (pt:Addr) (o6 o7 o8 o9 o10:Option V),m=ts.length∧M.TI ((List.range many).map (kr c many)) ((List.range 3).map (kr c' 3)) many j ts∧1≤ts.length∧av H1 H'∧H' pt=some (.lst vs)∧aR H' (ts.map dT) vs∧
    σ=[some (V.ref a),some (V.int at'),some (V.int many),some (V.ref pd),some (V.ref pt),some (V.int (at'+2+j)),o6,o7,o8,o9,o10]:=⟨_,fun _ _ _=>Iff.rfl⟩
   refine⟨W,⟨_,(hW _ _ _).mpr ⟨0,((List.range many).map (kr c many)).map M.Tr.leaf,ys,p,none,none,none,none,none,rfl,st,by simp;omega,S14,ep,by rw [List.map_map,List.map_map];exact D4,by simp⟩⟩,?_⟩
   intro m σ H5 hw
   obtain⟨j,ts,vs,pt,o6,o7,o8,o9,o10,rfl,I,h1,S5,et,Dv,rfl⟩:=(hW _ _ _).mp hw
   have lv:vs.length=ts.length:=by have:=Dv.length;simpa using this
   have hj:=I.len
   simp only [sS,DM,DJ,CZ,sR,yN,xW,KP,sF,List.getElem?_cons_zero,List.getElem?_cons_succ,Option.some.injEq,exists_eq_left',V.bl.injEq,V.int.injEq,V.ref.injEq,List.cons.injEq,and_true,exists_and_left,exists_eq_left]
   refine⟨_,aC et,cj (fun c1=>?_) (fun c1=>?_)⟩
   · have c1:1<ts.length:=by have:=of_decide_eq_true c1;(clear nI hc nM en np aK lG bq ed h1 et hj c1 hm jv ep;omega)
     refine⟨fun σ' H'=>∃m',m'<ts.length∧W m' σ' H',fun σ' H' z=>z,?_⟩
     refine vV fun C hC=>?_
     walk_at "rd"
     refine⟨a,ns,at'+2+j,by norm_cast,(S1.trans S5).seq hS,aK,by (clear aK lG bq hm jv nI hc nM en np ep ed h1 et lv hj c1 hC;lia),by (clear nI hc nM en np ep ed h1 et lv c1 hC aK bq jv;lia),?_⟩
     generalize cm ns ((at':Int)+2+j).toNat=cell
     walk_at "rd"
     have he:=aC et
     simp only [he,Option.some.injEq,exists_eq_left']
     have md:∀z:Int,∃p:Nat,z % (((vs.length:Nat):Int) - 1)=p∧p+1<ts.length:=fun z=>by
      have h1:=Int.emod_nonneg z (show (((vs.length:Nat):Int) - 1)≠0 by (clear nI hc nM en np aK lG bq ed h1 et hC he jv ep hj;lia))
      have h2:=Int.emod_lt_of_pos z (show 0<(((vs.length:Nat):Int) - 1) by (clear aK lG bq hm jv nI hc nM en np ep ed et hC he h1 hj;omega))
      exact⟨(z % (((vs.length:Nat):Int) - 1)).toNat,by (clear aK lG bq hm jv nI hc nM en np ep ed et lv hj c1 hC he h2;lia),by (clear aK lG bq hm jv nI hc nM en np hC he h1 ed et hj;omega)⟩
     have mj:∀p:Nat,((at':Int)+2+j - at' - 2) % (((vs.length:Nat):Int) - 1)=p→p=j % (ts.length - 1):=fun p hp=>by
      have e1:(((vs.length:Nat):Int) - 1)=((ts.length - 1:Nat):Int):=by (clear aK lG bq hm jv nI hc nM en np hj c1 hC he hp ed;lia)
      have e2:((at':Int)+2+j - at' - 2)=(j:Int):=by (clear ed h1 et lv hj c1 hC he hp e1 hc nM en np ep hm jv nI bq aK;lia)
      rw [e1,e2] at hp
      exact_mod_cast hp.symm
     have tail:∀p:Nat,p+1<ts.length→(24<many→p=j % (ts.length - 1))→C [some (V.ref a),some (V.int at'),some (V.int many),some (V.ref pd),some (V.ref pt),some (V.int (at'+2+j)),some (V.int cell),some (V.int p),o8,o9,o10] H5:=by
      intro p kZ tP
      rw [hC]
      clear hC C
      refine vV fun C hC=>?_
      walk_at "rd"
      obtain⟨ta,ha⟩:∃t,ts[p]? = some t:=⟨_,List.getElem?_eq_getElem (by (clear aK lG bq hm jv nI hc nM en np ep ed h1 et lv hj c1 hC tP he;lia))⟩
      obtain⟨tb,hb⟩:∃t,ts[p+1]? = some t:=⟨_,List.getElem?_eq_getElem (by omega)⟩
      obtain⟨va,AH,da⟩:=aR.dD Dv ha
      obtain⟨vb,AG,db⟩:=aR.dD Dv hb
      refine⟨_,he,va,h7 AH,_,he,vb,gX (by (clear aK lG bq hm jv nI hc nM en np ep ed h1 et lv hj c1 he kZ tP hC ha hb AH AG;lia)) (by rw [show ((p:Int)+1).toNat=p+1 by (clear aK lG bq hm jv nI hc nM en np ep ed h1 et lv hj c1 he kZ tP hC ha hb AH AG;lia)];exact AG),by decide,aI.mk fun p6 H6 S6 n6 e6=>?_⟩
      have EL:0≤cell / 128 % 3:=by (clear aK lG bq hm jv nI hc nM en np ep ed h1 et lv hj c1 he kZ tP hC ha hb AH AG n6 e6;lia)
      have FP:cell / 128 % 3<3:=by (clear aK lG bq hm jv nI hc nM en np ep ed h1 et lv hj c1 he kZ tP hC ha hb AH AG n6 e6 EL;lia)
      obtain⟨x,y,vx,vy,GB,uX,dx,dy,cU⟩:∃x y vx vy,kX [va,vb] (cell / 64 % 2)=some vx∧kX [va,vb] (1 - cell / 64 % 2)=some vy∧Dt H5 (dT x) vx∧Dt H5 (dT y) vy∧((x=ta∧y=tb)∨(x=tb∧y=ta)):=by
       rcases (show cell / 64 % 2=0∨cell / 64 % 2=1 by (clear aK lG bq hm jv nI hc nM en np ep ed h1 et lv hj c1 he kZ tP hC ha hb AH AG n6 e6 EL FP;lia)) with z|z
       · exact⟨ta,tb,va,vb,by rw [z];exact aP,by rw [z];exact bD,da,db,.inl ⟨rfl,rfl⟩⟩
       · exact⟨tb,ta,vb,va,by rw [z];exact bD,by rw [z];exact aP,db,da,.inr ⟨rfl,rfl⟩⟩
      refine⟨⟨by decide,by decide⟩,by decide,⟨by decide,by decide⟩,by decide,_,aC (S6 _ _ (S5 _ _ ed)),V.str (kr c' 3 (cell / 128 % 3).toNat),gX EL (by rw [List.getElem?_map,List.getElem?_map,List.getElem?_range (by (clear aK lG bq hm jv nI hc nM en np ep ed h1 et lv hj c1 he kZ tP hC ha hb AH AG n6 e6 EL FP GB uX cU;lia))];rfl),p6,rfl,_,aC e6,vx,GB,p6,rfl,_,aC e6,vy,uX,by decide,aI.mk fun p7 H7 S7 n7 e7=>?_⟩
      rw [hC]
      clear hC C
      walk_at "rd"
      refine⟨_,S7 _ _ (S6 _ _ et),?_⟩
      rw [C7 (by (clear aK lG bq hm jv nI hc nM en FP GB uX cU n7 e7 np ep ed h1 et tP ha hb AH AG n6 e6 EL c1 he hj;lia))]
      refine aI.mk fun p8 H8 S8 n8 e8=>⟨by decide,aI.mk fun p9 H9 S9 n9 e9=>⟨p8,rfl,p9,rfl,_,S9 _ _ e8,_,e9,aN (by simp;(clear tP ha hb AH AG n6 e6 EL FP GB uX cU n7 e7 n8 e8 n9 e9 nI hc nM en np aK lG bq ed h1 et jv ep c1 he kZ;lia)),aI.mk fun pA HA SA nA eA=>?_⟩⟩
      refine⟨_,SA _ _ (S9 _ _ (S8 _ _ (S7 _ _ (S6 _ _ et)))),?_⟩
      have Nk:(p:Int)+2=((p+2:Nat):Int):=by (clear aK lG bq hm jv nI hc nM en np ep ed h1 et lv hj c1 he kZ tP ha hb AH AG n6 e6 EL FP GB uX cU n7 e7 n8 e8 n9 e9 nA eA;lia)
      rw [Nk,wM (by (clear ha hb AH AG n6 e6 EL FP GB uX cU n7 e7 n8 e8 n9 e9 nA eA Nk aK lG bq hm jv nI hc nM en np ep ed h1 tP hj c1 et he;lia))]
      refine aI.mk fun pB HB SB nB eB=>⟨pA,rfl,pB,rfl,_,SB _ _ eA,_,eB,aN (by simp;(clear hb AH AG n6 e6 EL FP GB uX cU n7 e7 n8 e8 n9 e9 nA eA Nk nB eB hc nM en np ep ed aK lG bq tP ha jv nI et c1 he;lia)),aI.mk fun pC HC SC nC eC=>?_⟩
      have S7C:=((((S8.trans S9).trans SA).trans SB).trans SC)
      have S5C:=(S6.trans S7).trans S7C
      have kd:Dt HC (dT (.knot (kr c' 3 (cell / 128 % 3).toNat) x y)) (.ref p7):=C6 (S7C _ _ e7) (dx.same S5C) (dy.same S5C)
      have step:=I.step (f:=kr c' 3 (cell / 128 % 3).toNat) ha hb tP (List.mem_map.mpr ⟨_,List.mem_range.mpr (by (clear aK lG bq hm jv nI hc nM en np ep ed h1 et lv hj c1 he kZ tP ha hb AH AG n6 e6 EL FP GB uX cU n7 e7 n8 e8 n9 e9 nA eA Nk nB eB nC eC;lia)),rfl⟩) cU
      have DvC:=Dv.same S5C
      refine⟨ts.length - 1,by (clear AH AG n6 e6 EL FP GB uX cU n7 e7 n8 e8 n9 e9 nA eA Nk nB eB nC eC aK lG bq hm jv nI hc nM en np ep ed h1 et lv hj c1 ha hb tP he;omega),(hW _ _ _).mpr ⟨j+1,_,_,pC,_,_,_,_,_,?_,step,?_,S5.trans S5C,eC,?_,by push_cast;simp only [Int.add_assoc];rfl⟩⟩
      · have:=step.len;(clear aK lG bq hm jv nI hc nM en np ep ed n6 e6 EL FP GB uX cU n7 e7 n8 e8 n9 e9 nA eA Nk nB eB h1 et lv kZ tP ha hb AH AG c1 he nC eC;lia)
      · have:=step.len;(clear aK lG bq hm jv nI hc nM en np ep ed n6 e6 EL FP GB uX cU n7 e7 n8 e8 n9 e9 nA eA Nk nB eB h1 et lv kZ tP ha hb AH AG nC eC;lia)
      · unfold M.merge
        rw [List.map_append,List.map_append,List.map_take,List.map_drop]
        exact((DvC.take p).append (.one kd)).append (DvC.drop (p+2))
     refine⟨⟨by decide,by decide⟩,by (clear aK lG bq hm jv nI hc nM en np ep ed h1 hC he et hj;omega),by decide,cj (fun c2=>?b1) (fun c2=>cj (fun c3=>?b2) (fun c3=>?b3))⟩
     case' b1=>
      obtain⟨p,Ll,kZ⟩:=md ((at':Int)+2+j - at' - 2)
      have tP:24<many→p=j % (ts.length - 1):=fun _=>mj p Ll
      refine⟨by (clear aK lG bq hm jv nI hc nM en np ep ed he c2 Ll kZ tP h1 et hj hC;omega),?_⟩
     case' b2=>
      obtain⟨p,Ll,kZ⟩:=md ((at':Int)+2+j - at' - 2)
      have tP:24<many→p=j % (ts.length - 1):=fun _=>mj p Ll
      refine⟨by (clear aK lG bq hm jv nI hc nM en np ep ed he c2 c3 Ll kZ tP h1 et hj hC;omega),?_⟩
     case' b3=>
      obtain⟨p,Ll,kZ⟩:=md (cell / 4)
      have tP:24<many→p=j % (ts.length - 1):=fun z=>absurd (decide_eq_true (by (clear aK lG bq hm jv nI hc nM en np ep ed h1 et lv hj c1 hC he c2 c3 Ll kZ;omega))) c3
     all_goals
      rw [Ll]
      exact tail p kZ tP
   · have c1:ts.length=1:=by have:¬1<ts.length:=fun z=>c1 (decide_eq_true (by (clear nI hc nM en np aK lG bq ed h1 et hj c1 hm jv ep;omega)));(clear aK lG bq hm jv nI hc nM en et lv hj c1 ep ed;lia)
     obtain⟨t,rfl⟩:=List.length_eq_one_iff.mp c1
     obtain⟨h2,h3,h4⟩:=I.end hm
     walk_at "rd"
     obtain⟨v,hv,hd⟩:=aR.get (i:=0) Dv rfl
     refine⟨_,aC et,v,gX (by decide) hv,q t c c' v H5 (S1.trans S5) hd ⟨h2,h3,h4⟩ ⟨hc.symm,jv⟩⟩
theorem w9 (c d:Nat):(!decide ([c]<[d]))=decide (d≤c):=by
 rw [Bool.eq_iff_iff];simp [List.cons_lt_cons_iff]
noncomputable def Nw:Sp:=fun vs H Q _=>∃(x:Str),vs=[.str x]∧x.length≤1000000∧∀H',av H H'→Q (.bl (bw x)) H'
theorem Du (T:Txt K mg):bz P w K mg base CX0 1 T.qu T.qL ["text"] Nw:=by
 refine T.ny.ok (k:=0) uA (fun vs H Q E h=>?_) (fun bJ A outer s H vs Q E hr h=>?_)
 · obtain⟨x,rfl,_⟩:=h
   rfl
 obtain⟨x,rfl,hx,q⟩:=h
 have nd:=uA.nd
 refine⟨_,(aj (aE (mF (uD wm wm ae (aO gZ rfl T.cJ bM (aa (pv 0) af)) (jX (v:=.int 8) rfl T.ug ⟨_,rfl⟩)) (jW (aO (yV rfl) rfl T.LP G7 (aa (dI (N:=["sign"]) (caps:=[]) rfl ⟨rfl,rfl,rfl,rfl,by decide +kernel,rfl,rfl,rfl,rfl⟩ (GO (pv 0)) (fun _ _ _ _=>cS) (fun _ _ _ _=>(uD nq nq aD (pv 0) aD))) af)))))),?_⟩
 walk_at "rd"
 have hz:x.length≤sizeLine:=Nat.le_trans hx (by decide)
 have el:x.cps.toList.length=x.length:=by simp [Str.length]
 refine⟨hz,cj (fun c1=>cj (fun c2=>?_) (fun c2=>?_)) (fun c1=>?_)⟩
 · have c1:1≤x.length:=by have:=of_decide_eq_true c1;(clear hx hz el c1 c2;omega)
   have c2:x.length≤8:=by have:=of_decide_eq_true c2;(clear hx hz el c2 c1;lia)
   refine zW (fun i ys H'=>H'=H∧i≤x.cps.size∧ys=(x.cps.toList.take i).map (fun c=>V.bl (decide (97≤c)&&decide (c≤122)))) ⟨rfl,Nat.zero_le _,rfl⟩ (Nat.lt_of_le_of_lt c2 (by decide)) (fun i ys H' h=>?_) (fun i c ys H' ec h=>?_) (fun ys H' h p hp=>?_)
   · rw [h.2.2];simp;(clear hx hz el c1 c2 h;lia)
   · obtain⟨rfl,hi,rfl⟩:=h
     walk_at "rd"
     have fB:i<x.cps.size:=(Array.getElem?_eq_some_iff.mp ec).1
     have Fs:x.cps.toList[i]? = some c:=by simpa using ec
     have e:(x.cps.toList.take (i+1)).map (fun c=>V.bl (decide (97≤c)&&decide (c≤122)))=(x.cps.toList.take i).map (fun c=>V.bl (decide (97≤c)&&decide (c≤122)))++[V.bl (decide (97≤c)&&decide (c≤122))]:=by
      rw [List.take_add_one,Fs];simp
     have l1:(!decide ((Str.mk #[c]).cps.toList<(Str.ofString "a").cps.toList))=decide (97≤c):=by
      have:(Str.ofString "a").cps.toList=[97]:=by decide +kernel
      rw [this];exact w9 c 97
     have l2:(!decide ((Str.ofString "z").cps.toList<(Str.mk #[c]).cps.toList))=decide (c≤122):=by
      have:(Str.ofString "z").cps.toList=[122]:=by decide +kernel
      rw [this];exact w9 122 c
     rw [l1,l2]
     refine cj (fun d=>?_) (fun d=>?_)
     · refine⟨fB,?_⟩
       rw [e,d];simp
     · refine⟨fB,?_⟩
       have d:decide (97≤c)=false:=by simpa using d
       rw [e,d];simp
   · obtain⟨rfl,_,rfl⟩:=h
     refine⟨p,rfl,x.cps.toList.map (fun c=>decide (97≤c)&&decide (c≤122)),fQ.of ?_,?_⟩
     · rw [bI]
       have:x.cps.toList.take x.cps.size=x.cps.toList:=List.take_of_length_le (by simp)
       rw [this,List.map_map];rfl
     · have:=q _ (cg hp (.lst ((x.cps.toList.take x.cps.size).map (fun c=>V.bl (decide (97≤c)&&decide (c≤122))))))
       unfold bw isName at this
       rw [el,decide_eq_true c1,decide_eq_true c2] at this
       rw [List.all_map]
       simpa using this
 · have c1:1≤x.length:=by have:=of_decide_eq_true c1;(clear hx hz el c1 c2;omega)
   have c2:¬x.length≤8:=fun z=>c2 (decide_eq_true (by (clear hx hz el c2 c1;lia)))
   have:=q H (av.refl H)
   unfold bw isName at this
   rw [el,decide_eq_false c2] at this
   simpa using this
 · have c1:¬1≤x.length:=fun z=>c1 (decide_eq_true (by (clear hx hz el c1;lia)))
   have:=q H (av.refl H)
   unfold bw isName at this
   rw [el,decide_eq_false c1] at this
   simpa using this
noncomputable def MY:Sp:=fun vs H Q _=>∃(t:L2.Tree) (v:V),vs=[v]∧Dt H (dT t) v∧Q (.bl t.eR) H
theorem wV (t:L2.Tree):decide ((if t.eR=true then Str.ofString "leaf" else Str.ofString "knot")=Str.ofString "leaf")=t.eR:=by
 cases t
 · show decide (Str.ofString "leaf"=Str.ofString "leaf")=true
   decide +kernel
 · show decide (Str.ofString "knot"=Str.ofString "leaf")=false
   decide +kernel
theorem kE (T:Txt K mg):bz P w K mg base CX0 1 T.rB T.qm ["tree"] MY:=by
 refine T.fA.ok (k:=0) tQ (fun vs H Q E h=>?_) (fun bJ A outer s H vs Q E hr h=>?_)
 · obtain⟨t,v,rfl,_⟩:=h
   rfl
 obtain⟨t,v,rfl,ht,q⟩:=h
 obtain⟨a,r,rfl,ea⟩:=xn ht
 have nd:=tQ.nd
 refine⟨_,(aj (aE (cB br (ar bj (pv 0) ae (fun _ _=>rfl)) aD (aJ _)))),?_⟩
 walk_at "rd"
 refine⟨_,ak ea,_,aP,rfl,?_⟩
 have e:decide (V.str (if t.eR=true then Str.ofString "leaf" else Str.ofString "knot")=V.str (Str.ofString "leaf"))=t.eR:=by
  simp only [V.str.injEq];exact wV t
 rw [e]
 exact q
noncomputable def N0:Sp:=fun vs H Q _=>∃(t u:L2.Tree) (p:List Nat) (v z:V),vs=[v,z]∧Dt H (dT t) v∧Dt H (dP p) z∧t.sub p=some u∧∀v',Dt H (dT u) v'→Q v' H
theorem oU (T:Txt K mg):bz P w K mg base CX0 1 T.qC T.qV ["tree","place"] N0:=by
 refine T.ia.ok (k:=0) sX (fun vs H Q E h=>?_) (fun bJ A outer s H vs Q E hr h=>?_)
 · obtain⟨t,u,p,v,z,rfl,_⟩:=h
   rfl
 obtain⟨t,u,p,v,z,rfl,ht,hp,hu,q⟩:=h
 obtain⟨a,rfl,ea⟩:=uG hp
 have nd:=sX.nd
 refine⟨_,(ah (aw (i:=2) nd rfl (Or.inl rfl) (pv 0))
  (ah (gL PassesOwn.never rfl (TH (pv 1)) (bG (i:=3) nd rfl (Or.inl rfl)) (aj (aw (i:=2) nd rfl (Or.inl rfl) (ar bj (pv 2) (aq bo ae (pv 3)) (fun _ _=>rfl)))))
  (aj (aE (pv 2))))),?_⟩
 walk_at "rd"
 obtain⟨Pv,fu⟩:∃Pv:Nat→St→Hp→Prop,∀i σ H',Pv i σ H'↔H'=H∧∃(y:L2.Tree) (vy:V) (o3:Option V),Dt H (dT y) vy∧y.sub (p.drop i)=some u∧σ=[some v,some (.ref a),some vy,o3]:=⟨_,fun _ _ _=>Iff.rfl⟩
 refine nW.Df ea Pv ((fu _ _ _).mpr ⟨rfl,t,v,none,ht,by simpa using hu,rfl⟩) (fun i σ H' _ h=>((fu _ _ _).mp h).1▸ea) ?_ ?_
 · intro i x σ H' ex h
   obtain⟨rfl,y,vy,o3,hy,hs,rfl⟩:=(fu _ _ _).mp h
   have hi:i<p.length:=by have:=(List.getElem?_eq_some_iff.mp ex).1;simpa [vP] using this
   have Ti:x = .int ((p[i]:Nat):Int):=by
    have:(vP p)[i]? = some (.int ((p[i]:Nat):Int)):=by unfold vP;rw [List.getElem?_map,List.getElem?_eq_getElem hi];rfl
    rw [this] at ex;exact(Option.some.inj ex).symm
   subst Ti
   rw [List.drop_eq_getElem_cons hi] at hs
   walk_at "rd"
   cases y with
   | leaf x=>simp [M.Tr.sub] at hs
   | knot f l r=>
    obtain⟨b,vl,vr,rfl,eb,hl,vi⟩:=fP hy
    simp only [M.Tr.sub] at hs
    split at hs
    · rename_i e0
      refine⟨b,rfl,_,ak eb,vl,by rw [e0];exact dH,(fu _ _ _).mpr ⟨rfl,l,_,_,hl,hs,rfl⟩⟩
    · split at hs
      · rename_i _ e1
        refine⟨b,rfl,_,ak eb,vr,by rw [e1];exact gW,(fu _ _ _).mpr ⟨rfl,r,_,_,vi,hs,rfl⟩⟩
      · cases hs
 · intro σ H' h
   obtain⟨rfl,y,vy,o3,hy,hs,rfl⟩:=(fu _ _ _).mp h
   walk_at "rd"
   have:(vP p).length=p.length:=by simp [vP]
   rw [this,List.drop_length,M.Tr.pq] at hs
   cases hs
   exact q vy hy
noncomputable def uY (n:Nat):Sp:=fun vs H Q _=>∃(t:L2.Tree) (v:V),vs=[v]∧Dt H (dT t) v∧t.dp≤n∧t.lv.length≤5000∧zE H (t.pl.map dP) Q
theorem jI (T:Txt K mg):∀n:Nat,bz P w K mg base CX0 (n+2) T.tU T.tK ["tree"] (uY n)
 | 0=>by
  refine T.iE.ok (k:=1) qB (fun vs H Q E h=>?_) (fun bJ A outer s H vs Q E hr h=>?_)
  · obtain⟨t,v,rfl,_⟩:=h
    rfl
  · obtain⟨t,v,rfl,_,h,_⟩:=h
    have:=t.lV
    omega
 | n+1=>by
  refine T.iE.ok (k:=n+2) qB (fun vs H Q E h=>?_) (fun bJ A outer s H vs Q E hr h=>?_)
  · obtain⟨t,v,rfl,_⟩:=h
    rfl
  obtain⟨t,v,rfl,ht,hd,hl,q⟩:=h
  have nd:=qB.nd
  have bY:=(kE (P:=P) (w:=w) (base:=base) T).mono (k:=n+2) (by lia)
  have fM:=jI T n
  refine⟨_,(ah (aw (i:=1) nd rfl (Or.inl rfl) (bb (aa (aV af) af)))
  (ah (aU (cL (ao bY hr rfl T.fT T.fA.kp T.gi .nil aA (aa (pv 0) af))) (aj (aE (pv 1))) aH)
  (ah (gL PassesOwn.never rfl (TH (aV (aa ae (aa ae af)))) (bG (i:=2) nd rfl (Or.inr rfl)) (aj (fN (jR PySem.F.plainAttrs_list PySem.F.slot_list_extend PySem.F.type_list_extend Ej (pv 1) (aa (dI (N:=["place","step"]) (caps:=[2]) rfl ⟨rfl,rfl,rfl,rfl,by decide +kernel,rfl,rfl,rfl,rfl⟩ (wb (ao fM hr rfl T.mX T.iE.kp T.lC .nil aA (aa (ar bj (pv 0) (aq bo ae (pv 2)) (fun _ _=>rfl)) af))) (fun _ _ _ _=>cS) (fun _ _ _ _=>(aq gn (aV (aa (pv 1) af)) (pv 0)))) af)))))
  (aj (aE (pv 1)))))),?_⟩
  walk_at "rd"
  refine⟨by decide,aI.mk fun p1 H1 S1 n1 e1=>⟨by decide,aI.mk fun p2 H2 S2 n2 e2=>?_⟩⟩
  have R0:=ht.same (S1.trans S2)
  refine⟨t,v,rfl,R0,_,rfl,?_⟩
  have n0:H p2=none:=S1.free n2
  have S12:=S1.trans S2
  have d0:Dt H2 (dP []) (.ref p1):=gz (S2 _ _ e1)
  cases t with
  | leaf x=>exact eS (q p2 _ H2 S12 n0 e2 (.one d0))
  | knot f l r=>
   obtain⟨a,vl,vr,rfl,ea,vq,vi⟩:=fP R0
   simp only [M.Tr.dp] at hd
   simp only [M.Tr.lv,List.length_append] at hl
   refine d5 ⟨by decide,aI.mk fun p3 H3 S3 n3 e3=>?_⟩
   have Eo:H p3=none:=S12.free n3
   have t6:p2≠p3:=aL e2 n3
   have CH:a≠p2:=gB ea e2 (by intro z;cases z)
   have turn:∀(y:L2.Tree) (vy:V) (step:Nat) (H4:Hp) (vs:List V) (R:V→Hp→Prop),y.dp≤n→y.lv.length≤5000→av H H4→H4 p2=some (.lst vs)→Dt H4 (dT y) vy→vs.length≤20000→
    (∀H5 ws,av H H5→H5 p2=some (.lst (vs++ws))→aR H5 (y.pl.map fun q=>dP (step::q)) ws→(∀b,b≠p2→∀o,H4 b=some o→H5 b=some o)→R .non H5)→
    uY n [vy] H4 (fun x H1=>WalkL K x H1 fun J H1=>mH J [2] Nn (O4 FD (NJ (HG (G8 1) Nz)) (G8 0)) [some (V.ref a),some (V.ref p2),some (V.int step)] H1 fun x H1=>∃Gz,x=V.ref Gz∧∃x,H1 p2=some (HO.lst x)∧∃x_2,H1 Gz=some (HO.lst x_2)∧x.length+x_2.length≤sizeLine∧gF H1 p2 (HO.lst (x++x_2)) (R V.non)) E0:=by
    intro y vy step H4 vs R Mw Sj S4 e4 hy QG hR
    refine⟨y,vy,rfl,hy,Mw,Sj,fun p5 ys H5 S5 n5 e5 D5=>?_⟩
    have l5:ys.length=y.pl.length:=by have:=D5.length;simpa using this
    have l6:=M.ir y
    refine WalkL.comp e5 (fun i zs H'=>i≤ys.length∧aR H' ((y.pl.take i).map fun q=>dP (step::q)) zs) ⟨Nat.zero_le _,.nil⟩ (by (clear n1 e1 n2 e2 n0 hd ea hl n3 e3 Eo t6 CH Mw QG n5 e4 e5;lia)) (fun i zs H' h=>by have:=h.2.length;simp at this;(clear n1 e1 n2 e2 n0 hd ea hl n3 e3 Eo t6 CH Mw Sj e4 QG n5 e5 l5 l6 h;lia)) (fun i x zs H' ex S' h=>?_) (fun p7 zs H6 H7 S6 S7 h n7 e7=>?_)
    · have hi:i<y.pl.length:=by have:=(List.getElem?_eq_some_iff.mp ex).1;(clear n1 e1 n2 e2 n0 hd ea hl n3 e3 Eo t6 CH Mw Sj e4 QG n5 l6 ex e5 h;lia)
      obtain⟨v',kY,sy⟩:=aR.dD D5 (List.getElem?_eq_getElem hi)
      rw [ex] at kY;cases kY
      obtain⟨b,rfl,eb⟩:=uG (sy.same S')
      walk_at "rd"
      refine⟨by decide,aI.mk fun p8 H8 S8 n8 e8=>?_⟩
      walk_at "rd"
      refine⟨_,e8,_,S8 _ _ eb,?_,fun p9 H9 S9 e9=>⟨(S'.trans S8).trans S9,by (clear n1 e1 n2 e2 n0 hd ea hl n3 e3 Eo t6 CH Mw h eb ex n8 e8 e9 Sj e4 QG n5 l6 e5;lia),?_⟩⟩
      · have:=M.Lz (List.getElem_mem hi)
        refine aN ?_
        simp [vP]
        have:=y.Lk
        (clear n1 e1 n2 e2 n0 hd ea hl n3 e3 Eo t6 CH Mw e5 l5 l6 h eb ex n8 QG n5 e4 e8;lia)
      · rw [List.take_add_one,List.getElem?_eq_getElem hi]
        simp only [Option.toList_some,List.map_append,List.map_cons,List.map_nil]
        exact((h.2.same S8).same S9).append (.one (gz (p:=step::y.pl[i]) e9))
    · refine⟨p7,rfl,vs,S7 _ _ (S6 _ _ (S5 _ _ e4)),zs,e7,?_,gF.mk fun H8 k8 e8=>?_⟩
      · have:=h.2.length
        simp at this
        refine aN (by (clear n1 e1 n2 e2 n0 hd ea hl n3 e3 Eo t6 CH n5 e5 h n7 Mw e4 e7;lia))
      · have D7:=h.2.same S7
        rw [l5,List.take_length] at D7
        refine hR H8 zs (av.hI (((S4.trans S5).trans S6).trans S7) n0 k8) e8 (D7.qg (S7 _ _ (S6 _ _ (S5 _ _ e4))) k8 ?_) fun b hb o e=>?_
        · have:∀l:List (List Nat),D.oO (l.map fun q=>dP (step::q))=true:=fun l=>by
           induction l with
           | nil=>rfl
           | cons q l ih=>simp only [List.map_cons,D.oO,zA,ih,Bool.and_self]
          exact this _
        · rw [k8 b hb]
          exact S7 _ _ (S6 _ _ (S5 _ _ e))
   obtain⟨Pv,fu⟩:∃Pv:Nat→St→Hp→Prop,∀i σ H',Pv i σ H'↔∃(o2:Option V) (vs:List V),av H H'∧H' p3=some (.tup [.int 0,.int 1])∧H' a=some (.tup [.str "knot",.str f,vl,vr])∧H' p2=some (.lst vs)∧
    aR H' ((([]:List Nat)::((if 1≤i then l.pl.map (0 :: ·) else [])++(if 2≤i then r.pl.map (1 :: ·) else []))).map dP) vs∧Dt H' (dT l) vl∧Dt H' (dT r) vr∧σ=[some (.ref a),some (.ref p2),o2]:=⟨_,fun _ _ _=>Iff.rfl⟩
   refine nW.Df e3 Pv ((fu _ _ _).mpr ⟨none,_,S12.trans S3,e3,S3 _ _ ea,S3 _ _ e2,.one (d0.same S3),vq.same S3,vi.same S3,rfl⟩) (fun i σ H' _ h=>by obtain⟨_,_,_,h,_⟩:=(fu _ _ _).mp h;exact h) ?_ ?_
   · intro i x σ H4 ex h
     obtain⟨o2,vs,S4,f3,fa,f2,D4,So,Ts,rfl⟩:=(fu _ _ _).mp h
     have Me:=D4.length
     have b1:=M.ir l
     have b2:=M.ir r
     have hi:i<2:=by have:=(List.getElem?_eq_some_iff.mp ex).1;simpa using this
     have keep:∀{H5:Hp}{ws:List V},(∀b,b≠p2→∀o,H4 b=some o→H5 b=some o)→oZ H4 H5:=fun {H5 ws} k5 b xs e=>k5 b (gB e f2 (by intro z;cases z)) _ e
     rcases (show i=0∨i=1 by (clear n1 e1 n2 e2 n0 hd ea hl n3 e3 Eo f3 fa f2 Me b1 b2 CH ex;lia)) with rfl|rfl
     · cases ex
       walk_at "rd"
       refine⟨lJ f2,_,ak fa,_,dH,?_⟩
       refine turn l vl 0 H4 vs (fun _=>Pv 1 _) (by (clear Eo t6 CH f3 fa f2 b1 b2 Me hi n1 e1 n2 e2 n0 n3 e3 hl ea;lia)) (by (clear Eo t6 CH f3 fa f2 b1 b2 Me hi n1 e1 n2 e2 n0 n3 e3 hd ea;lia)) S4 f2 So (by simp at Me;(clear n1 e1 n2 e2 n0 hd ea hl n3 e3 Eo t6 CH f3 fa f2 b1 b2 hi;lia)) fun H5 ws S5 e5 D5 k5=>(fu _ _ _).mpr ?_
       have U:=keep (ws:=ws) k5
       refine⟨_,_,S5,U _ _ f3,U _ _ fa,e5,?_,So.cZ U (yZ l),Ts.cZ U (yZ r),rfl⟩
       have D4':=D4.cZ U (by simp [D.oO,zA])
       simpa [Function.comp_def] using D4'.append D5
     · cases ex
       walk_at "rd"
       refine⟨lJ f2,_,ak fa,_,gW,?_⟩
       refine turn r vr 1 H4 vs (fun _=>Pv 2 _) (by (clear Eo t6 CH f3 fa f2 b1 b2 Me hi n1 e1 n2 e2 n0 n3 e3 hl ea;lia)) (by (clear Eo t6 CH f3 fa f2 b1 b2 Me hi n1 e1 n2 e2 n0 n3 e3 hd ea;lia)) S4 f2 Ts (by simp at Me;(clear n1 e1 n2 e2 n0 Eo t6 CH f3 fa n3 e3 f2 hd ea b2 hi;lia)) fun H5 ws S5 e5 D5 k5=>(fu _ _ _).mpr ?_
       have U:=keep (ws:=ws) k5
       refine⟨_,_,S5,U _ _ f3,U _ _ fa,e5,?_,So.cZ U (yZ l),Ts.cZ U (yZ r),rfl⟩
       have oO:∀q:List (List Nat),D.oO (q.map dP)=true:=fun q=>by
        induction q with
        | nil=>rfl
        | cons a q ih=>simp only [List.map_cons,D.oO,zA,ih,Bool.and_self]
       have D4':=D4.cZ U (oO _)
       simpa [Function.comp_def] using D4'.append D5
   · intro σ H4 h
     obtain⟨o2,vs,S4,f3,fa,f2,D4,So,Ts,rfl⟩:=(fu _ _ _).mp h
     walk_at "rd"
     exact q p2 _ H4 S4 n0 f2 (by simpa [M.Tr.pl] using D4)
noncomputable def tL (t:L2.Tree) (p:List Nat):Bool:=match t.sub p with|some s=>s.eR|none=>false
noncomputable def lvp (t:L2.Tree):List (List Nat):=t.pl.filter (tL t)
theorem CN (t:L2.Tree):lvp t=((t.wk []).filter (fun q=>q.2.eR)).map (·.1):=M.EZ t _ fun q s h=>by unfold tL;rw [M.Tr.i7 h]
noncomputable def zQ (n:Nat):Sp:=fun vs H Q _=>∃(t:L2.Tree) (v:V),vs=[v]∧Dt H (dT t) v∧t.dp≤n∧t.lv.length≤5000∧zE H ((lvp t).map dP) Q
theorem qr (T:Txt K mg) (n:Nat):bz P w K mg base CX0 (n+3) T.uJ T.uL ["tree"] (zQ n):=by
 refine T.pI.ok (k:=n+2) we (fun vs H Q E h=>?_) (fun bJ A outer s H vs Q E hr h=>?_)
 · obtain⟨t,v,rfl,_⟩:=h
   rfl
 obtain⟨t,v,rfl,ht,hd,hl,q⟩:=h
 have nd:=we.nd
 have bY:=(kE (P:=P) (w:=w) (base:=base) T).mono (k:=n+2) (by lia)
 have d9:=(oU (P:=P) (w:=w) (base:=base) T).mono (k:=n+2) (by lia)
 have fM:=jI (P:=P) (w:=w) (base:=base) T n
 refine⟨_,(aj (aE (dI (N:=["place","tree"]) (caps:=[0]) rfl ⟨rfl,rfl,rfl,rfl,by decide +kernel,rfl,rfl,rfl,rfl⟩ (wb (ao fM hr rfl T.mX T.iE.kp T.lC .nil aA (aa (pv 0) af))) (fun _ _ _ _=>pj (cL (ao bY hr rfl T.fT T.fA.kp T.gi .nil aA (aa (ao d9 hr rfl T.jG T.ia.kp T.jL .nil aA (aa (pv 1) (aa (pv 0) af))) af)))) (fun _ _ _ _=>(pv 0))))),?_⟩
 walk_at "rd"
 refine⟨t,v,rfl,ht,hd,hl,fun p5 ys H5 S5 n5 e5 D5=>?_⟩
 have l5:ys.length=t.pl.length:=by have:=D5.length;simpa using this
 have l6:=M.ir t
 refine WalkL.comp e5 (fun i zs H'=>H'=H5∧zs.length≤i∧aR H' (((t.pl.take i).filter (tL t)).map dP) zs) ⟨rfl,Nat.zero_le _,.nil⟩ (by (clear n5 e5 hd;lia)) (fun i zs H' h=>h.2.1) (fun i x zs H' ex S' h=>?_) (fun p7 zs H6 H7 S6 S7 h n7 e7=>?_)
 · obtain⟨rfl,hz,D6⟩:=h
   have hi:i<t.pl.length:=by have:=(List.getElem?_eq_some_iff.mp ex).1;(clear hd hl n5 ex e5 l6 hz;lia)
   obtain⟨v',kY,sy⟩:=aR.dD D5 (List.getElem?_eq_getElem hi)
   rw [ex] at kY;cases kY
   obtain⟨u,hu,_⟩:=M.xC (List.getElem_mem hi)
   have hg:tL t t.pl[i]=u.eR:=by unfold tL;rw [hu]
   walk_at "rd"
   refine⟨t,u,_,v,x,rfl,ht.same S5,sy,hu,fun w' L5=>⟨u,w',rfl,L5,_,rfl,cj (fun c=>?_) (fun c=>?_)⟩⟩
   · refine⟨S',rfl,by simp;omega,?_⟩
     rw [List.take_add_one,List.getElem?_eq_getElem hi,List.filter_append]
     simp only [Option.toList_some,List.filter_cons,List.filter_nil,hg,c,if_true,List.map_append,List.map_cons,List.map_nil]
     exact D6.append (.one sy)
   · have c:u.eR=false:=by simpa using c
     refine⟨S',rfl,by (clear hd hl n5 l5 l6 ex hu hg c e5;lia),?_⟩
     rw [List.take_add_one,List.getElem?_eq_getElem hi,List.filter_append]
     simp only [Option.toList_some,List.filter_cons,List.filter_nil,hg,c,Bool.false_eq_true,if_false,List.append_nil]
     exact D6
 · obtain⟨rfl,hz,D6⟩:=h
   rw [l5,List.take_length] at D6
   exact q p7 zs H7 (S5.trans S7) (S5.free n7) e7 (D6.same S7)
noncomputable def Fi (n:Nat):Sp:=fun vs H Q _=>∃(t:L2.Tree) (x:Str) (v:V),vs=[v,.str x]∧Dt H (dT t) v∧t.dp≤n∧t.lv.length≤5000∧Al H (dO (M.firstOf x (t.wk []))) Q
theorem AO (T:Txt K mg) (n:Nat):bz P w K mg base CX0 (n+4) T.oE T.oC ["tree","x"] (Fi n):=by
 refine T.uQ.ok (k:=n+3) rW (fun vs H Q E h=>?_) (fun bJ A outer s H vs Q E hr h=>?_)
 · obtain⟨t,x,v,rfl,_⟩:=h
   rfl
 obtain⟨t,x,v,rfl,ht,hd,hl,q⟩:=h
 have nd:=rW.nd
 have d9:=(oU (P:=P) (w:=w) (base:=base) T).mono (k:=n+3) (by lia)
 have lR:=qr (P:=P) (w:=w) (base:=base) T n
 refine⟨_,(ah (gL PassesOwn.never rfl (wb (ao lR hr rfl T.tJ T.pI.kp T.t7 .nil aA (aa (pv 0) af))) (bG (i:=2) nd rfl (Or.inl rfl)) (aj (aU (aF br (ar bj (ao d9 hr rfl T.jG T.ia.kp T.jL .nil aA (aa (pv 0) (aa (pv 2) af))) ae (fun _ _=>rfl)) (pv 1) (aJ _)) (aj (aE (pv 2))) aH)))
  (aj (aE jb))),?_⟩
 walk_at "rd"
 refine⟨t,v,rfl,ht,hd,hl,fun p5 ys H5 S5 n5 e5 D5=>?_⟩
 rw [CN,List.map_map] at D5
 have l5:=D5.length
 have ht5:=ht.same S5
 obtain⟨Pv,fu⟩:∃Pv:Nat→St→Hp→Prop,∀i σ H',Pv i σ H'↔H'=H5∧(∀q∈((t.wk []).filter (fun q=>q.2.eR)).take i,q.2.name≠x)∧∃o2:Option V,σ=[some v,some (.str x),o2]:=⟨_,fun _ _ _=>Iff.rfl⟩
 refine WalkL.Df e5 Pv ((fu _ _ _).mpr ⟨rfl,by simp,none,rfl⟩) (fun i σ H' _ h=>((fu _ _ _).mp h).1▸e5) ?_ ?_
 · intro i y σ H' ey h
   obtain⟨rfl,hn,o2,rfl⟩:=(fu _ _ _).mp h
   have hi:i<((t.wk []).filter (fun q=>q.2.eR)).length:=by have:=(List.getElem?_eq_some_iff.mp ey).1;simp at l5;(clear hd hl n5 ey e5;lia)
   obtain⟨q0,wN⟩:∃q0,((t.wk []).filter (fun q=>q.2.eR))[i]? = some q0:=⟨_,List.getElem?_eq_getElem hi⟩
   obtain⟨v',kY,sy⟩:=aR.dD D5 wN
   rw [ey] at kY;cases kY
   have hm:=List.mem_filter.mp (List.mem_of_getElem? wN)
   obtain⟨qp,qs⟩:=q0
   have EM:=M.Tr.i7 hm.1
   walk_at "rd"
   refine⟨t,qs,qp,v,y,rfl,ht5,sy,EM,fun w' L5=>?_⟩
   obtain⟨a,r,rfl,ea⟩:=xn L5
   walk_at "rd"
   refine⟨_,ak ea,_,bD,rfl,?_⟩
   refine cj (fun c=>?_) (fun c=>?_)
   · have c:qs.name=x:=by simpa using c
     refine q y _ S5 ?_
     rw [M.iH,M.Ah hn wN hm.2 c]
     exact sy
   · have c:¬qs.name=x:=by simpa using c
     refine (fu _ _ _).mpr ⟨rfl,fun q hq=>?_,_,rfl⟩
     rw [List.take_add_one,wN] at hq
     simp only [Option.toList_some,List.mem_append,List.mem_singleton] at hq
     rcases hq with hq|rfl
     · exact hn q hq
     · exact c
 · intro σ H' h
   obtain⟨rfl,hn,o2,rfl⟩:=(fu _ _ _).mp h
   walk_at "rd"
   refine q _ _ S5 ?_
   rw [M.iH,M.j5 _ ys.length hn]
   simp at l5
   rw [l5,List.drop_length]
   exact cT.mpr rfl
noncomputable def oR (n:Nat):Sp:=fun vs H Q _=>∃(t:L2.Tree) (v:V) (b:Nat),vs=[v,.int b]∧Dt H (dT t) v∧b≤n∧Q (.bl (decide (b<t.dp))) H
theorem E2 (T:Txt K mg):∀n:Nat,bz P w K mg base CX0 (n+2) T.dt T.dq ["tree","bound"] (oR n):=by
 have main:∀n:Nat,(∀m,n=m+1→bz P w K mg base CX0 (n+1) T.dt T.dq ["tree","bound"] (oR m))→bz P w K mg base CX0 (n+2) T.dt T.dq ["tree","bound"] (oR n):=by
  intro n ih
  refine T.gm.ok (k:=n+1) lL (fun vs H Q E h=>?_) (fun bJ A outer s H vs Q E hr h=>?_)
  · obtain⟨t,v,b,rfl,_⟩:=h
    rfl
  obtain⟨t,v,b,rfl,ht,hb,q⟩:=h
  have nd:=lL.nd
  have bY:=(kE (P:=P) (w:=w) (base:=base) T).mono (k:=n+1) (by lia)
  obtain⟨sp,gu,pF⟩:∃sp:Sp,bz P w K mg base CX0 (n+1) T.dt T.dq ["tree","bound"] sp∧∀m,n=m+1→sp=oR m:=by
   cases n with
   | zero=>exact⟨fun _ _ _ _=>False,⟨fun _ _ _ _ h=>h.elim,fun _ _ _ _ _ _ _ _ _ _ _ _ _ h=>h.elim⟩,fun m h=>by lia⟩
   | succ m=>exact⟨_,ih m rfl,fun k h=>by rw [show m=k by lia]⟩
  refine⟨_,(ah (aU (aF br (pv 1) ae (aJ _)) (aj (aE rH)) aH)
  (ah (aU (cL (ao bY hr rfl T.fT T.fA.kp T.gi .nil aA (aa (pv 0) af))) (aj (aE rH)) aH)
  (aj (aE (Gy (ao gu hr rfl T.jq T.gm.kp T.i9 .nil aA (aa (ar bj (pv 0) ae (fun _ _=>rfl)) (aa (aq fK (pv 1) ae) af))) (jW (ao gu hr rfl T.jq T.gm.kp T.i9 .nil aA (aa (ar bj (pv 0) ae (fun _ _=>rfl)) (aa (aq fK (pv 1) ae) af))))))))),?_⟩
  walk_at "rd"
  have bf:=t.lV
  refine cj (fun c=>?_) (fun c=>?_)
  · have c:b=0:=by have:=of_decide_eq_true c;lia
    rw [decide_eq_true (show b<t.dp by lia)] at q
    exact q
  have c:0<b:=by have:¬b=0:=fun z=>c (by simp [z]);lia
  refine⟨t,v,rfl,ht,_,rfl,?_⟩
  cases t with
  | leaf x=>
   refine eS ?_
   rw [decide_eq_false (show ¬b<(M.Tr.leaf x).dp by simp [M.Tr.dp];omega)] at q
   exact q
  | knot f l r=>
   obtain⟨a,vl,vr,rfl,ea,hl,vi⟩:=fP ht
   refine d5 ?_
   obtain⟨m,rfl⟩:∃m,n=m+1:=⟨n - 1,by (clear bf ea;lia)⟩
   rw [pF m rfl]
   have hk:(M.Tr.knot f l r).dp=max l.dp r.dp+1:=rfl
   have VS:((b - 1:Nat):Int)=(b:Int) - 1:=by (clear hb hk ea bf;omega)
   refine⟨a,rfl,_,ak ea,vl,dH,l,vl,b - 1,by rw [VS],hl,by (clear c bf ea hk;lia),_,rfl,cj (fun d=>?_) (fun d=>?_)⟩
   · have d:=of_decide_eq_true d
     rw [decide_eq_true (show b<(M.Tr.knot f l r).dp by rw [hk];(clear c bf ea hb hk VS;lia))] at q
     exact q
   · have d:¬b - 1<l.dp:=fun z=>d (decide_eq_true z)
     refine⟨a,rfl,_,ak ea,vr,gW,r,vr,b - 1,by rw [VS],vi,by (clear c bf d ea hk;lia),?_⟩
     have:decide (b<(M.Tr.knot f l r).dp)=decide (b - 1<r.dp):=by rw [Bool.eq_iff_iff];simp only [decide_eq_true_eq,hk];(clear c bf ea hb hk;lia)
     rw [this] at q
     exact q
 intro n
 induction n with
 | zero=>exact main 0 fun m h=>by lia
 | succ n ih=>exact main (n+1) (fun m h=>by rw [show m=n by lia];exact ih)
noncomputable def KG:Sp:=fun vs H Q _=>∃(t:L2.Tree) (v:V),vs=[v]∧Dt H (dT t) v∧t.dp≤24∧t.lv.length≤32∧∀H',av H H'→Q .non H'
theorem FC (T:Txt K mg):bz P w K mg base CX0 28 T.j9 T.j7 ["tree"] KG:=by
 refine T.pS.ok (k:=27) nY (fun vs H Q E h=>?_) (fun bJ A outer s H vs Q E hr h=>?_)
 · obtain⟨t,v,rfl,_⟩:=h
   rfl
 obtain⟨t,v,rfl,ht,hd,hl,q⟩:=h
 have nd:=nY.nd
 have gu:=(E2 (P:=P) (w:=w) (base:=base) T 24).mono (k:=27) (by omega)
 have lR:=(qr (P:=P) (w:=w) (base:=base) T 24).mono (k:=27) (by omega)
 refine⟨_,(ah (aU (cL (ao gu hr rfl T.jq T.gm.kp T.i9 .nil aA (aa (pv 0) (aa (jX (v:=.int 24) rfl T.rN ⟨_,rfl⟩) af)))) (aj dh) aH)
  (aj (aU (aF kT (aO kz rfl T.cJ bM (aa (ao lR hr rfl T.tJ T.pI.kp T.t7 .nil aA (aa (pv 0) af)) af)) (jX (v:=.int 32) rfl T.vk ⟨_,rfl⟩) (aJ _)) (aj dh) aH))),?_⟩
 walk_at "rd"
 refine⟨t,v,24,rfl,ht,by omega,_,rfl,?_⟩
 rw [decide_eq_false (by lia)]
 refine d5 ⟨t,v,rfl,ht,hd,by lia,fun p1 ys H1 S1 n1 e1 D1=>?_⟩
 walk_at "rd"
 refine⟨_,aC e1,?_⟩
 have l1:=D1.length
 have:ys.length=t.lv.length:=by
  rw [l1,List.length_map,CN,List.length_map,←M.Tr.zk t [],List.length_map]
 rw [decide_eq_false (by (clear n1 e1 hd l1;lia))]
 exact d5 (q H1 S1)
noncomputable def Cj:Sp:=fun vs H Q _=>∃(t:L2.Tree) (v:V),vs=[v]∧Dt H (dT t) v∧t.dp≤24∧t.lv.length≤32∧(∀q s,(q,s)∈t.wk []→bw s.name=true)∧t.lv.Nodup∧∀H',av H H'→Q .non H'
theorem Iq {x:Str} (h:bw x=true):x.length≤8:=by
 unfold bw isName at h
 simp only [Bool.and_eq_true,decide_eq_true_eq] at h
 have:=h.2.1
 simpa [Str.length] using this
theorem EJ (T:Txt K mg):bz P w K mg base CX0 28 T.jg T.jo ["tree"] Cj:=by
 refine T.nO.ok (k:=27) lH (fun vs H Q E h=>?_) (fun bJ A outer s H vs Q E hr h=>?_)
 · obtain⟨t,v,rfl,_⟩:=h
   rfl
 obtain⟨t,v,rfl,ht,hd,hl,hn,HZ,q⟩:=h
 have nd:=lH.nd
 have bY:=(kE (P:=P) (w:=w) (base:=base) T).mono (k:=27) (by omega)
 have mZ:=(Du (P:=P) (w:=w) (base:=base) T).mono (k:=27) (by omega)
 have d9:=(oU (P:=P) (w:=w) (base:=base) T).mono (k:=27) (by omega)
 have fM:=(jI (P:=P) (w:=w) (base:=base) T 24).mono (k:=27) (by omega)
 refine⟨_,(ah (aw (i:=1) nd rfl (Or.inl rfl) Gs)
  (aj (gL PassesOwn.never rfl (wb (ao fM hr rfl T.mX T.iE.kp T.lC .nil aA (aa (pv 0) af))) (bG (i:=2) nd rfl (Or.inl rfl)) (ah (aw (i:=3) nd rfl (Or.inl rfl) (ao d9 hr rfl T.jG T.ia.kp T.jL .nil aA (aa (pv 0) (aa (pv 2) af))))
    (ah (aw (i:=4) nd rfl (Or.inl rfl) (ar bj (pv 3) ae (fun _ _=>rfl)))
    (ah (aU (mB (cL (ao mZ hr rfl T.ql T.ny.kp T.qQ .nil aA (aa (pv 4) af)))) (aj dh) aH)
    (aj (aU (cL (ao bY hr rfl T.fT T.fA.kp T.gi .nil aA (aa (pv 3) af))) (ah (aU (yQ (M7 (LH hr) (pv 4) (pv 1))) (aj dh) aH)
      (aj (JD (LH hr) (pv 1) (pv 4) rH rfl))) aH)))))))),?_⟩
 walk_at "rd"
 refine aI.mk fun pd H1 S1 n1 e1=>?_
 refine⟨t,v,rfl,ht.same S1,hd,by lia,fun p2 ys H2 S2 n2 e2 D2=>?_⟩
 have l2:ys.length=t.pl.length:=by have:=D2.length;simpa using this
 have Su:=M.ir t
 have wl:t.pl.length=(t.wk []).length:=by rw [M.Tr.pQ,List.length_map]
 obtain⟨Pv,fu⟩:∃Pv:Nat→St→Hp→Prop,∀i σ H',Pv i σ H'↔∃(aS:List (Key×V)) (o2 o3 o4:Option V),av H H'∧H' pd=some (.dK aS)∧H' p2=some (.lst ys)∧Dt H' (dT t) v∧aR H' (t.pl.map dP) ys∧aS.length≤i∧
  (∀x:Str,(dQ aS (Sum.inr x)).isSome=true→x∈(((t.wk []).take i).filter (fun q=>q.2.eR)).map (fun q=>q.2.name))∧σ=[some v,some (.ref pd),o2,o3,o4]:=⟨_,fun _ _ _=>Iff.rfl⟩
 refine WalkL.Df e2 Pv ((fu _ _ _).mpr ⟨[],none,none,none,S1.trans S2,S2 _ _ e1,e2,ht.same (S1.trans S2),D2,Nat.zero_le _,by simp [IA],rfl⟩) (fun i σ H' _ h=>by obtain⟨_,_,_,_,_,_,h,_⟩:=(fu _ _ _).mp h;exact h) ?_ ?_
 · intro i y σ H3 ey h
   obtain⟨aS,o2,o3,o4,S3,ed,e3,OO,D3,hk,hv,rfl⟩:=(fu _ _ _).mp h
   have hi:i<t.pl.length:=by have:=(List.getElem?_eq_some_iff.mp ey).1;(clear hd hl n1 e1 wl ey ed e3 n2 e2 Su hk;lia)
   obtain⟨q0,wN⟩:∃q0,(t.wk [])[i]? = some q0:=⟨_,List.getElem?_eq_getElem (by (clear hd hl n1 e1 n2 e2 l2 ey ed e3 hk Su;lia))⟩
   have nJ:t.pl[i]? = some q0.1:=by rw [M.Tr.pQ,List.getElem?_map,wN];rfl
   obtain⟨v',kY,sy⟩:=aR.dD D3 nJ
   rw [ey] at kY;cases kY
   obtain⟨qp,qs⟩:=q0
   have hm:=List.mem_of_getElem? wN
   have EM:=M.Tr.i7 hm
   walk_at "rd"
   refine⟨t,qs,qp,v,y,rfl,OO,sy,EM,fun w' L5=>?_⟩
   obtain⟨a,r,rfl,ea⟩:=xn L5
   walk_at "rd"
   refine⟨_,ak ea,_,bD,?_⟩
   have aX:=hn qp qs hm
   refine⟨_,rfl,Nat.le_trans (Iq aX) (by decide),fun H4 S4=>?_⟩
   rw [aX]
   walk_at "rd"
   have tk:(((t.wk []).take (i+1)).filter (fun q=>q.2.eR)).map (fun q=>q.2.name)=(((t.wk []).take i).filter (fun q=>q.2.eR)).map (fun q=>q.2.name)++(if qs.eR=true then [qs.name] else []):=by
    rw [List.take_add_one,wN,List.filter_append,List.map_append]
    congr 1
    simp only [Option.toList_some,List.filter_cons,List.filter_nil]
    split<;>rfl
   have U4:∀{b o},H3 b=some o→H4 b=some o:=fun h=>S4 _ _ h
   refine d5 ⟨qs,.ref a,rfl,L5.same S4,_,rfl,cj (fun c=>?_) (fun c=>?_)⟩
   · rw [if_pos c] at tk
     have nin:qs.name∉(((t.wk []).take i).filter (fun q=>q.2.eR)).map (fun q=>q.2.name):=fun z=>by
      have sb:((((t.wk []).take (i+1)).filter (fun q=>q.2.eR)).map (fun q=>q.2.name)).Sublist t.lv:=by
       rw [←M.Tr.zk t []]
       exact((List.take_sublist _ _).filter _).map _
      have:=sb.nodup HZ
      rw [tk,List.nodup_append] at this
      exact this.2.2 _ z _ (by simp) rfl
     have vn:dQ aS (Sum.inr qs.name)=none:=by
      cases e:dQ aS (Sum.inr qs.name) with
      | none=>rfl
      | some y=>exact absurd (hv qs.name (by rw [e];rfl)) nin
     refine⟨_,vI.k (k:=Sum.inr qs.name) (U4 ed),?_⟩
     rw [vn]
     refine d5 ⟨_,Aj.k (k:=Sum.inr qs.name) (U4 ed) (cb (by (clear aX tk c nin vn e1 n2 e2 ey ed e3 nJ EM ea n1 l2 wN hd wl;lia))),(fu _ _ _).mpr ?_⟩
     have Ut:oZ H4 (upd H4 pd (.dK (putK aS (Sum.inr qs.name) (V.bl true)))):=fun b xs e=>by rw [bg (gB e (U4 ed) (by intro z;cases z))];exact e
     refine⟨_,_,_,_,(S3.trans S4).put n1 _,bI,by rw [bg (gB (U4 e3) (U4 ed) (by intro z;cases z))];exact U4 e3,(OO.same S4).cZ Ut (yZ t),(D3.same S4).cZ Ut ?_,?_,fun x hx=>?_,rfl⟩
     · have:∀l:List (List Nat),D.oO (l.map dP)=true:=fun l=>by
        induction l with
        | nil=>rfl
        | cons q l ih=>simp only [List.map_cons,D.oO,zA,ih,Bool.and_self]
       exact this _
     · have:=lU aS (Sum.inr qs.name) (V.bl true)
       (clear hd hl n1 e1 n2 e2 l2 Su wl ey ed e3 nJ EM ea aX tk c wN nin hi vn;lia)
     · rw [tk]
       rw [Hs] at hx
       split at hx
       · rename_i z
         cases z
         simp
       · exact List.mem_append_left _ (hv x hx)
   · rw [if_neg c,List.append_nil] at tk
     exact(fu _ _ _).mpr ⟨aS,_,_,_,S3.trans S4,U4 ed,U4 e3,OO.same S4,D3.same S4,by (clear hd hl n1 e1 n2 e2 l2 Su wl ey ed ea aX tk c wN nJ EM hi e3;lia),fun x hx=>by rw [tk];exact hv x hx,rfl⟩
 · intro σ H' h
   obtain⟨aS,o2,o3,o4,S3,ed,e3,OO,D3,hk,hv,rfl⟩:=(fu _ _ _).mp h
   exact q H' S3
noncomputable def BN:Sp:=fun vs H Q _=>∃(t:L2.Tree) (v:V),vs=[v]∧Dt H (dT t) v∧t.dp≤24∧t.lv.length≤32∧(∀q s,(q,s)∈t.wk []→bw s.name=true)∧t.lv.Nodup∧∀H',av H H'→Q v H'
theorem Af (T:Txt K mg):bz P w K mg base CX0 29 T.qK T.qS ["tree"] BN:=by
 refine T.wO.ok (k:=28) uE (fun vs H Q E h=>?_) (fun bJ A outer s H vs Q E hr h=>?_)
 · obtain⟨t,v,rfl,_⟩:=h
   rfl
 obtain⟨t,v,rfl,ht,hd,hl,hn,HZ,q⟩:=h
 have nd:=uE.nd
 have yD:=FC (P:=P) (w:=w) (base:=base) T
 have vB:=EJ (P:=P) (w:=w) (base:=base) T
 refine⟨_,(ah (fN (ao yD hr rfl T.yE T.pS.kp T.yp .nil aA (aa (pv 0) af)))
  (ah (fN (ao vB hr rfl T.vD T.nO.kp T.vz .nil aA (aa (pv 0) af)))
  (aj (aE (pv 0))))),?_⟩
 walk_at "rd"
 exact⟨t,v,rfl,ht,hd,hl,fun H1 S1=>⟨t,v,rfl,ht.same S1,hd,hl,hn,HZ,fun H2 S2=>q H2 (S1.trans S2)⟩⟩
noncomputable def Ew:Sp:=fun vs H Q _=>∃(z:Str) (s:Nat),vs=[.str z,.int s]∧z.length≤50000∧s≤z.length∧Q (.int (nameEnd z.cps.toList s)) H
theorem Bx (T:Txt K mg):bz P w K mg base CX0 1 T.ow T.ot ["text","start"] Ew:=by
 refine T.u9.ok (k:=0) rD (fun vs H Q E h=>?_) (fun bJ A outer s H vs Q E hr h=>?_)
 · obtain⟨z,s,rfl,_⟩:=h
   rfl
 obtain⟨z,st,rfl,hz,hs,q⟩:=h
 have nd:=rD.nd
 refine⟨_,(ah (aw (i:=2) nd rfl (Or.inl rfl) (pv 1))
  (ah (Am PassesOwn.never (PW.pt (gM (aF zb (pv 2) (aO gZ rfl T.cJ bM (aa (pv 0) af)) (aJ _)) (fI (aF xh (ar qd (pv 0) (pv 2) (fun _ _=>rfl)) aD (by with_unfolding_all rfl))))) (aj (Og (i:=2) nd rfl (Or.inl rfl) ae N8)))
  (aj (aE (pv 2))))),?_⟩
 walk_at "rd"
 have zl:z.length≤sizeLine:=aN (by lia)
 have lz:=iZ z
 obtain⟨W,hW⟩:∃W:Nat→St→Hp→Prop,∀m σ H',W m σ H'↔H'=H∧∃e:Nat,m=z.length - e∧st≤e∧e≤z.length∧nameEnd z.cps.toList e=nameEnd z.cps.toList st∧σ=[some (V.str z),some (V.int st),some (V.int e)]:=⟨_,fun _ _ _=>Iff.rfl⟩
 refine⟨W,⟨_,(hW _ _ _).mpr ⟨rfl,st,rfl,Nat.le_refl _,hs,rfl,rfl⟩⟩,?_⟩
 intro m σ H' h
 obtain⟨rfl,e,rfl,h1,h2,h3,rfl⟩:=(hW _ _ _).mp h
 have step:∀c,z.cps.toList[e]? = some c→nameEnd z.cps.toList e=if isSign c=true then e else nameEnd z.cps.toList (e+1):=fun c hc=>by
  obtain⟨hi,e2⟩:=List.getElem?_eq_some_iff.mp hc
  unfold nameEnd
  rw [List.drop_eq_getElem_cons hi,e2,List.takeWhile_cons]
  cases isSign c
  · simp;(clear hz hs zl lz h1 h2 h3 hc hi e2;lia)
  · simp
 walk_at "rd"
 refine⟨zl,cj (fun c=>?_) (fun c=>?_)⟩
 · have c:e<z.length:=by have:=of_decide_eq_true c;(clear hz hs zl lz h1 h2 h3 c;omega)
   obtain⟨ch,hc⟩:∃ch,z.cps.toList[e]? = some ch:=⟨_,List.getElem?_eq_getElem (by (clear hz hs zl h1 h3;omega))⟩
   have sc:=step ch hc
   refine⟨zl,ch,h7 hc,?_⟩
   rw [JH]
   cases RJ:isSign ch with
   | true=>
    rw [RJ,if_pos rfl] at sc
    refine d5 ?_
    rw [←h3,sc] at q
    exact q
   | false=>
    rw [RJ,if_neg (by simp)] at sc
    refine eS ⟨fun σ' H'=>∃m',m'<z.length - e∧W m' σ' H',fun _ _ z=>z,?_⟩
    exact⟨z.length - (e+1),by (clear hz hs zl lz h1 h2 sc RJ hc h3;omega),(hW _ _ _).mpr ⟨rfl,e+1,rfl,by (clear h3 c hc sc RJ hz hs zl h2 lz;lia),by (clear hz hs zl lz h1 h2 sc RJ hc h3;omega),by rw [←sc];exact h3,by push_cast;rfl⟩⟩
 · have c:e=z.length:=by have:¬e<z.length:=fun y=>c (decide_eq_true (by (clear hz hs zl lz h1 h2 h3 c;omega)));(clear hz hs zl lz h1 h3 c;lia)
   have:nameEnd z.cps.toList e=e:=by
    unfold nameEnd
    rw [List.drop_eq_nil_of_le (by (clear hz hs zl h1 h3;lia))];simp
   rw [←h3,this] at q
   exact q
noncomputable def NK:Sp:=fun vs H Q _=>∃(z:Str) (m c:Nat),vs=[.str z,.int m,.str ⟨#[c]⟩]∧z.length≤50000∧z.cps.toList[m]? = some c∧Q (.int (m+1:Nat)) H
theorem KI (T:Txt K mg):bz P w K mg base CX0 1 T.Bg T.CL ["text","at","sign"] NK:=by
 refine T.BE.ok (k:=0) Di (fun vs H Q E h=>?_) (fun bJ A outer s H vs Q E hr h=>?_)
 · obtain⟨z,m,c,rfl,_⟩:=h
   rfl
 obtain⟨z,m,c,rfl,hz,hc,q⟩:=h
 have nd:=Di.nd
 have hm:=(List.getElem?_eq_some_iff.mp hc).1
 have lz:=iZ z
 refine⟨_,(ah (aU (aF yX (fO Cr (pv 0) (ff (pv 1)) (ff (aq bo (pv 1) ae))) (pv 2) (aJ _)) (aj dh) aH)
  (aj (aE (aq bo (pv 1) ae)))),?_⟩
 walk_at "rd"
 refine⟨aN (by (clear hm lz hc;lia)),?_⟩
 rw [wu z (by lia),decide_eq_true hc]
 exact d5 (by simpa using q)
noncomputable def dF (r:L2.Tree×Nat):D:=.tup [dT r.1,.int (r.2:Int)]
noncomputable def Mt (n:Nat):Sp:=fun vs H Q _=>∃(z:Str) (s m:Nat) (r:L2.Tree×Nat),vs=[.str z,.int s,.int m]∧z.length≤50000∧s≤z.length∧1≤m∧m+n=25∧tf z.cps.toList n s=some r∧Al H (dF r) Q
theorem DH (T:Txt K mg):∀n:Nat,bz P w K mg base CX0 (n+2) T.lq T.mV ["text","start","level"] (Mt n)
 | 0=>by
  refine T.gC.ok (k:=1) kC (fun vs H Q E h=>?_) (fun bJ A outer s H vs Q E hr h=>?_)
  · obtain⟨z,s,m,r,rfl,_⟩:=h
    rfl
  · obtain⟨z,s,m,r,rfl,_,_,_,_,h,_⟩:=h
    simp [tf] at h
 | n+1=>by
  refine T.gC.ok (k:=n+2) kC (fun vs H Q E h=>?_) (fun bJ A outer s H vs Q E hr h=>?_)
  · obtain⟨z,s,m,r,rfl,_⟩:=h
    rfl
  obtain⟨z,st,m,r,rfl,hz,hs,bq,hm,rK,q⟩:=h
  have nd:=kC.nd
  have Bq:=(Bx (P:=P) (w:=w) (base:=base) T).mono (k:=n+2) (by (clear hz hs bq hm rK;lia))
  have GA:=(KI (P:=P) (w:=w) (base:=base) T).mono (k:=n+2) (by (clear hz hs bq hm rK;lia))
  have iV:=DH T n
  refine⟨_,(ah (aU (aF kT (pv 2) (jX (v:=.int 24) rfl T.rN ⟨_,rfl⟩) (aJ _)) (aj dh) aH)
  (ah (aw (i:=3) nd rfl (Or.inl rfl) (ao Bq hr rfl T.AN T.u9.kp T.BA .nil aA (aa (pv 0) (aa (pv 1) af))))
  (ah (aw (i:=4) nd rfl (Or.inl rfl) (fO Cr (pv 0) (ff (pv 1)) (ff (pv 3))))
  (ah (aU (aF yX (fO Cr (pv 0) (ff (pv 3)) (ff (aq bo (pv 3) ae))) aD (aJ _)) (aj (aE (aV (aa (aV (aa aD (aa (pv 4) af))) (aa (pv 3) af))))) aH)
  (ah (aw (i:=5) nd rfl (Or.inl rfl) (ao iV hr rfl T.lZ T.gC.kp T.mq .nil aA (aa (pv 0) (aa (aq bo (pv 3) ae) (aa (aq bo (pv 2) ae) af)))))
  (ah (aw (i:=6) nd rfl (Or.inl rfl) (ao iV hr rfl T.lZ T.gC.kp T.mq .nil aA (aa (pv 0) (aa (ao GA hr rfl T.HW T.BE.kp T.FH .nil aA (aa (pv 0) (aa (ar bj (pv 5) ae (fun _ _=>rfl)) (aa aD af)))) (aa (aq bo (pv 2) ae) af)))))
  (aj (aE (aV (aa (aV (aa aD (aa (pv 4) (aa (ar bj (pv 5) ae (fun _ _=>rfl)) (aa (ar bj (pv 6) ae (fun _ _=>rfl)) af))))) (aa (ao GA hr rfl T.HW T.BE.kp T.FH .nil aA (aa (pv 0) (aa (ar bj (pv 6) ae (fun _ _=>rfl)) (aa aD af)))) af))))))))))),?_⟩
  walk_at "rd"
  rw [decide_eq_false (by (clear hz hs bq rK;lia))]
  refine d5 ⟨z,st,rfl,hz,hs,?_⟩
  have lz:=iZ z
  have zl:z.length≤sizeLine:=aN (by (clear hm rK lz bq;lia))
  have e1:=Co z.cps.toList st
  have e2:nameEnd z.cps.toList st≤z.length:=by rw [lz];exact Bj (by (clear bq hm zl e1 hz rK;lia))
  have ML:tf z.cps.toList (n+1) st=if z.cps.toList[nameEnd z.cps.toList st]? = some 40 then
   match tf z.cps.toList n (nameEnd z.cps.toList st+1) with
   | none=>none
   | some (a,m)=>if z.cps.toList[m]? = some 32 then (match tf z.cps.toList n (m+1) with
    | none=>none
    | some (b,y)=>if z.cps.toList[y]? = some 41 then some (.knot ⟨((z.cps.toList.drop st).take (nameEnd z.cps.toList st - st)).toArray⟩ a b,y+1) else none) else none
   else some (.leaf ⟨((z.cps.toList.drop st).take (nameEnd z.cps.toList st - st)).toArray⟩,nameEnd z.cps.toList st):=rfl
  rw [ML] at rK
  generalize nameEnd z.cps.toList st=en at rK e1 e2
  walk_at "rd"
  refine⟨zl,zl,?_⟩
  rw [Ic z e1 e2]
  generalize (⟨((z.cps.toList.drop st).take (en - st)).toArray⟩:Str)=nm at rK
  rw [Yr,wu z e2]
  by_cases Ib:z.cps.toList[en]? = some 40
  · rw [if_pos Ib] at rK
    rw [decide_eq_true Ib]
    have fB:=(List.getElem?_eq_some_iff.mp Ib).1
    refine d5 ?_
    cases ha:tf z.cps.toList n (en+1) with
    | none=>rw [ha] at rK;cases rK
    | some am=>
     obtain⟨ta,ma⟩:=am
     rw [ha] at rK
     dsimp only at rK
     by_cases t6:z.cps.toList[ma]? = some 32
     · rw [if_pos t6] at rK
       have FR:=(List.getElem?_eq_some_iff.mp t6).1
       cases hb:tf z.cps.toList n (ma+1) with
       | none=>rw [hb] at rK;cases rK
       | some bm=>
        obtain⟨tb,mb⟩:=bm
        rw [hb] at rK
        dsimp only at rK
        by_cases KL:z.cps.toList[mb]? = some 41
        · rw [if_pos KL] at rK
          cases rK
          refine⟨z,en+1,m+1,(ta,ma),rfl,hz,by (clear hz hs bq hm t6 FR hb KL ML e1 e2 Ib zl ha;lia),by (clear hz hs bq hm lz zl ML e1 e2 Ib fB ha t6 FR hb KL;lia),by (clear e2 Ib fB ha t6 FR hb KL lz zl ML e1 hz hs bq;lia),ha,fun va H1 S1 da=>?_⟩
          obtain⟨pa,vsa,rfl,ea,Da⟩:=fG.mp da
          obtain⟨v1,ra,rfl,d1,Da⟩:=aW.mp Da
          obtain⟨v2,ra,rfl,d2,Da⟩:=aW.mp Da
          rw [eZ.mp Da,aQ.mp d2] at ea
          try (walk_at "rd")
          refine⟨_,ak ea,_,bD,z,ma,32,by rw [ab2],hz,t6,?_⟩
          refine⟨z,ma+1,m+1,(tb,mb),rfl,hz,by (clear zl ML e1 e2 Ib KL ea hz hs bq hb fB ha hm t6;lia),by (clear hz hs bq hm lz zl ML e1 e2 Ib fB ha t6 FR hb KL ea;lia),by (clear zl ML e1 e2 Ib KL ea hz hs bq ha t6 FR hb fB lz;lia),hb,fun vb H2 S2 db=>?_⟩
          obtain⟨pb,vsb,rfl,eb,Db⟩:=fG.mp db
          obtain⟨w1,rb,rfl,f1,Db⟩:=aW.mp Db
          obtain⟨w2,rb,rfl,f2,Db⟩:=aW.mp Db
          rw [eZ.mp Db,aQ.mp f2] at eb
          try (walk_at "rd")
          refine⟨_,ak (S2 _ _ ea),_,aP,_,ak eb,_,aP,by decide,aI.mk fun p3 H3 S3 n3 e3=>?_⟩
          refine⟨_,ak (S3 _ _ eb),_,bD,z,mb,41,by rw [adI],hz,KL,by decide,aI.mk fun p4 H4 S4 n4 e4=>?_⟩
          have S34:=S3.trans S4
          exact q _ H4 ((S1.trans S2).trans S34) (Dt.tup e4 (.cons (C6 (S4 _ _ e3) (d1.same (S2.trans S34)) (f1.same S34)) (.cons (aQ.mpr rfl) .nil)))
        · rw [if_neg KL] at rK;cases rK
     · rw [if_neg t6] at rK;cases rK
  · rw [if_neg Ib] at rK
    cases rK
    rw [decide_eq_false Ib]
    refine eS ⟨by decide,aI.mk fun p1 H1 S1 n1 e3=>⟨by decide,aI.mk fun p2 H2 S2 n2 e4=>?_⟩⟩
    exact q _ H2 (S1.trans S2) (Dt.tup e4 (.cons (DQ (S2 _ _ e3)) (.cons (aQ.mpr rfl) .nil)))
noncomputable def JA:Sp:=fun vs H Q _=>∃(z:Str) (t:L2.Tree),vs=[.str z]∧z.length≤50000∧z.cps.toList=fD t∧t.dp≤24∧t.lv.length≤32∧(∀x∈t.lv,bw x=true)∧(∀x∈t.kn,bw x=true)∧t.lv.Nodup∧Al H (dT t) Q
theorem GK (T:Txt K mg):bz P w K mg base CX0 30 T.CC T.CM ["text"] JA:=by
 refine T.HX.ok (k:=29) Ed (fun vs H Q E h=>?_) (fun bJ A outer s H vs Q E hr h=>?_)
 · obtain⟨z,t,rfl,_⟩:=h
   rfl
 obtain⟨z,t,rfl,hz,ez,hd,hl,mT,uW,HZ,q⟩:=h
 have nd:=Ed.nd
 have iV:=(DH (P:=P) (w:=w) (base:=base) T 24).mono (k:=29) (by omega)
 have EF:=(Af (P:=P) (w:=w) (base:=base) T).mono (k:=29) (by omega)
 have lz:=iZ z
 have tt:=JM t 24 [] [] hd (fun x h=>rY (mT x h)) (fun x h=>rY (uW x h)) (.inl rfl)
 simp only [List.nil_append,List.append_nil,List.length_nil,Nat.zero_add] at tt
 refine⟨_,(ah (aw (i:=1) nd rfl (Or.inl rfl) (ao iV hr rfl T.lZ T.gC.kp T.mq .nil aA (aa (pv 0) (aa ae (aa ae af)))))
  (ah (aU (aF yX (ar bj (pv 1) ae (fun _ _=>rfl)) (aO gZ rfl T.cJ bM (aa (pv 0) af)) (aJ _)) (aj dh) aH)
  (aj (Jr (aj (aE (ao EF hr rfl T.Er T.wO.kp T.E3 .nil aA (aa (ar bj (pv 1) ae (fun _ _=>rfl)) af)))))))),?_⟩
 walk_at "rd"
 refine⟨z,0,1,_,rfl,hz,Nat.zero_le _,by decide,by decide,by rw [ez];exact tt,fun v H1 S1 d1=>?_⟩
 obtain⟨pa,vsa,rfl,ea,Da⟩:=fG.mp d1
 obtain⟨v1,ra,rfl,d1,Da⟩:=aW.mp Da
 obtain⟨v2,ra,rfl,d2,Da⟩:=aW.mp Da
 rw [eZ.mp Da,aQ.mp d2] at ea
 try (walk_at "rd")
 refine⟨_,ak ea,_,bD,?_⟩
 try (walk_at "rd")
 refine⟨aN (by (clear lz tt ea hd hl ez;lia)),?_⟩
 rw [decide_eq_true (show (((fD t).length:Nat):Int)=((z.length:Nat):Int) by rw [lz,ez])]
 refine d5 ⟨_,ak ea,_,aP,t,v1,rfl,d1,hd,hl,fun q' s' h'=>?_,HZ,fun H2 S2=>q _ H2 (S1.trans S2) (d1.same S2)⟩
 have:=t.Kq _ _ _ h'
 cases hL:s'.eR with
 | true=>exact mT _ (this.1 hL)
 | false=>exact uW _ (this.2 hL)
noncomputable def MN (n:Nat):Sp:=fun vs H Q _=>∃(t:L2.Tree) (v:V),vs=[v]∧Dt H (dT t) v∧t.dp≤n∧Q (.int t.rk) H
theorem Dh (T:Txt K mg):∀n:Nat,bz P w K mg base CX0 (n+2) T.CA T.Bl ["tree"] (MN n)
 | 0=>by
  refine T.qH.ok (k:=1) yL (fun vs H Q E h=>?_) (fun bJ A outer s H vs Q E hr h=>?_)
  · obtain⟨t,v,rfl,_⟩:=h
    rfl
  · obtain⟨t,v,rfl,_,h,_⟩:=h
    have:=t.lV
    omega
 | n+1=>by
  refine T.qH.ok (k:=n+2) yL (fun vs H Q E h=>?_) (fun bJ A outer s H vs Q E hr h=>?_)
  · obtain⟨t,v,rfl,_⟩:=h
    rfl
  obtain⟨t,v,rfl,ht,hd,q⟩:=h
  have nd:=yL.nd
  have bY:=(kE (P:=P) (w:=w) (base:=base) T).mono (k:=n+2) (by lia)
  have uf:=Dh T n
  refine⟨_,(ah (aU (cL (ao bY hr rfl T.fT T.fA.kp T.gi .nil aA (aa (pv 0) af))) (aj (aE ae)) aH)
  (ah (aw (i:=1) nd rfl (Or.inl rfl) (ao uf hr rfl T.yC T.qH.kp T.yA .nil aA (aa (ar bj (pv 0) ae (fun _ _=>rfl)) af)))
  (ah (aw (i:=2) nd rfl (Or.inl rfl) (ao uf hr rfl T.yC T.qH.kp T.yA .nil aA (aa (ar bj (pv 0) ae (fun _ _=>rfl)) af)))
  (ah (aU (aF br (pv 1) (pv 2) (aJ _)) (aj (aE (aq bo (pv 1) ae))) aH)
  (aj (aE (aO (E6 rfl) rfl T.Mg FQ (aa (pv 1) (aa (pv 2) af))))))))),?_⟩
  walk_at "rd"
  refine⟨t,v,rfl,ht,_,rfl,?_⟩
  cases t with
  | leaf x=>exact eS q
  | knot f l r=>
   obtain⟨a,vl,vr,rfl,ea,vq,vi⟩:=fP ht
   simp only [M.Tr.dp] at hd
   refine d5 ⟨a,rfl,_,ak ea,_,dH,l,vl,rfl,vq,by lia,?_⟩
   try (walk_at "rd")
   refine⟨_,ak ea,_,gW,r,vr,rfl,vi,by lia,?_⟩
   try (walk_at "rd")
   have hk:(M.Tr.knot f l r).rk=if l.rk=r.rk then l.rk+1 else max l.rk r.rk:=rfl
   refine cj (fun c=>?_) (fun c=>⟨_,_,⟨rfl,rfl⟩,?_⟩)
   · have c:l.rk=r.rk:=by have:=of_decide_eq_true c;(clear hd ea hk c;lia)
     rw [hk,if_pos c] at q
     exact q
   · have c:¬l.rk=r.rk:=fun z=>c (decide_eq_true (by (clear hd ea hk c;lia)))
     rw [hk,if_neg c] at q
     have:((max l.rk r.rk:Nat):Int)=if (r.rk:Int) > l.rk then (r.rk:Int) else l.rk:=by split<;>(clear hd ea hk c;lia)
     rw [this] at q
     exact q
noncomputable def OE:L2.Tree→Nat
 | .leaf _=>0
 | .knot _ l r=>min l.rk r.rk
noncomputable def dR (q:List Nat×L2.Tree):D:=.tup [dP q.1,.int (q.2.rk:Int),.bl (wQ q.2),.int (OE q.2:Int)]
theorem Dr {H:Hp}{q:List Nat×L2.Tree}{v:V} (h:Dt H (dR q) v):∃a v1,v = .ref a∧H a=some (.tup [v1,.int (q.2.rk:Int),.bl (wQ q.2),.int (OE q.2:Int)])∧Dt H (dP q.1) v1:=by
 obtain⟨a,vs,rfl,e,h⟩:=fG.mp h
 obtain⟨v1,r,rfl,h1,h⟩:=aW.mp h
 obtain⟨v2,r,rfl,h2,h⟩:=aW.mp h
 obtain⟨v3,r,rfl,h3,h⟩:=aW.mp h
 obtain⟨v4,r,rfl,h4,h⟩:=aW.mp h
 rw [eZ.mp h,aQ.mp h2,qM.mp h3,aQ.mp h4] at e
 exact⟨a,v1,rfl,e,h1⟩
theorem xm (t:L2.Tree) (p:List Nat):∃r,t.wk p=(p,t)::r:=by cases t<;>exact⟨_,rfl⟩
noncomputable def Kc (n:Nat):Sp:=fun vs H Q _=>∃(t:L2.Tree) (p:List Nat) (v u:V),vs=[v,u]∧Dt H (dT t) v∧Dt H (dP p) u∧t.dp≤n∧t.lv.length≤5000∧p.length+n≤1000∧zE H ((t.wk p).map dR) Q
theorem zx (T:Txt K mg):∀n:Nat,bz P w K mg base CX0 (n+1) T.j4 T.jZ ["tree","place"] (Kc n)
 | 0=>by
  refine T.fL.ok (k:=0) i8 (fun vs H Q E h=>?_) (fun bJ A outer s H vs Q E hr h=>?_)
  · obtain⟨t,p,v,u,rfl,_⟩:=h
    rfl
  · obtain⟨t,p,v,u,rfl,_,_,h,_⟩:=h
    have:=t.lV
    omega
 | n+1=>by
  refine T.fL.ok (k:=n+1) i8 (fun vs H Q E h=>?_) (fun bJ A outer s H vs Q E hr h=>?_)
  · obtain⟨t,p,v,u,rfl,_⟩:=h
    rfl
  obtain⟨t,p,v,u,rfl,ht,hp,hd,hl,nJ,q⟩:=h
  have nd:=i8.nd
  have g8:=zx T n
  refine⟨_,(ah (aU (aF br (ar bj (pv 0) ae (fun _ _=>rfl)) aD (aJ _)) (aj (aE (bb (aa (aV (aa (pv 1) (aa ae (aa rH (aa ae af))))) af)))) aH)
  (ah (aw (i:=2) nd rfl (Or.inl rfl) (ao g8 hr rfl T.kF T.fL.kp T.kq .nil aA (aa (ar bj (pv 0) ae (fun _ _=>rfl)) (aa (aq gn (pv 1) (aV (aa ae af))) af))))
  (ah (aw (i:=3) nd rfl (Or.inl rfl) (ao g8 hr rfl T.kF T.fL.kp T.kq .nil aA (aa (ar bj (pv 0) ae (fun _ _=>rfl)) (aa (aq gn (pv 1) (aV (aa ae af))) af))))
  (ah (aw (i:=4) nd rfl (Or.inl rfl) (aV (aa (ar bj (ar bj (pv 2) ae (fun _ _=>rfl)) ae (fun _ _=>rfl)) (aa (ar bj (ar bj (pv 3) ae (fun _ _=>rfl)) ae (fun _ _=>rfl)) af))))
  (aj (aE (aq eO (aq eO (bb (aa (aV (aa (pv 1) (aa (aq bo (aO (Ek rfl) rfl T.Mg FQ (aa (pv 4) af)) (bL nj rfl T.wW qx (aa (cB br (ar bj (pv 4) ae (fun _ _=>rfl)) (ar bj (pv 4) ae (fun _ _=>rfl)) (aJ _)) af))) (aa rH (aa (aO (vQ rfl) rfl T.Hy Bp (aa (pv 4) af)) af))))) af)) (pv 2)) (pv 3)))))))),?_⟩
  cases t with
  | leaf x=>
   obtain⟨a,rfl,ea⟩:=oS ht
   walk_at "rd"
   refine⟨_,ak ea,_,aP,rfl,?_⟩
   rw [decide_eq_true rfl]
   refine eS ⟨by decide,aI.mk fun p1 H1 S1 n1 e1=>⟨by decide,aI.mk fun p2 H2 S2 n2 e2=>?_⟩⟩
   refine q p2 _ H2 (S1.trans S2) (S1.free n2) e2 (.one (Dt.tup (S2 _ _ e1) (.cons (hp.same (S1.trans S2)) (.cons (aQ.mpr rfl) (.cons (qM.mpr rfl) (.cons (aQ.mpr rfl) .nil))))))
  | knot f l r=>
   obtain⟨a,vl,vr,rfl,ea,vq,vi⟩:=fP ht
   obtain⟨b,rfl,eb⟩:=uG hp
   simp only [M.Tr.dp] at hd
   simp only [M.Tr.lv,List.length_append] at hl
   have b1:=l.kD (p++[0])
   have b2:=r.kD (p++[1])
   have wZ:(vP p).length=p.length:=by simp [vP]
   walk_at "rd"
   refine⟨_,ak ea,_,aP,rfl,?_⟩
   rw [decide_eq_false (by simp only [V.str.injEq];decide +kernel)]
   refine d5 ⟨_,ak ea,_,dH,by decide,aI.mk fun p3 H3 S3 n3 e3=>?_⟩
   try (walk_at "rd")
   refine⟨_,S3 _ _ eb,_,e3,aN (by simp;(clear eb hl b1 e3 ea b2 hd n3;lia)),fun p4 H4 S4 e4=>?_⟩
   have S04:=S3.trans S4
   have d4:Dt H4 (dP (p++[0])) (.ref p4):=gz (by rw [e4];simp [vP])
   refine⟨l,p++[0],vl,_,rfl,vq.same S04,d4,by (clear b2 wZ n3 e3 e4 eb hl b1 ea nJ;lia),by (clear nJ hd ea e3 e4 b1 b2 wZ n3 eb;lia),by simp;(clear b2 wZ n3 e3 e4 eb hl b1 ea hd;lia),fun p5 ys H5 S5 n5 e5 D5=>?_⟩
   have S05:=S04.trans S5
   try (walk_at "rd")
   refine⟨_,ak (S05 _ _ ea),_,gW,by decide,aI.mk fun p6 H6 S6 n6 e6=>?_⟩
   try (walk_at "rd")
   refine⟨_,S6 _ _ (S05 _ _ eb),_,e6,aN (by simp;(clear n3 e3 e4 n5 e5 n6 e6 ea eb hl b1 hd b2;lia)),fun p7 H7 S7 e7=>?_⟩
   have S57:=S6.trans S7
   have d7:Dt H7 (dP (p++[1])) (.ref p7):=gz (by rw [e7];simp [vP])
   refine⟨r,p++[1],vr,_,rfl,vi.same (S05.trans S57),d7,by (clear n3 e3 e4 n5 e5 n6 e6 e7 hl b1 b2 wZ ea eb nJ;lia),by (clear n3 e3 e4 n5 e5 n6 e6 e7 nJ hd ea eb b1 b2 wZ;lia),by simp;(clear n3 e3 e4 n5 e5 n6 e6 e7 hl b1 b2 wZ ea eb hd;lia),fun p8 zs H8 S8 n8 e8 D8=>?_⟩
   have S58:=S57.trans S8
   have S08:=S05.trans S58
   have l5:=D5.length
   have l8:=D8.length
   simp at l5 l8
   obtain⟨rl,IJ⟩:=xm l (p++[0])
   obtain⟨rr,OD⟩:=xm r (p++[1])
   obtain⟨y0,K8,Z8⟩:=aR.dD (i:=0) (x:=(p++[0],l)) (D5.same S58) (by rw [IJ];rfl)
   obtain⟨z0,nR,dz0⟩:=aR.dD (i:=0) (x:=(p++[1],r)) D8 (by rw [OD];rfl)
   obtain⟨ay,wy,rfl,ey,_⟩:=Dr Z8
   obtain⟨az,wz,rfl,ez,_⟩:=Dr dz0
   try (walk_at "rd")
   refine⟨_,aC (S58 _ _ e5),_,gX (by decide) K8,?_⟩
   refine⟨_,rfl,_,ak ey,_,bD,_,aC e8,_,gX (by decide) nR,_,rfl,_,ak ez,_,bD,by decide,aI.mk fun p9 H9 S9 n9 e9=>?_⟩
   refine⟨p9,rfl,[(l.rk:Int),(r.rk:Int)],by rw [ak e9];rfl,by simp,fun m hm hmx=>?_⟩
   try (walk_at "rd")
   have mx:m=max (l.rk:Int) (r.rk:Int):=by
    have h1:=hmx (l.rk:Int) (by simp)
    have h2:=hmx (r.rk:Int) (by simp)
    simp at hm
    (clear nJ hd ea eb hl b1 b2 wZ n3 e3 e4 n5 e5 n6 e6 e7 n8 e8 l5 l8 IJ OD K8 ey nR ez n9 e9;lia)
   subst mx
   refine⟨_,ak e9,_,aP,_,ak e9,_,bD,rfl,[(l.rk:Int),(r.rk:Int)],by rw [ak e9];rfl,by simp,fun m2 Yv bC=>⟨by decide,aI.mk fun pA HA SA nA eA=>⟨by decide,aI.mk fun pB HB SB nB eB=>?_⟩⟩⟩
   have mn:m2=((min l.rk r.rk:Nat):Int):=by
    have h1:=bC (l.rk:Int) (by simp)
    have h2:=bC (r.rk:Int) (by simp)
    simp at Yv
    (clear nJ hd ea eb hl b1 b2 wZ n3 e3 e4 n5 e5 n6 e6 e7 n8 e8 l5 l8 IJ OD K8 ey nR ez n9 e9 nA eA nB eB;lia)
   subst mn
   have mk:max (l.rk:Int) (r.rk:Int)+(if decide (V.int (l.rk:Int)=V.int (r.rk:Int))=true then 1 else 0)=(((M.Tr.knot f l r).rk:Nat):Int):=by
    simp only [M.Tr.rk,V.int.injEq,decide_eq_true_eq]
    split<;>split<;>(clear nJ hd ea eb hl b1 b2 wZ n3 e3 e4 n5 e5 n6 e6 e7 n8 e8 l5 l8 IJ OD K8 ey nR ez n9 e9 nA nB eB eA;omega)
   rw [mk] at eA
   have S8B:=(S9.trans SA).trans SB
   have dN:Dt HB (dR (p,.knot f l r)) (.ref pA):=Dt.tup (SB _ _ eA) (.cons (hp.same (S08.trans S8B)) (.cons (aQ.mpr rfl) (.cons (qM.mpr rfl) (.cons (aQ.mpr rfl) .nil))))
   refine⟨pB,rfl,_,eB,_,(S58.trans S8B) _ _ e5,aN (by simp;(clear e3 e4 n5 e5 n6 e6 e7 n8 e8 e9 nA nB eB eA mk l8 IJ OD K8 ey nR ez n9 nJ hd ea b2 wZ n3 eb;lia)),aI.mk fun pC HC SC nC eC=>⟨pC,rfl,_,eC,_,(S8B.trans SC) _ _ e8,aN (by simp;(clear e3 e4 n5 e5 n6 e6 e7 n8 e8 e9 nA nB eB eA mk nC eC nR ez n9 nJ hd ea OD K8 ey wZ n3 IJ eb;lia)),aI.mk fun pD HD SD nD eD=>?_⟩⟩
   have SBD:=SC.trans SD
   refine q pD _ HD ((S08.trans S8B).trans SBD) ((S08.trans (S8B.trans SC)).free nD) eD ?_
   simp only [M.Tr.wk,List.map_cons,List.map_append]
   exact aR.append (.cons (dN.same SBD) (D5.same (S58.trans (S8B.trans SBD)))) (D8.same (S8B.trans SBD))
noncomputable def uk (k:Int) (q:List Nat×L2.Tree):Bool:=wQ q.2&&decide (k≤(OE q.2:Int))
noncomputable def jQ (t:L2.Tree) (k:Int):List (List Nat):=((t.wk []).filter (uk k)).map (·.1)
noncomputable def zI (k:Int) (t:L2.Tree):Bool:=wQ t&&decide (k≤(OE t:Int))
noncomputable def NA (n:Nat):Sp:=fun vs H Q _=>∃(t:L2.Tree) (k:Int) (v:V),vs=[v,.int k]∧Dt H (dT t) v∧t.dp≤n∧Q (.bl (zI k t)) H
theorem Kw (T:Txt K mg) (n:Nat):bz P w K mg base CX0 (n+3) T.Cp T.BY ["tree","k"] (NA n):=by
 refine T.Hf.ok (k:=n+2) DU (fun vs H Q E h=>?_) (fun bJ A outer s H vs Q E hr h=>?_)
 · obtain⟨t,k,v,rfl,_⟩:=h
   rfl
 obtain⟨t,k,v,rfl,ht,hd,q⟩:=h
 have nd:=DU.nd
 have bY:=(kE (P:=P) (w:=w) (base:=base) T).mono (k:=n+2) (by lia)
 have uf:=Dh (P:=P) (w:=w) (base:=base) T n
 refine⟨_,(aj (aE (mF (ME (ao bY hr rfl T.fT T.fA.kp T.gi .nil aA (aa (pv 0) af))) (mF (cB CV (ao uf hr rfl T.yC T.qH.kp T.yA .nil aA (aa (ar bj (pv 0) ae (fun _ _=>rfl)) af)) (pv 1) (aJ _)) (jW (cB CV (ao uf hr rfl T.yC T.qH.kp T.yA .nil aA (aa (ar bj (pv 0) ae (fun _ _=>rfl)) af)) (pv 1) (aJ _))))))),?_⟩
 walk_at "rd"
 refine⟨t,v,rfl,ht,_,rfl,?_⟩
 cases t with
 | leaf x=>exact d5 q
 | knot f l r=>
  obtain⟨a,vl,vr,rfl,ea,vq,vi⟩:=fP ht
  simp only [M.Tr.dp] at hd
  have e:zI k (.knot f l r)=(decide (k≤(l.rk:Int))&&decide (k≤(r.rk:Int))):=by
   show (true&&decide (k≤((min l.rk r.rk:Nat):Int)))=_
   rw [Bool.eq_iff_iff];simp;(clear hd ea;lia)
  rw [e] at q
  refine eS ⟨a,rfl,_,ak ea,_,dH,l,vl,rfl,vq,by lia,_,rfl,cj (fun c=>?_) (fun c=>?_)⟩
  · rw [c] at q
    exact⟨a,rfl,_,ak ea,_,gW,r,vr,rfl,vi,by lia,_,rfl,q⟩
  · rw [Bool.not_eq_true] at c
    rw [c] at q
    exact q
noncomputable def O2 (t:L2.Tree) (k:Int) (p:List Nat):Bool:=match t.sub p with|some u=>zI k u|none=>false
theorem ID (t:L2.Tree) (k:Int):t.pl.filter (O2 t k)=jQ t k:=by
 unfold jQ
 rw [M.Tr.pQ,List.filter_map]
 congr 1
 apply List.filter_congr
 intro q hq
 show O2 t k q.1=_
 unfold O2;rw [M.Tr.i7 hq];rfl
noncomputable def GI (n:Nat):Sp:=fun vs H Q _=>∃(t:L2.Tree) (k:Int) (v:V),vs=[v,.int k]∧Dt H (dT t) v∧t.dp≤n∧t.lv.length≤5000∧zE H ((jQ t k).map dP) Q
theorem K4 (T:Txt K mg) (n:Nat):bz P w K mg base CX0 (n+5) T.oq T.om ["tree","k"] (GI n):=by
 refine T.tS.ok (k:=n+4) rF (fun vs H Q E h=>?_) (fun bJ A outer s H vs Q E hr h=>?_)
 · obtain⟨t,k,v,rfl,_⟩:=h
   rfl
 obtain⟨t,k,v,rfl,ht,hd,hl,q⟩:=h
 have nd:=rF.nd
 have d9:=(oU (P:=P) (w:=w) (base:=base) T).mono (k:=n+4) (by lia)
 have MA:=(Kw (P:=P) (w:=w) (base:=base) T n).mono (k:=n+4) (by lia)
 have fM:=(jI (P:=P) (w:=w) (base:=base) T n).mono (k:=n+4) (by lia)
 refine⟨_,(aj (aE (dI (N:=["place","k","tree"]) (caps:=[1,0]) rfl ⟨rfl,rfl,rfl,rfl,by decide +kernel,rfl,rfl,rfl,rfl⟩ (wb (ao fM hr rfl T.mX T.iE.kp T.lC .nil aA (aa (pv 0) af))) (fun _ _ _ _=>pj (cL (ao MA hr rfl T.MQ T.Hf.kp T.Nf .nil aA (aa (ao d9 hr rfl T.jG T.ia.kp T.jL .nil aA (aa (pv 2) (aa (pv 0) af))) (aa (pv 1) af))))) (fun _ _ _ _=>(pv 0))))),?_⟩
 walk_at "rd"
 refine⟨t,v,rfl,ht,hd,hl,fun p5 ys H5 S5 n5 e5 D5=>?_⟩
 have l5:ys.length=t.pl.length:=by have:=D5.length;simpa using this
 have l6:=M.ir t
 refine WalkL.comp e5 (fun i zs H'=>H'=H5∧zs.length≤i∧aR H' (((t.pl.take i).filter (O2 t k)).map dP) zs) ⟨rfl,Nat.zero_le _,.nil⟩ (by (clear n5 e5 hd;lia)) (fun i zs H' h=>h.2.1) (fun i x zs H' ex S' h=>?_) (fun p7 zs H6 H7 S6 S7 h n7 e7=>?_)
 · obtain⟨rfl,hz,D6⟩:=h
   have hi:i<t.pl.length:=by have:=(List.getElem?_eq_some_iff.mp ex).1;(clear hd hl n5 ex e5 l6 hz;lia)
   obtain⟨v',kY,sy⟩:=aR.dD D5 (List.getElem?_eq_getElem hi)
   rw [ex] at kY;cases kY
   obtain⟨u,hu,TB⟩:=M.xC (List.getElem_mem hi)
   have hg:O2 t k t.pl[i]=zI k u:=by unfold O2;rw [hu]
   walk_at "rd"
   have TB:=M.Tr.xo t _ _ _ TB
   simp at TB
   refine⟨t,u,_,v,x,rfl,ht.same S5,sy,hu,fun w' L5=>⟨u,k,w',rfl,L5,by (clear l5 l6 ex e5 hz n5 hu hl hg;lia),_,rfl,cj (fun c=>?_) (fun c=>?_)⟩⟩
   · refine⟨S',rfl,by simp;omega,?_⟩
     rw [List.take_add_one,List.getElem?_eq_getElem hi,List.filter_append]
     simp only [Option.toList_some,List.filter_cons,List.filter_nil,hg,c,if_true,List.map_append,List.map_cons,List.map_nil]
     exact D6.append (.one sy)
   · have c:zI k u=false:=by simpa using c
     refine⟨S',rfl,by (clear hd hl n5 l5 l6 ex e5 TB c hu hg;lia),?_⟩
     rw [List.take_add_one,List.getElem?_eq_getElem hi,List.filter_append]
     simp only [Option.toList_some,List.filter_cons,List.filter_nil,hg,c,Bool.false_eq_true,if_false,List.append_nil]
     exact D6
 · obtain⟨rfl,hz,D6⟩:=h
   rw [l5,List.take_length,ID] at D6
   exact q p7 zs H7 (S5.trans S7) (S5.free n7) e7 (D6.same S7)
noncomputable def nK (t:L2.Tree):Nat:=((t.wk []).filter fun q=>wQ q.2).length
theorem Ls (t:L2.Tree):nK t+1=t.lv.length:=by
 have h1:=t.kD []
 have h2:((t.wk []).filter fun q=>q.2.eR).length=t.lv.length:=by rw [←M.Tr.zk t [],List.length_map]
 have h3:((t.wk []).filter fun q=>q.2.eR).length+nK t=(t.wk []).length:=by
  unfold nK wQ
  generalize t.wk []=l
  induction l with
  | nil=>rfl
  | cons q l ih=>
   simp only [List.filter_cons,List.length_cons]
   cases q.2.eR<;>simp<;>(clear h1 h2;lia)
 lia
noncomputable def LA (a b c d:Int):D:=.tup [.int a,.int b,.int c,.int d]
noncomputable def M6 (t:L2.Tree) (k:Int):Prop:=k<1∨k=1∧0<nK t
noncomputable def K9 (T:Txt K mg):Sp:=fun vs H Q E=>∃(t:L2.Tree) (k:Int) (v:V),vs=[v,.int k]∧Dt H (dT t) v∧t.dp≤24∧t.lv.length≤32∧k.natAbs.log2<1900∧(M6 t k→∀H',av H H'→E (.ref T.iw) none H')∧
 (¬M6 t k→Al H (LA (nK t+1:Nat) (nK t) (jQ t k).length (jQ t k).length) Q)
theorem Gg (T:Txt K mg):bz P w K mg base (CXE P w) 33 T.xj T.yx ["tree","k"] (K9 T):=by
 refine T.DS.Uc (k:=32) zM (fun vs H Q E h=>?_) (fun bJ A outer s H vs Q E hr h L=>?_)
 · obtain⟨t,k,v,rfl,_⟩:=h
   rfl
 obtain⟨t,k,v,rfl,ht,hd,hl,hk,hf,q⟩:=h
 have nd:=zM.nd
 have bY:=(kE (P:=P) (w:=w) (base:=base) T).mono (k:=32) (by omega)
 have fM:=(jI (P:=P) (w:=w) (base:=base) T 24).mono (k:=32) (by omega)
 have lR:=(qr (P:=P) (w:=w) (base:=base) T 24).mono (k:=32) (by omega)
 have Bw:=(K4 (P:=P) (w:=w) (base:=base) T 24).mono (k:=32) (by omega)
 refine⟨_,(ah (aU (PW.pt (zu (aF zb (pv 1) ae (aJ _)) (tG (PW.pt (gM (aF br (pv 1) ae (aJ _)) (fI (mB (cL (ao bY hr rfl T.fT T.fA.kp T.gi .nil aA (aa (pv 0) af)))))))))) (aj (Hk L rfl T.Ho T.HY rfl (aa (LV (.cons aD (.cons (Ja (pv 1)) .nil))) af))) aH)
  (ah (aw (i:=2) nd rfl (Or.inl rfl) (aO kz rfl T.cJ bM (aa (ao lR hr rfl T.tJ T.pI.kp T.t7 .nil aA (aa (pv 0) af)) af)))
  (ah (aw (i:=3) nd rfl (Or.inl rfl) (aq fK (aO kz rfl T.cJ bM (aa (ao fM hr rfl T.mX T.iE.kp T.lC .nil aA (aa (pv 0) af)) af)) (pv 2)))
  (ah (aw (i:=4) nd rfl (Or.inl rfl) (aO kz rfl T.cJ bM (aa (ao Bw hr rfl T.Bt T.tS.kp T.AY .nil aA (aa (pv 0) (aa (pv 1) af))) af)))
  (aj (aE (aV (aa (pv 2) (aa (pv 3) (aa (pv 4) (aa (pv 4) af))))))))))),?_⟩
 walk_at "rd"
 have zl:∀y:Nat,y≤50000→y≤sizeLine:=fun y hy=>aN (by (clear hd hl hk hf q;lia))
 have OG:(Str.ofString "so many boxes are too few: ").length=27:=by decide +kernel
 have QQ:k.natAbs.log2<1920:=by (clear hf q OG hd hl;lia)
 have tail:¬M6 t k→∀R:V→Hp→Prop,(∀v' H',Q v' H'→R v' H')→zQ 24 [v] H (fun x H1=>∃p,x=V.ref p∧∃x,itemsOf (H1 p)=some x∧uY 24 [v] H1 (fun Gz H1=>∃p,Gz=V.ref p∧∃x_2,itemsOf (H1 p)=some x_2∧
  GI 24 [v,V.int k] H1 (fun TY H1=>∃p,TY=V.ref p∧∃x_4,itemsOf (H1 p)=some x_4∧4≤sizeLine∧aI H1 (HO.tup [V.int x.length,V.int (x_2.length - x.length),V.int x_4.length,V.int x_4.length]) R) E0) E0) E0:=by
  intro nf R hR
  refine⟨t,v,rfl,ht,hd,by lia,fun p1 ys H1 S1 n1 e1 D1=>⟨p1,rfl,ys,aC e1,?_⟩⟩
  refine⟨t,v,rfl,ht.same S1,hd,by lia,fun p2 zs H2 S2 n2 e2 D2=>⟨p2,rfl,zs,aC e2,?_⟩⟩
  refine⟨t,k,v,rfl,ht.same (S1.trans S2),hd,by lia,fun p3 us H3 S3 n3 e3 D3=>⟨p3,rfl,us,aC e3,by decide,aI.mk fun p4 H4 S4 n4 e4=>hR _ _ ?_⟩⟩
  have l1:=D1.length
  have l2:=D2.length
  have l3:=D3.length
  have h1:ys.length=t.lv.length:=by rw [l1,List.length_map,CN,List.length_map,←M.Tr.zk t [],List.length_map]
  have h2:zs.length=(t.wk []).length:=by rw [l2,List.length_map,M.Tr.pQ,List.length_map]
  have h3:=t.kD []
  have h4:=Ls t
  rw [List.length_map] at l3
  rw [h1,h2,l3] at e4
  refine q nf _ _ ((S1.trans S2).trans (S3.trans S4)) (Dt.tup e4 (.cons (aQ.mpr ?_) (.cons (aQ.mpr ?_) (.cons (aQ.mpr rfl) (.cons (aQ.mpr rfl) .nil)))))
  · rw [h4]
  · congr 1;(clear hd hl hk hf q OG QQ nf n1 e1 n2 e2 n3 e3 n4 e4 l1 l2 l3 h1 h2;lia)
 refine cj (fun c=>?_) (fun c=>cj (fun d=>?_) (fun d=>?_))
 · have c:=of_decide_eq_true c
   refine⟨zl _ ?_,QQ,fun z hz=>⟨zl _ ?_,zl _ ?_,by decide,hf (.inl c) H (av.refl _)⟩⟩
   all_goals (simp only [QP,DE,OG];(clear hd hl hk hf q OG QQ tail c;lia))
 · have c:¬k<1:=fun z=>c (decide_eq_true z)
   have d:=of_decide_eq_true d
   refine⟨t,v,rfl,ht,_,rfl,cj (fun b=>?_) (fun b=>?_)⟩
   · have b:0<nK t:=by
      have b:wQ t=true:=b
      obtain⟨r,hr⟩:=xm t []
      unfold nK
      rw [hr,List.filter_cons,if_pos b]
      simp
     refine⟨zl _ ?_,QQ,fun z hz=>⟨zl _ ?_,zl _ ?_,by decide,hf (.inr ⟨d,b⟩) H (av.refl _)⟩⟩
     all_goals (simp only [QP,DE,OG];(clear hd hl hk hf q OG QQ tail c d b;lia))
   · have b:t.eR=true:=by simpa using b
     refine tail ?_ _ (fun _ _ h=>h)
     rintro (z|⟨_,z⟩)
     · exact c z
     · cases t with
       | leaf x=>exact absurd z (by simp [nK,M.Tr.wk,wQ,M.Tr.eR])
       | knot f l r=>cases b
 · have c:¬k<1:=fun z=>c (decide_eq_true z)
   have d:¬k=1:=fun z=>d (decide_eq_true z)
   exact tail (fun z=>z.elim c fun z=>d z.1) _ (fun _ _ h=>h)
noncomputable def dK (q:List Nat×L2.Tree):D:=.tup [dP q.1,.str q.2.name,.bl (wQ q.2)]
theorem Mj {H:Hp}{q:List Nat×L2.Tree}{v:V} (h:Dt H (dK q) v):∃a v1,v = .ref a∧H a=some (.tup [v1,.str q.2.name,.bl (wQ q.2)])∧Dt H (dP q.1) v1:=by
 obtain⟨a,vs,rfl,e,h⟩:=fG.mp h
 obtain⟨v1,r,rfl,h1,h⟩:=aW.mp h
 obtain⟨v2,r,rfl,h2,h⟩:=aW.mp h
 obtain⟨v3,r,rfl,h3,h⟩:=aW.mp h
 rw [eZ.mp h,bc.mp h2,qM.mp h3] at e
 exact⟨a,v1,rfl,e,h1⟩
noncomputable def Jm (n:Nat):Sp:=fun vs H Q _=>∃(t:L2.Tree) (p:List Nat) (v u:V),vs=[v,u]∧Dt H (dT t) v∧Dt H (dP p) u∧t.dp≤n∧t.lv.length≤5000∧p.length+n≤1000∧zE H ((t.wk p).map dK) Q
theorem Av (T:Txt K mg):∀n:Nat,bz P w K mg base CX0 (n+1) T.ke T.kJ ["tree","place"] (Jm n)
 | 0=>by
  refine T.fJ.ok (k:=0) jm (fun vs H Q E h=>?_) (fun bJ A outer s H vs Q E hr h=>?_)
  · obtain⟨t,p,v,u,rfl,_⟩:=h
    rfl
  · obtain⟨t,p,v,u,rfl,_,_,h,_⟩:=h
    have:=t.lV
    omega
 | n+1=>by
  refine T.fJ.ok (k:=n+1) jm (fun vs H Q E h=>?_) (fun bJ A outer s H vs Q E hr h=>?_)
  · obtain⟨t,p,v,u,rfl,_⟩:=h
    rfl
  obtain⟨t,p,v,u,rfl,ht,hp,hd,hl,nJ,q⟩:=h
  have nd:=jm.nd
  have gY:=Av T n
  refine⟨_,(ah (aU (aF br (ar bj (pv 0) ae (fun _ _=>rfl)) aD (aJ _)) (aj (aE (bb (aa (aV (aa (pv 1) (aa (ar bj (pv 0) ae (fun _ _=>rfl)) (aa rH af)))) af)))) aH)
  (aj (aE (aq eO (aq eO (bb (aa (aV (aa (pv 1) (aa (ar bj (pv 0) ae (fun _ _=>rfl)) (aa rH af)))) af)) (ao gY hr rfl T.kf T.fJ.kp T.ku .nil aA (aa (ar bj (pv 0) ae (fun _ _=>rfl)) (aa (aq gn (pv 1) (aV (aa ae af))) af)))) (ao gY hr rfl T.kf T.fJ.kp T.ku .nil aA (aa (ar bj (pv 0) ae (fun _ _=>rfl)) (aa (aq gn (pv 1) (aV (aa ae af))) af))))))),?_⟩
  cases t with
  | leaf x=>
   obtain⟨a,rfl,ea⟩:=oS ht
   walk_at "rd"
   refine⟨_,ak ea,_,aP,rfl,?_⟩
   rw [decide_eq_true rfl]
   refine eS ⟨_,ak ea,_,bD,by decide,aI.mk fun p1 H1 S1 n1 e1=>⟨by decide,aI.mk fun p2 H2 S2 n2 e2=>?_⟩⟩
   exact q p2 _ H2 (S1.trans S2) (S1.free n2) e2 (.one (Dt.tup (S2 _ _ e1) (.cons (hp.same (S1.trans S2)) (.cons (bc.mpr rfl) (.cons (qM.mpr rfl) .nil)))))
  | knot f l r=>
   obtain⟨a,vl,vr,rfl,ea,vq,vi⟩:=fP ht
   obtain⟨b,rfl,eb⟩:=uG hp
   simp only [M.Tr.dp] at hd
   simp only [M.Tr.lv,List.length_append] at hl
   have b1:=l.kD (p++[0])
   have b2:=r.kD (p++[1])
   have wZ:(vP p).length=p.length:=by simp [vP]
   walk_at "rd"
   refine⟨_,ak ea,_,aP,rfl,?_⟩
   rw [decide_eq_false (by simp only [V.str.injEq];decide +kernel)]
   refine d5 ⟨_,ak ea,_,bD,by decide,aI.mk fun p1 H1 S1 n1 e1=>⟨by decide,aI.mk fun p2 H2 S2 n2 e2=>?_⟩⟩
   have S12:=S1.trans S2
   have d1:Dt H2 (dK (p,.knot f l r)) (.ref p1):=Dt.tup (S2 _ _ e1) (.cons (hp.same S12) (.cons (bc.mpr rfl) (.cons (qM.mpr rfl) .nil)))
   try (walk_at "rd")
   refine⟨_,ak (S12 _ _ ea),_,dH,by decide,aI.mk fun p3 H3 S3 n3 e3=>?_⟩
   try (walk_at "rd")
   refine⟨_,S3 _ _ (S12 _ _ eb),_,e3,aN (by simp;(clear n1 e1 n2 e2 n3 e3 ea eb hl b1 hd b2;lia)),fun p4 H4 S4 e4=>?_⟩
   have S24:=S3.trans S4
   have d4:Dt H4 (dP (p++[0])) (.ref p4):=gz (by rw [e4];simp [vP])
   refine⟨l,p++[0],vl,_,rfl,vq.same (S12.trans S24),d4,by (clear n1 e1 n2 e2 n3 e3 e4 hl b1 b2 wZ ea eb nJ;lia),by (clear n1 e1 n2 e2 n3 e3 e4 nJ hd ea eb b1 b2 wZ;lia),by simp;(clear n1 e1 n2 e2 n3 e3 e4 hl b1 b2 wZ ea eb hd;lia),fun p5 ys H5 S5 n5 e5 D5=>?_⟩
   have l5:=D5.length
   simp at l5
   have S25:=S24.trans S5
   try (walk_at "rd")
   refine⟨_,S25 _ _ e2,_,e5,aN (by simp;(clear n2 e2 n3 e3 e4 nJ hd ea b2 wZ n1 e1 n5 e5 eb;lia)),aI.mk fun p6 H6 S6 n6 e6=>?_⟩
   have S26:=S25.trans S6
   try (walk_at "rd")
   refine⟨_,ak ((S12.trans S26) _ _ ea),_,gW,by decide,aI.mk fun p7 H7 S7 n7 e7=>?_⟩
   try (walk_at "rd")
   refine⟨_,S7 _ _ ((S12.trans S26) _ _ eb),_,e7,aN (by simp;(clear e2 n3 e3 e4 n5 e5 l5 n6 e6 n7 e7 eb hl b1 e1 n2 ea b2 hd n1;lia)),fun p8 H8 S8 e8=>?_⟩
   have S28:=(S26.trans S7).trans S8
   have d8:Dt H8 (dP (p++[1])) (.ref p8):=gz (by rw [e8];simp [vP])
   refine⟨r,p++[1],vr,_,rfl,vi.same (S12.trans S28),d8,by (clear n3 e3 e4 n5 e5 l5 n6 e6 n7 e7 e8 b2 wZ n1 e1 n2 e2 eb hl b1 ea nJ;lia),by (clear n3 e3 e4 n5 e5 l5 n6 e6 n7 e7 e8 nJ hd ea e1 n2 e2 b1 b2 wZ n1 eb;lia),by simp;(clear b2 wZ n1 e1 n2 e2 n3 e3 e4 n5 e5 l5 n6 e6 n7 e7 e8 eb hl b1 ea hd;lia),fun p9 zs H9 S9 n9 e9 D9=>?_⟩
   have l9:=D9.length
   simp at l9
   have S29:=S28.trans S9
   try (walk_at "rd")
   refine⟨_,S9 _ _ (S8 _ _ (S7 _ _ e6)),_,e9,aN (by simp;(clear wZ n1 e1 n2 e2 n3 e3 nJ hd ea eb e6 n7 e7 e8 n5 e5 n9 e9 e4 n6;lia)),aI.mk fun pA HA SA nA eA=>?_⟩
   try (walk_at "rd")
   refine q pA _ HA (S12.trans (S29.trans SA)) ((S12.trans S29).free nA) eA ?_
   have S6A:=((S7.trans S8).trans S9).trans SA
   have D5':=(D5.same S6).same S6A
   simp only [M.Tr.wk,List.map_cons,List.map_append]
   exact aR.append (.cons (d1.same (S29.trans SA)) D5') (D9.same SA)
open M (tO)
noncomputable def Cw (names deeds:List Str) (k m:Int):au→Prop
 | .take x i=>x∈names∧tO k i
 | .join f i j h=>f∈deeds∧tO k i∧tO k j∧tO k h
 | .put i s=>tO k i∧tO m s
 | .fetch s i=>tO m s∧tO k i
theorem Bv {names deeds:List Str}{k m:Int}{d:L2.au} (h:Cw names deeds k m d):d.ok k m:=by
 cases d with
 | take x i=>exact⟨fun z hz=>by simp [M.au.bn] at hz;rw [hz];exact h.2,fun z hz=>by simp [M.au.sn] at hz⟩
 | join f i j l=>exact⟨fun z hz=>by
  simp [M.au.bn] at hz
  rcases hz with rfl|rfl|rfl
  · exact h.2.1
  · exact h.2.2.1
  · exact h.2.2.2,fun z hz=>by simp [M.au.sn] at hz⟩
 | put i j=>exact⟨fun z hz=>by simp [M.au.bn] at hz;rw [hz];exact h.1,fun z hz=>by simp [M.au.sn] at hz;rw [hz];exact h.2⟩
 | fetch j i=>exact⟨fun z hz=>by simp [M.au.bn] at hz;rw [hz];exact h.2,fun z hz=>by simp [M.au.sn] at hz;rw [hz];exact h.1⟩
theorem i3 (z:Int) {k:Int} (h:1≤k):tO k (z % k):=⟨Int.emod_nonneg _ (by omega),Int.emod_lt_of_pos _ (by omega)⟩
noncomputable def wordOf (z:Nat):Str:=if z<2 then Str.ofString "take" else if z<5 then Str.ofString "join" else if z=5 then Str.ofString "put" else Str.ofString "fetch"
theorem JP (z:Int) (h0:0≤z) (h:z<7):kX [V.str (Str.ofString "take"),V.str (Str.ofString "take"),V.str (Str.ofString "join"),V.str (Str.ofString "join"),V.str (Str.ofString "join"),V.str (Str.ofString "put"),V.str (Str.ofString "fetch")] z=some (.str (wordOf z.toNat)):=by
 rcases (show z=0∨z=1∨z=2∨z=3∨z=4∨z=5∨z=6 by lia) with rfl|rfl|rfl|rfl|rfl|rfl|rfl<;>rfl
theorem CG (z:Nat):wordOf z=Str.ofString "take"∨wordOf z=Str.ofString "join"∨wordOf z=Str.ofString "put"∨wordOf z=Str.ofString "fetch":=by
 unfold wordOf
 split
 · simp
 · split
   · simp
   · split<;>simp
noncomputable def N7 (K:PySem.W.Frag):Sp:=fun vs H Q _=>∃(a pn pd:Addr) (ns:List Int) (n k m:Int) (names deeds:List Str),vs=[.ref a,.int n,.ref pn,.ref pd,.int k,.int m]∧fQ K H a (ns.map V.int)∧ns.length≤63∧0≤n∧n<1000000∧
 H pn=some (.lst (names.map V.str))∧names≠[]∧names.length≤1000∧H pd=some (.lst (deeds.map V.str))∧deeds.length=3∧1≤k∧k≤10000∧1≤m∧m≤10000∧∀d v H',av H H'→Dt H' (cF d) v→Cw names deeds k m d→Q v H'
seal lg PS PE PT PA PI eT in
theorem DW (T:Txt K mg):bz P w K mg base CX0 2 T.lE T.mw ["script","n","names","deeds","k","many"] (N7 K):=by
 refine T.lQ.ok (k:=1) pU (fun vs H Q E h=>?_) (fun bJ A outer s H vs Q E hr h=>?_)
 · obtain⟨a,pn,pd,ns,n,k,m,names,deeds,rfl,_⟩:=h
   rfl
 obtain⟨a,pn,pd,ns,n,k,m,names,deeds,rfl,hS,aK,oa,mT,en,bB,bK,ed,bZ,k1,k2,m1,m2,q⟩:=h
 have nd:=pU.nd
 have aZ:=(rM (P:=P) (w:=w) (base:=base) T).mono (k:=1) (by omega)
 refine⟨_,(ah (aw (i:=6) nd rfl (Or.inl rfl) (ao aZ hr rfl T.bu T.bp.kp T.bt .nil aA (aa (pv 0) (aa (pv 1) af))))
  (ah (aw (i:=7) nd rfl (Or.inl rfl) (ar bj (bb (aa aD (aa aD (aa aD (aa aD (aa aD (aa aD (aa aD af)))))))) (aq aY (pv 6) ae) (fun _ _=>rfl)))
  (ah (aw (i:=6) nd rfl (Or.inl rfl) (aq bF (pv 6) ae))
  (ah (aU (aF br (pv 7) aD (aJ _)) (aj (aE (aV (aa (pv 7) (aa (ar bj (pv 2) (aq aY (pv 6) (aO kz rfl T.cJ bM (aa (pv 2) af))) (fun _ _=>rfl)) (aa (aq aY (aq bF (pv 6) (aO kz rfl T.cJ bM (aa (pv 2) af))) (pv 4)) af)))))) aH)
  (ah (aU (aF br (pv 7) aD (aJ _)) (aj (aE (aV (aa (pv 7) (aa (ar bj (pv 3) (aq aY (pv 6) ae) (fun _ _=>rfl)) (aa (aq aY (aq bF (pv 6) ae) (pv 4)) (aa (aq aY (aq bF (pv 6) (aq mQ ae (pv 4))) (pv 4)) (aa (aq aY (aq bF (pv 6) (aq mQ (aq mQ ae (pv 4)) (pv 4))) (pv 4)) af)))))))) aH)
  (ah (aU (aF br (pv 7) aD (aJ _)) (aj (aE (aV (aa (pv 7) (aa (aq aY (pv 6) (pv 4)) (aa (aq aY (aq bF (pv 6) (pv 4)) (pv 5)) af)))))) aH)
  (aj (aE (aV (aa (pv 7) (aa (aq aY (pv 6) (pv 5)) (aa (aq aY (aq bF (pv 6) (pv 5)) (pv 4)) af)))))))))))),?_⟩
 refine vV fun C hC=>?_
 walk_at "rd"
 refine⟨a,ns,n,rfl,hS,aK,oa,mT,?_⟩
 generalize cm ns n.toNat=cell
 try (walk_at "rd")
 refine⟨by decide,aI.mk fun p1 H1 S1 n1 e1=>⟨by decide,p1,rfl,_,aC e1,_,JP _ (by (clear aK oa mT en bB bK ed bZ k1 k2 m1 m2 hC n1 e1;lia)) (by (clear aK oa mT en bB bK ed bZ k1 k2 m1 m2 hC n1 e1;lia)),⟨by decide,by decide⟩,?_⟩⟩
 have hw:=CG (cell % 7).toNat
 generalize wordOf (cell % 7).toNat=word at hw
 generalize cell / 7=c
 have dne:∀{x y:String},(Str.ofString x==Str.ofString y)=false→decide (V.str (Str.ofString x)=V.str (Str.ofString y))=false:=fun {x y} h=>decide_eq_false (fun z=>by
  have:=V.str.inj z
  rw [this] at h
  simp at h)
 have len:1≤names.length:=by cases names with|nil=>exact absurd rfl bB|cons=>simp
 have sq:3*k*k≤300000000:=by
  have h1:3*k*k≤3*k*10000:=Int.mul_le_mul_of_nonneg_left k2 (by (clear k2 m1 m2 hC n1 e1 hw len aK oa mT en bB bK ed bZ;lia))
  (clear aK oa mT en bB bK ed bZ k1 hC n1 e1 m2 hw m1 len;omega)
 have sf:0<3*k*k:=Int.mul_pos (by (clear k2 m1 m2 hC n1 e1 hw len sq aK oa mT en bB bK ed bZ;omega)) (by (clear k2 m1 m2 hC n1 e1 hw len sq aK oa mT en bB bK ed bZ;omega))
 rw [hC]
 clear hC C
 refine gU fun C hC=>?_
 walk_at "rd"
 rcases hw with rfl|hw
 · rw [decide_eq_true rfl]
   have z0:0≤c % (((names.map V.str).length:Nat):Int):=Int.emod_nonneg _ (by rw [List.length_map];(clear aK oa mT en bB bK ed bZ k1 k2 m1 m2 n1 e1 hC sf sq;omega))
   have z1:c % (((names.map V.str).length:Nat):Int)<names.length:=by
    have:=Int.emod_lt_of_pos c (show (0:Int)<(((names.map V.str).length:Nat):Int) by rw [List.length_map];(clear aK oa mT en bB bK ed bZ k1 k2 sq sf hC z0 m1 m2 n1 e1;omega))
    simpa using this
   obtain⟨y,hy⟩:∃y,names[(c % (((names.map V.str).length:Nat):Int)).toNat]? = some y:=⟨_,List.getElem?_eq_getElem (by (clear aK oa mT en bB bK ed bZ k1 k2 m1 m2 n1 e1 len sq sf hC;lia))⟩
   refine eS ⟨_,aC (S1 _ _ en),by rw [List.length_map];(clear aK oa mT en bB bK ed bZ k1 k2 m1 hC z0 z1 hy m2 n1 e1 sf sq;omega),_,aC (S1 _ _ en),.str y,gX z0 (by rw [List.getElem?_map,hy];rfl),_,aC (S1 _ _ en),⟨by rw [List.length_map];(clear aK oa mT en bB bK ed bZ k1 k2 m1 hC z0 z1 hy m2 n1 e1 sf sq;omega),by rw [List.length_map];(clear m2 n1 e1 len sq sf hC z0 z1 hy ed bZ k1 k2 m1 aK oa mT en bB;omega)⟩,by (clear m2 n1 e1 len sq sf hC z0 z1 hy aK oa mT en bB bK k2 m1 ed bZ;omega),by decide,aI.mk fun p2 H2 S2 n2 e2=>?_⟩
   exact q (.take y _) _ H2 (S1.trans S2) (Dt.tup e2 (.cons (bc.mpr rfl) (.cons (bc.mpr rfl) (.cons (aQ.mpr rfl) .nil)))) ⟨List.mem_of_getElem? hy,i3 _ k1⟩
 have nt:decide (word=Str.ofString "take")=false:=decide_eq_false (by rcases hw with rfl|rfl|rfl<;>decide +kernel)
 rw [nt]
 refine d5 ?_
 rw [hC]
 clear hC C nt
 refine gU fun C hC=>?_
 walk_at "rd"
 rcases hw with rfl|hw
 · rw [decide_eq_true rfl]
   obtain⟨y,hy⟩:∃y,deeds[(c % 3).toNat]? = some y:=⟨_,List.getElem?_eq_getElem (by (clear k2 m1 m2 n1 e1 len sq sf hC aK oa mT en bB k1 bK ed;lia))⟩
   refine eS ⟨by decide,_,aC (S1 _ _ ed),.str y,gX (by (clear aK oa mT en bB bK ed bZ k1 k2 m1 m2 n1 e1 len sq sf hC hy;lia)) (by rw [List.getElem?_map,hy];rfl),⟨by decide,by decide⟩,by (clear m1 m2 n1 e1 len sq sf hC hy aK oa mT en bB bK ed bZ k2;omega),.inl ⟨by decide,by decide⟩,⟨by (clear aK oa mT en bB m1 m2 n1 e1 len sq sf hC hy bK ed bZ k2;omega),by (clear m1 m2 n1 e1 len sq sf hC hy aK oa mT en bB bK ed bZ k1;omega)⟩,by (clear m1 m2 n1 e1 len sq sf hC hy aK oa mT en bB bK ed bZ k2;omega),.inl ⟨by decide,by decide⟩,.inl ⟨by (clear m1 m2 n1 e1 len sq sf hC hy aK oa mT en bB bK ed bZ k2;omega),by (clear m1 m2 n1 e1 len sq sf hC hy aK oa mT en bB bK ed bZ k1;omega)⟩,⟨sf,by (clear aK oa mT en bB bK ed bZ k1 k2 m1 m2 n1 e1 len hy hC sf;omega)⟩,by (clear m1 m2 n1 e1 len sq sf hC hy aK oa mT en bB bK ed bZ k2;omega),by decide,aI.mk fun p2 H2 S2 n2 e2=>?_⟩
   exact q (.join y _ _ _) _ H2 (S1.trans S2) (Dt.tup e2 (.cons (bc.mpr rfl) (.cons (bc.mpr rfl) (.cons (aQ.mpr rfl) (.cons (aQ.mpr rfl) (.cons (aQ.mpr rfl) .nil)))))) ⟨List.mem_of_getElem? hy,i3 _ k1,i3 _ k1,i3 _ k1⟩
 have nt:decide (word=Str.ofString "join")=false:=decide_eq_false (by rcases hw with rfl|rfl<;>decide +kernel)
 rw [nt]
 refine d5 ?_
 rw [hC]
 clear hC C nt
 walk_at "rd"
 rcases hw with rfl|rfl
 · rw [decide_eq_true rfl]
   refine eS ⟨by (clear k2 m1 m2 n1 e1 len sq sf aK oa mT en bB bK ed bZ;omega),⟨by (clear k2 m1 m2 n1 e1 len sq sf aK oa mT en bB bK ed bZ;omega),by (clear aK oa mT en bB bK ed bZ k1 len sq sf n1 e1 m2 m1;omega)⟩,by (clear aK oa mT en bB bK ed bZ k1 len sq sf n1 e1 m2 k2;omega),by decide,aI.mk fun p2 H2 S2 n2 e2=>?_⟩
   exact q (.put _ _) _ H2 (S1.trans S2) (Dt.tup e2 (.cons (bc.mpr rfl) (.cons (aQ.mpr rfl) (.cons (aQ.mpr rfl) .nil)))) ⟨i3 _ k1,i3 _ m1⟩
 · rw [decide_eq_false (by decide +kernel)]
   refine d5 ⟨by (clear aK oa mT en bB bK ed bZ k1 len sq sf n1 e1 m2 k2;omega),⟨by (clear aK oa mT en bB bK ed bZ k1 len sq sf n1 e1 m2 k2;omega),by (clear aK oa mT en bB bK ed bZ k1 len sq sf n1 e1 k2 m1;omega)⟩,by (clear k2 m1 m2 n1 e1 len sq sf aK oa mT en bB bK ed bZ;omega),by decide,aI.mk fun p2 H2 S2 n2 e2=>?_⟩
   exact q (.fetch _ _) _ H2 (S1.trans S2) (Dt.tup e2 (.cons (bc.mpr rfl) (.cons (aQ.mpr rfl) (.cons (aQ.mpr rfl) .nil)))) ⟨i3 _ m1,i3 _ k1⟩
theorem wF {x y:Str}{a b:Prop} (h:(x==y)=false) (q:b):if decide (V.str x=V.str y)=true then a else b:=by rw [adz h];exact d5 q
theorem wT {x:Str}{a b:Prop} (q:a):if decide (V.str x=V.str x)=true then a else b:=by rw [RS];exact eS q
theorem getD_map {α β:Type} (g:α→β) (l:List α) (i:Nat) (z:α):(l.map g).getD i (g z)=g (l.getD i z):=by
 rw [List.getD_eq_getElem?_getD,List.getD_eq_getElem?_getD,List.getElem?_map]
 cases l[i]? <;> rfl
theorem C5 {x:D} (hx:x.nl=true):∀(B:List D) (n:Nat),D.oO B=true→D.oO (B.set n x)=true
 | [],_,h=>h
 | b::B,0,h=>by
  simp only [D.oO,Bool.and_eq_true,List.set_cons_zero] at h ⊢
  exact⟨hx,h.2⟩
 | b::B,n+1,h=>by
  simp only [D.oO,Bool.and_eq_true,List.set_cons_succ] at h ⊢
  exact⟨h.1,C5 hx B n h.2⟩
noncomputable def Ox:Sp:=fun vs H Q _=>∃(d:L2.au) (v:V),vs=[v]∧Dt H (cF d) v∧∀p H',av H H'→H' p=some (.lst (d.bn.map V.int))→Q (.ref p) H'
seal lg PS PE PT PA PI eT in
theorem Ka (T:Txt K mg):bz P w K mg base CX0 1 T.jw T.je ["deed"] Ox:=by
 refine T.nN.ok (k:=0) lj (fun vs H Q E h=>?_) (fun bJ A outer s H vs Q E hr h=>?_)
 · obtain⟨d,v,rfl,_⟩:=h
   rfl
 obtain⟨d,v,rfl,hd,q⟩:=h
 obtain⟨a,rfl,ea⟩:=gr hd
 have nd:=lj.nd
 refine⟨_,(ah (aU (aF br (ar bj (pv 0) ae (fun _ _=>rfl)) aD (aJ _)) (aj (aE (bb (aa (ar bj (pv 0) ae (fun _ _=>rfl)) (aa (ar bj (pv 0) ae (fun _ _=>rfl)) (aa (ar bj (pv 0) ae (fun _ _=>rfl)) af)))))) aH)
  (ah (aU (aF br (ar bj (pv 0) ae (fun _ _=>rfl)) aD (aJ _)) (aj (aE (bb (aa (ar bj (pv 0) ae (fun _ _=>rfl)) af)))) aH)
  (aj (aE (bb (aa (ar bj (pv 0) ae (fun _ _=>rfl)) af)))))),?_⟩
 walk_at "rd"
 cases d
 all_goals simp only [bP] at ea
 all_goals refine⟨_,ak ea,_,aP,rfl,?_⟩
 · exact wF Pp ⟨_,ak ea,_,aP,rfl,wF Ks ⟨_,ak ea,_,dH,by decide,aI.mk fun p H' S n e=>q p H' S e⟩⟩
 · exact wT ⟨_,ak ea,_,dH,_,ak ea,_,gW,_,ak ea,_,Aq,by decide,aI.mk fun p H' S n e=>q p H' S e⟩
 · exact wF Nd ⟨_,ak ea,_,aP,rfl,wT ⟨_,ak ea,_,bD,by decide,aI.mk fun p H' S n e=>q p H' S e⟩⟩
 · exact wF MV ⟨_,ak ea,_,aP,rfl,wF Hl ⟨_,ak ea,_,dH,by decide,aI.mk fun p H' S n e=>q p H' S e⟩⟩
noncomputable def Iv:Sp:=fun vs H Q _=>∃(d:L2.au) (v:V),vs=[v]∧Dt H (cF d) v∧∀p H',av H H'→H' p=some (.lst (d.sn.map V.int))→Q (.ref p) H'
seal lg PS PE PT PA PI eT in
theorem Ey (T:Txt K mg):bz P w K mg base CX0 1 T.gI T.gO ["deed"] Iv:=by
 refine T.kS.ok (k:=0) jV (fun vs H Q E h=>?_) (fun bJ A outer s H vs Q E hr h=>?_)
 · obtain⟨d,v,rfl,_⟩:=h
   rfl
 obtain⟨d,v,rfl,hd,q⟩:=h
 obtain⟨a,rfl,ea⟩:=gr hd
 have nd:=jV.nd
 refine⟨_,(ah (aU (aF br (ar bj (pv 0) ae (fun _ _=>rfl)) aD (aJ _)) (aj (aE (bb (aa (ar bj (pv 0) ae (fun _ _=>rfl)) af)))) aH)
  (ah (aU (aF br (ar bj (pv 0) ae (fun _ _=>rfl)) aD (aJ _)) (aj (aE (bb (aa (ar bj (pv 0) ae (fun _ _=>rfl)) af)))) aH)
  (aj (aE (bb af))))),?_⟩
 walk_at "rd"
 cases d
 all_goals simp only [bP] at ea
 all_goals refine⟨_,ak ea,_,aP,rfl,?_⟩
 · exact wF Ks ⟨_,ak ea,_,aP,rfl,wF Qd ⟨by decide,aI.mk fun p H' S n e=>q p H' S e⟩⟩
 · exact wF Of ⟨_,ak ea,_,aP,rfl,wF RX ⟨by decide,aI.mk fun p H' S n e=>q p H' S e⟩⟩
 · exact wT ⟨_,ak ea,_,dH,by decide,aI.mk fun p H' S n e=>q p H' S e⟩
 · exact wF Hl ⟨_,ak ea,_,aP,rfl,wT ⟨_,ak ea,_,bD,by decide,aI.mk fun p H' S n e=>q p H' S e⟩⟩
noncomputable def MX:Sp:=fun vs H Q _=>∃(d:L2.au) (v:V) (p:Addr) (is:List Int) (n:Int),vs=[v,.ref p,.int n]∧Dt H (cF d) v∧H p=some (.lst (is.map V.int))∧(∀i∈is,M.tO n i)∧Q .non H
seal lg PS PE PT PA PI eT in
theorem Jy (T:Txt K mg):bz P w K mg base CX0 1 T.gR T.gJ ["deed","asked","there"] MX:=by
 refine T.gN.ok (k:=0) jD (fun vs H Q E h=>?_) (fun bJ A outer s H vs Q E hr h=>?_)
 · obtain⟨d,v,p,is,n,rfl,_⟩:=h
   rfl
 obtain⟨d,v,p,is,n,rfl,hd,ep,hin,q⟩:=h
 obtain⟨a,rfl,ea⟩:=gr hd
 have nd:=jD.nd
 refine⟨_,(aj (gL PassesOwn.never rfl (wb (pv 1)) (bG (i:=3) nd rfl (Or.inl rfl)) (aj (aU (mB (zR wm zb ae (pv 3) (pv 2))) (aj dh) aH)))),?_⟩
 walk_at "rd"
 obtain⟨Pv,fu⟩:∃Pv:Nat→St→Hp→Prop,∀i σ H',Pv i σ H'↔H'=H∧∃o3:Option V,σ=[some (.ref a),some (.ref p),some (.int n),o3]:=⟨_,fun _ _ _=>Iff.rfl⟩
 refine WalkL.Df ep Pv ((fu _ _ _).mpr ⟨rfl,none,rfl⟩) (fun i σ H' _ h=>((fu _ _ _).mp h).1▸ep) ?_ ?_
 · intro i y σ H' ey h
   obtain⟨rfl,o3,rfl⟩:=(fu _ _ _).mp h
   obtain⟨z,hz,rfl⟩:∃z,z∈is∧V.int z=y:=List.mem_map.mp (List.mem_of_getElem? ey)
   obtain⟨z1,z2⟩:=hin z hz
   walk_at "rd"
   rw [decide_eq_true z1]
   refine eS ?_
   rw [decide_eq_true z2]
   exact d5 ((fu _ _ _).mpr ⟨rfl,_,rfl⟩)
 · intro σ H' h
   obtain⟨rfl,o3,rfl⟩:=(fu _ _ _).mp h
   walk_at "rd"
   exact q
noncomputable def Ry:Sp:=fun vs H Q _=>∃(d:L2.au) (B S:List D) (v u:V),vs=[v,u]∧Dt H (cF d) v∧Dt H (.tup [.lst B,.lst S]) u∧d.ok B.length S.length∧∀H',av H H'→Q .non H'
seal lg PS PE PT PA PI eT in
theorem Ow (T:Txt K mg):bz P w K mg base CX0 2 T.kA T.j0 ["deed","state"] Ry:=by
 refine T.pV.ok (k:=1) nZ (fun vs H Q E h=>?_) (fun bJ A outer s H vs Q E hr h=>?_)
 · obtain⟨d,B,S,v,u,rfl,_⟩:=h
   rfl
 obtain⟨d,B,S,v,u,rfl,hd,hu,ok,q⟩:=h
 obtain⟨p,b,s',vs,us,rfl,ep,eb,es,db,ds⟩:=AB hu
 have nd:=nZ.nd
 have vp:=Ka (P:=P) (w:=w) (base:=base) T
 have sE:=Ey (P:=P) (w:=w) (base:=base) T
 have kN:=Jy (P:=P) (w:=w) (base:=base) T
 refine⟨_,(ah (fN (ao kN hr rfl T.kQ T.gN.kp T.kW .nil aA (aa (pv 0) (aa (ao vp hr rfl T.vo T.nN.kp T.vv .nil aA (aa (pv 0) af)) (aa (aO kz rfl T.cJ bM (aa (ar bj (pv 1) ae (fun _ _=>rfl)) af)) af)))))
  (aj (fN (ao kN hr rfl T.kQ T.gN.kp T.kW .nil aA (aa (pv 0) (aa (ao sE hr rfl T.sx T.kS.kp T.so .nil aA (aa (pv 0) af)) (aa (aO kz rfl T.cJ bM (aa (ar bj (pv 1) ae (fun _ _=>rfl)) af)) af))))))),?_⟩
 walk_at "rd"
 refine⟨d,v,rfl,hd,fun p1 H1 S1 e1=>?_⟩
 try (walk_at "rd")
 have lb:=db.length
 have ls:=ds.length
 refine⟨_,ak (S1 _ _ ep),_,aP,_,rfl,_,aC (S1 _ _ eb),?_⟩
 refine⟨d,v,p1,d.bn,(B.length:Int),by rw [lb],hd.same S1,e1,ok.1,?_⟩
 refine⟨d,v,rfl,hd.same S1,fun p2 H2 S2 e2=>?_⟩
 have S02:=S1.trans S2
 refine⟨_,ak (S02 _ _ ep),_,bD,_,rfl,_,aC (S02 _ _ es),?_⟩
 exact⟨d,v,p2,d.sn,(S.length:Int),by rw [ls],hd.same S02,e2,ok.2,q H2 S02⟩
noncomputable def Jf:Sp:=fun vs H Q _=>∃(d:L2.au) (B S:List D) (v u:V),vs=[v,u]∧Dt H (cF d) v∧Dt H (.tup [.lst B,.lst S]) u∧d.ok B.length S.length∧(match d with | .put _ _=>True | .fetch _ _=>True|_=>False)∧∀x,Dt H (d.val D.non (fun _=>.non) (fun _ _ _=>.non) (B,S)) x→Q x H
seal lg PS PE PT PA PI eT in
theorem Hh (T:Txt K mg):bz P w K mg base CX0 1 T.jA T.jz ["deed","state"] Jf:=by
 refine T.nQ.ok (k:=0) mP (fun vs H Q E h=>?_) (fun bJ A outer s H vs Q E hr h=>?_)
 · obtain⟨d,B,S,v,u,rfl,_⟩:=h
   rfl
 obtain⟨d,B,S,v,u,rfl,hd,hu,ok,hm,q⟩:=h
 obtain⟨a,rfl,ea⟩:=gr hd
 obtain⟨p,b,s',vs,us,rfl,ep,eb,es,db,ds⟩:=AB hu
 have nd:=mP.nd
 refine⟨_,(ah (aU (aF br (ar bj (pv 0) ae (fun _ _=>rfl)) aD (aJ _)) (aj (aE (ar bj (ar bj (pv 1) ae (fun _ _=>rfl)) (ar bj (pv 0) ae (fun _ _=>rfl)) (fun _ _=>rfl)))) aH)
  (aj (aE (ar bj (ar bj (pv 1) ae (fun _ _=>rfl)) (ar bj (pv 0) ae (fun _ _=>rfl)) (fun _ _=>rfl))))),?_⟩
 walk_at "rd"
 cases d with
 | take=>exact hm.elim
 | join=>exact hm.elim
 | put i j=>
  obtain⟨y,hy,dy⟩:=getD_at db (ok.1 i (by simp [M.au.bn]))
  refine⟨_,ak ea,_,aP,rfl,wT ?_⟩
  exact⟨_,ak ep,_,aP,_,ak ea,_,bD,b,rfl,vs,i,rfl,aC eb,y,hy,q y dy⟩
 | fetch j i=>
  obtain⟨y,hy,dy⟩:=getD_at ds (ok.2 j (by simp [M.au.sn]))
  exact⟨_,ak ea,_,aP,rfl,wF Hl ⟨_,ak ep,_,bD,_,ak ea,_,bD,s',rfl,us,j,rfl,aC es,y,hy,q y dy⟩⟩
noncomputable def GP:Sp:=fun vs H Q _=>∃(d:L2.au) (B S:List D) (x:D) (v u y:V),vs=[v,u,y]∧Dt H (cF d) v∧Dt H (.tup [.lst B,.lst S]) u∧d.ok B.length S.length∧D.oO B=true∧D.oO S=true∧x.nl=true∧Dt H x y∧E1 H (d.set x (B,S)) Q
seal lg PS PE PT PA PI eT in
theorem E5 (T:Txt K mg):bz P w K mg base CX0 1 T.iP T.iD ["deed","state","value"] GP:=by
 refine T.ml.ok (k:=0) kP (fun vs H Q E h=>?_) (fun bJ A outer s H vs Q E hr h=>?_)
 · obtain⟨d,B,S,x,v,u,y,rfl,_⟩:=h
   rfl
 obtain⟨d,B,S,x,v,u,y,rfl,hd,hu,ok,nB,nS,nx,hy,q⟩:=h
 obtain⟨a,rfl,ea⟩:=gr hd
 obtain⟨p,b,s',vs,us,rfl,ep,eb,es,db,ds⟩:=AB hu
 have nd:=kP.nd
 refine⟨_,(ah (aw (i:=3) nd rfl (Or.inl rfl) (bL kH rfl T.yH sN (aa (ar bj (pv 1) ae (fun _ _=>rfl)) af)))
  (ah (aw (i:=4) nd rfl (Or.inl rfl) (bL kH rfl T.yH sN (aa (ar bj (pv 1) ae (fun _ _=>rfl)) af)))
  (ah (aU (aF br (ar bj (pv 0) ae (fun _ _=>rfl)) aD (aJ _)) (aj (gh (pv 2) (gH (pv 4) (ar bj (pv 0) (Ae tX ae) (fun _ _=>rfl)) set_list))) (aj (gh (pv 2) (gH (pv 3) (ar bj (pv 0) (Ae tX ae) (fun _ _=>rfl)) set_list))))
  (aj (aE (aV (aa (pv 3) (aa (pv 4) af)))))))),?_⟩
 walk_at "rd"
 refine⟨_,ak ep,_,aP,_,rfl,_,aC eb,aI.mk fun p1 H1 S1 n1 e1=>?_⟩
 refine⟨_,ak (S1 _ _ ep),_,bD,_,rfl,_,aC (S1 _ _ es),aI.mk fun p2 H2 S2 n2 e2=>?_⟩
 have S12:=S1.trans S2
 have jH:=S12 _ _ ea
 have put:∀(l:Addr) (X:List D) (zs:List V) (i:Int),M.tO X.length i→H2 l=some (.lst zs)→aR H X zs→D.oO X=true→H l=none→∀R:Hp→Prop,(∀H3,av H H3→H3 l=some (.lst (zs.set i.toNat y))→aR H3 (X.set i.toNat x) (zs.set i.toNat y)→(∀c,c≠l→H3 c=H2 c)→R H3)→
  ∃p,V.ref l=V.ref p∧∃xs k,V.int i=V.int k∧H2 p=some (.lst xs)∧∃j,DG xs.length k=some j∧gF H2 p (.lst (xs.set j y)) R:=by
  intro l X zs i hi el dz nX nl R hR
  have ll:=dz.length
  refine⟨l,rfl,zs,i,rfl,el,_,kg hi.1 (by have:=hi.2;omega),gF.mk fun H3 k3 e3=>hR H3 (av.hI S12 nl k3) e3 ?_ k3⟩
  exact(aR.set (hy.same S12) i.toNat (dz.same S12)).qg el k3 (C5 nx _ _ nX)
 have sD:p1≠p2:=aL e1 n2
 cases d
 all_goals
  simp only [bP] at jH
  refine⟨_,ak jH,_,aP,rfl,?_⟩
 · exact wF Ks ⟨_,ak jH,_,rfl,put p1 B vs _ (ok.1 _ (by simp [M.au.bn])) (S2 _ _ e1) db nB n1 _ fun H3 S3 e3 D3 k3=>⟨by decide,aI.mk fun p4 H4 S4 n4 e4=>q p4 p1 p2 _ _ H4 (S3.trans S4) e4 n1 (S1.free n2) sD (S4 _ _ e3) (S4 _ _ (by rw [k3 _ sD.symm];exact e2)) (D3.same S4) (ds.same (S3.trans S4))⟩⟩
 · exact wF Of ⟨_,ak jH,_,rfl,put p1 B vs _ (ok.1 _ (by simp [M.au.bn])) (S2 _ _ e1) db nB n1 _ fun H3 S3 e3 D3 k3=>⟨by decide,aI.mk fun p4 H4 S4 n4 e4=>q p4 p1 p2 _ _ H4 (S3.trans S4) e4 n1 (S1.free n2) sD (S4 _ _ e3) (S4 _ _ (by rw [k3 _ sD.symm];exact e2)) (D3.same S4) (ds.same (S3.trans S4))⟩⟩
 · exact wT ⟨_,ak jH,_,rfl,put p2 S us _ (ok.2 _ (by simp [M.au.sn])) e2 ds nS (S1.free n2) _ fun H3 S3 e3 D3 k3=>⟨by decide,aI.mk fun p4 H4 S4 n4 e4=>q p4 p1 p2 _ _ H4 (S3.trans S4) e4 n1 (S1.free n2) sD (S4 _ _ (by rw [k3 _ sD];exact S2 _ _ e1)) (S4 _ _ e3) (db.same (S3.trans S4)) (D3.same S4)⟩⟩
 · exact wF Hl ⟨_,ak jH,_,rfl,put p1 B vs _ (ok.1 _ (by simp [M.au.bn])) (S2 _ _ e1) db nB n1 _ fun H3 S3 e3 D3 k3=>⟨by decide,aI.mk fun p4 H4 S4 n4 e4=>q p4 p1 p2 _ _ H4 (S3.trans S4) e4 n1 (S1.free n2) sD (S4 _ _ e3) (S4 _ _ (by rw [k3 _ sD.symm];exact e2)) (D3.same S4) (ds.same (S3.trans S4))⟩⟩
theorem zJ (x:Str) {l:List (List Nat×L2.Tree)}{n:Nat}{q:List Nat×L2.Tree} (e:l[n]? = some q):M.lastOf x (l.take (n+1))=if q.2.eR=true∧q.2.name=x then some q.1 else M.lastOf x (l.take n):=by
 unfold M.lastOf
 rw [List.take_add_one,e,List.foldl_append];rfl
theorem yJ (f:Str) (a b:Option (List Nat)) {l:List (List Nat×L2.Tree)}{n:Nat}{q:List Nat×L2.Tree} (e:l[n]? = some q):M.pP f a b (l.take (n+1))=if q.2.eR=false∧q.2.name=f∧a=some (q.1++[0])∧b=some (q.1++[1]) then some q.1 else M.pP f a b (l.take n):=by
 unfold M.pP
 rw [List.take_add_one,e,List.foldl_append];rfl
noncomputable def Kh:Sp:=fun vs H Q _=>∃(t:L2.Tree) (d:L2.au) (st:List (Option (List Nat))×List (Option (List Nat))) (pp:Addr) (ps:List V) (vd:V) (b s:Addr) (ws us:List V),vs=[.ref pp,vd,.ref b,.ref s]∧t.lv.Nodup∧t.dp≤24∧t.lv.length≤32∧
 H pp=some (.lst ps)∧aR H ((t.wk []).map dK) ps∧Dt H (cF d) vd∧H b=some (.lst ws)∧H s=some (.lst us)∧aR H (st.1.map dO) ws∧aR H (st.2.map dO) us∧d.ok st.1.length st.2.length∧E1 H ((M.mark t st d).1.map dO,(M.mark t st d).2.map dO) Q
theorem HI (T:Txt K mg):bz P w K mg base CX0 1 T.jy T.jx ["parts","deed","boxes","shelf"] Kh:=by
 refine T.oh.ok (k:=0) mK (fun vs H Q E h=>?_) (fun bJ A outer s H vs Q E hr h=>?_)
 · obtain⟨t,d,st,pp,ps,vd,b,s,ws,us,rfl,_⟩:=h
   rfl
 obtain⟨t,d,st,pp,ps,vd,b,s',ws,us,rfl,nodup,bf,bA,vO,qa,hd,eb,es,db,ds,ok,q⟩:=h
 obtain⟨a,rfl,ea⟩:=gr hd
 have nd:=mK.nd
 refine⟨_,(ah (aw (i:=2) nd rfl (Or.inl rfl) (bL kH rfl T.yH sN (aa (pv 2) af)))
  (ah (aw (i:=3) nd rfl (Or.inl rfl) (bL kH rfl T.yH sN (aa (pv 3) af)))
  (ah (aU (aF br (ar bj (pv 1) ae (fun _ _=>rfl)) aD (aJ _)) (ah (gh jb (gH (pv 2) (ar bj (pv 1) ae (fun _ _=>rfl)) set_list))
    (aj (gL PassesOwn.never rfl (wb (pv 0)) (ur rfl (dg (bG (i:=4) nd rfl (Or.inl rfl)) (dg (bG (i:=5) nd rfl (Or.inl rfl)) (dg (bG (i:=6) nd rfl (Or.inl rfl)) ph)))) (aj (aU (PW.pt (gM (mB (cL (pv 6))) (fI (aF (xg hr) (pv 5) (ar bj (pv 1) ae (fun _ _=>rfl)) (aJ _))))) (aj (gh (pv 4) (gH (pv 2) (ar bj (pv 1) ae (fun _ _=>rfl)) set_list))) aH))))) aH)
  (ah (aU (aF br (ar bj (pv 1) ae (fun _ _=>rfl)) aD (aJ _)) (ah (aw (i:=7) nd rfl (Or.inl rfl) jb)
    (ah (gL PassesOwn.never rfl (wb (pv 0)) (ur rfl (dg (bG (i:=4) nd rfl (Or.inl rfl)) (dg (bG (i:=5) nd rfl (Or.inl rfl)) (dg (bG (i:=6) nd rfl (Or.inl rfl)) ph)))) (ah (aw (i:=8) nd rfl (Or.inl rfl) (aV (aa (ar bj (pv 2) (ar bj (pv 1) ae (fun _ _=>rfl)) (fun _ _=>rfl)) (aa (ar bj (pv 2) (ar bj (pv 1) ae (fun _ _=>rfl)) (fun _ _=>rfl)) af))))
      (aj (aU (PW.pt (gM (cL (pv 6)) (gM (aF (xg hr) (pv 5) (ar bj (pv 1) ae (fun _ _=>rfl)) (aJ _)) (fI (aF (xg hr) (pv 8) (aV (aa (aq gn (pv 4) (aV (aa ae af))) (aa (aq gn (pv 4) (aV (aa ae af))) af))) (aJ _)))))) (aj (aw (i:=7) nd rfl (Or.inl rfl) (pv 4))) aH))))
    (aj (gh (pv 7) (gH (pv 2) (ar bj (pv 1) ae (fun _ _=>rfl)) set_list))))) aH)
  (ah (aU (aF br (ar bj (pv 1) ae (fun _ _=>rfl)) aD (aJ _)) (aj (gh (ar bj (pv 2) (ar bj (pv 1) ae (fun _ _=>rfl)) (fun _ _=>rfl)) (gH (pv 3) (ar bj (pv 1) ae (fun _ _=>rfl)) set_list))) aH)
  (ah (aU (aF br (ar bj (pv 1) ae (fun _ _=>rfl)) aD (aJ _)) (aj (gh (ar bj (pv 3) (ar bj (pv 1) ae (fun _ _=>rfl)) (fun _ _=>rfl)) (gH (pv 2) (ar bj (pv 1) ae (fun _ _=>rfl)) set_list))) aH)
  (aj (aE (aV (aa (pv 2) (aa (pv 3) af))))))))))),?_⟩
 walk_at "rd"
 refine⟨_,aC eb,aI.mk fun p1 H1 S1 n1 e1=>⟨_,aC (S1 _ _ es),aI.mk fun p2 H2 S2 n2 e2=>?_⟩⟩
 have S12:=S1.trans S2
 have jH:=S12 _ _ ea
 cases d with
 | take x i=>
  simp only [bP] at jH
  refine⟨_,ak jH,_,aP,rfl,wT ?_⟩
  have hi:=ok.1 i (by simp [M.au.bn])
  have lw:=db.length
  rw [List.length_map] at lw
  refine⟨_,ak jH,_,dH,p1,rfl,ws,i,rfl,S2 _ _ e1,_,kg hi.1 (by have:=hi.2;(clear bf bA vO eb es n1 e1 n2 e2 ea jH;omega)),gF.mk fun H3 k3 e3=>?_⟩
  have Kz:pp≠p1:=aL vO n1
  have Tj:a≠p1:=aL ea n1
  have SW:p2≠p1:=(aL e1 n2).symm
  have Na:H3 pp=some (.lst ps):=by rw [k3 _ Kz];exact S12 _ _ vO
  obtain⟨Pv,fu⟩:∃Pv:Nat→St→Hp→Prop,∀n σ H',Pv n σ H'↔(∀c,c≠p1→H' c=H2 c)∧∃z,H' p1=some (.lst (ws.set i.toNat z))∧Dt H2 (dO (M.lastOf x ((t.wk []).take n))) z∧∃o4 o5 o6:Option V,σ=[some (.ref pp),some (.ref a),some (.ref p1),some (.ref p2),o4,o5,o6,none,none]:=⟨_,fun _ _ _=>Iff.rfl⟩
  refine WalkL.Df Na Pv ((fu _ _ _).mpr ⟨k3,.non,e3,cT.mpr rfl,none,none,none,rfl⟩) (fun n σ H' _ h=>by rw [((fu _ _ _).mp h).1 _ Kz];exact S12 _ _ vO) ?_ ?_
  · intro n y σ H' ey h
    obtain⟨k',z,ez,dz,o4,o5,o6,rfl⟩:=(fu _ _ _).mp h
    have lp:=qa.length
    rw [List.length_map] at lp
    have hn:n<(t.wk []).length:=by have:=(List.getElem?_eq_some_iff.mp ey).1;(clear bf bA vO eb es n1 e1 n2 e2 ea jH lw e3 Kz Tj SW Na ey ez;lia)
    obtain⟨v',kY,sy⟩:=aR.dD qa (List.getElem?_eq_getElem hn)
    rw [ey] at kY;cases kY
    generalize wN:(t.wk [])[n]=q0 at sy
    obtain⟨c,w1,rfl,ec,dw⟩:=Mj sy
    have e0:(t.wk [])[n]? = some q0:=by rw [List.getElem?_eq_getElem hn,wN]
    have Fs:H' c=some (.tup [w1,.str q0.2.name,.bl (wQ q0.2)]):=by rw [k' c (aL ec n1)];exact S12 _ _ ec
    have nU:H' a=some (.tup [.str (Str.ofString "take"),.str x,.int i]):=by rw [k' a Tj];exact jH
    have hs:=zJ x e0
    walk_at "rd"
    refine⟨_,.of Fs,rfl,_,_,rfl,_,_,rfl,_,_,rfl,rfl,_,rfl,cj (fun c1=>⟨_,ak nU,_,bD,_,bc.mpr rfl,_,bc.mpr rfl,Nat.zero_le _,cj (fun c2=>?_) (fun c2=>?_)⟩) (fun c1=>?_)⟩
    · refine⟨_,ak nU,_,dH,_,i,rfl,ez,_,kg hi.1 (by simp;have:=hi.2;(clear bf bA vO eb es n1 e1 n2 Na ez lp hn wN ey ec e0 e3 Kz Tj SW Fs nU hs c1 e2 ea jH c2;omega)),gF.mk fun H5 k5 e5=>(fu _ _ _).mpr ⟨fun c hc=>(k5 c hc).trans (k' c hc),w1,by rw [e5,List.set_set],?_,_,_,_,rfl⟩⟩
      rw [hs,if_pos ⟨by simpa [wQ] using c1,by simpa [D.eq] using c2⟩]
      exact dw.same S12
    · rw [←hs.trans (if_neg fun h=>c2 (by simpa [D.eq] using h.2))] at dz
      exact(fu _ _ _).mpr ⟨k',z,ez,dz,_,_,_,rfl⟩
    · rw [←hs.trans (if_neg fun h=>c1 (by simp [wQ,h.1]))] at dz
      exact(fu _ _ _).mpr ⟨k',z,ez,dz,_,_,_,rfl⟩
  · intro σ H' h
    obtain⟨k',z,ez,dz,o4,o5,o6,rfl⟩:=(fu _ _ _).mp h
    have nU:H' a=some (.tup [.str (Str.ofString "take"),.str x,.int i]):=by rw [k' a Tj];exact jH
    have lp:=qa.length
    rw [List.length_map] at lp
    rw [lp,List.take_length,M.yI nodup] at dz
    have S':av H H':=av.hI S12 n1 k'
    walk_at "rd"
    refine⟨_,ak nU,_,aP,rfl,wF Pp ⟨_,ak nU,_,aP,rfl,wF Ks ⟨_,ak nU,_,aP,rfl,wF Qd ⟨by decide,aI.mk fun p4 H4 S4 n4 e4=>?_⟩⟩⟩⟩
    refine q p4 p1 p2 _ _ H4 (S'.trans S4) e4 n1 (S1.free n2) SW.symm (S4 _ _ ez) (S4 _ _ (by rw [k' _ SW];exact e2)) ?_ (ds.same (S'.trans S4))
    have Vp:Dt H4 (dO (M.firstOf x (t.wk []))) z:=(dz.cZ (fun c xs e=>by rw [k' c (gB e (S2 _ _ e1) (by intro z;cases z))];exact e) (tE _)).same S4
    have:=aR.set Vp i.toNat (db.same (S'.trans S4))
    rw [←List.map_set] at this
    exact this
 | join f i j h=>
  simp only [bP] at jH
  obtain⟨y1,Jz,OJ⟩:=getD_at db (by rw [List.length_map];exact ok.1 i (by simp [M.au.bn]))
  obtain⟨y2,JN,OW⟩:=getD_at db (by rw [List.length_map];exact ok.1 j (by simp [M.au.bn]))
  rw [show D.non=dO none from rfl,getD_map] at OJ OW
  have hh:=ok.1 h (by simp [M.au.bn])
  have lw:=db.length
  rw [List.length_map] at lw
  have sD:p1≠p2:=aL e1 n2
  have uW:H p2=none:=S1.free n2
  refine⟨_,ak jH,_,aP,rfl,wF Rq ⟨_,ak jH,_,aP,rfl,wT ?_⟩⟩
  generalize hA:st.1.getD i.toNat none=oA at OJ
  generalize hB:st.1.getD j.toNat none=oB at OW
  obtain⟨Pv,fu⟩:∃Pv:Nat→St→Hp→Prop,∀n σ H',Pv n σ H'↔av H2 H'∧∃zf,Dt H' (dO (M.pP f oA oB ((t.wk []).take n))) zf∧∃o4 o5 o6 o8:Option V,σ=[some (.ref pp),some (.ref a),some (.ref p1),some (.ref p2),o4,o5,o6,some zf,o8]:=⟨_,fun _ _ _=>Iff.rfl⟩
  refine WalkL.Df (S12 _ _ vO) Pv ((fu _ _ _).mpr ⟨av.refl _,.non,cT.mpr rfl,none,none,none,none,rfl⟩) (fun n σ H' _ h=>((fu _ _ _).mp h).1 _ _ (S12 _ _ vO)) ?_ ?_
  · intro n y σ H' ey g
    obtain⟨S',zf,dz,o4,o5,o6,o8,rfl⟩:=(fu _ _ _).mp g
    have lp:=qa.length
    rw [List.length_map] at lp
    have hn:n<(t.wk []).length:=by have:=(List.getElem?_eq_some_iff.mp ey).1;(clear bf bA vO eb es n1 e1 n2 e2 ea jH Jz JN lw sD uW hA hB ey;lia)
    obtain⟨v',kY,sy⟩:=aR.dD qa (List.getElem?_eq_getElem hn)
    rw [ey] at kY;cases kY
    generalize wN:(t.wk [])[n]=q0 at sy
    obtain⟨c,w1,rfl,ec,dw⟩:=Mj sy
    obtain⟨cw,rfl,OK⟩:=uG dw
    have e0:(t.wk [])[n]? = some q0:=by rw [List.getElem?_eq_getElem hn,wN]
    have S0':=S12.trans S'
    have Fs:=S0' _ _ ec
    have nU:=S' _ _ jH
    have hs:=yJ f oA oB e0
    walk_at "rd"
    refine⟨_,.of Fs,rfl,_,_,rfl,_,_,rfl,_,_,rfl,rfl,_,ak nU,_,dH,_,i,rfl,aC (S' _ _ (S2 _ _ e1)),y1,Jz,_,ak nU,_,gW,_,j,rfl,aC (S' _ _ (S2 _ _ e1)),y2,JN,by decide,aI.mk fun p4 H4 S4 n4 e4=>?_⟩
    refine⟨_,rfl,?_⟩
    have q0l:q0.1.length≤24:=by
     have:=M.Tr.xo t [] _ _ (List.mem_of_getElem? e0)
     simp at this;(clear e2 ea jH Jz JN lw sD uW hA hB lp hn wN ey OK ec es n1 e1 n2 e0 Fs nU hs vO eb n4 e4 bA;lia)
    refine cj (fun c1=>⟨_,ak (S4 _ _ nU),_,bD,_,bc.mpr rfl,_,bc.mpr rfl,Nat.zero_le _,cj (fun c2=>?_) (fun c2=>?_)⟩) (fun c1=>?_)
    · refine⟨by decide,aI.mk fun p5 H5 S5 n5 e5=>⟨cw,rfl,_,rfl,_,S5 _ _ (S4 _ _ (S0' _ _ OK)),_,e5,aN (by simp [vP];(clear bf bA vO eb es n1 e1 n2 e2 ea jH Jz JN lw sD uW hA hB lp hn wN ey OK ec e0 Fs nU c2 n5 e5 hs n4 e4 c1;lia)),fun p6 H6 S6 e6=>⟨by decide,aI.mk fun p7 H7 S7 n7 e7=>⟨cw,rfl,_,rfl,_,S7 _ _ (S6 _ _ (S5 _ _ (S4 _ _ (S0' _ _ OK)))),_,e7,aN (by simp [vP];(clear bf bA vO eb es n1 e1 n2 e2 ea jH Jz JN lw sD uW hA hB lp hn wN ey OK ec e0 Fs nU hs n4 e5 e6 n7 e7 c2 n5 c1 e4;lia)),fun p8 H8 S8 e8=>?_⟩⟩⟩⟩
      have S48:=((S5.trans S6).trans S7).trans S8
      have S08:=(S0'.trans S4).trans S48
      have d6:Dt H8 (dO (some (q0.1++[0]))) (.ref p6):=gz (by rw [S8 _ _ (S7 _ _ e6)];simp [vP])
      have d8:Dt H8 (dO (some (q0.1++[1]))) (.ref p8):=gz (by rw [e8];simp [vP])
      refine⟨by decide,aI.mk fun p9 H9 S9 n9 e9=>⟨.tup [dO oA,dO oB],Dt.tup (S9 _ _ (S48 _ _ e4)) (.cons ((OJ.same S08).same S9) (.cons ((OW.same S08).same S9) .nil)),.tup [dO (some (q0.1++[0])),dO (some (q0.1++[1]))],Dt.tup e9 (.cons (d6.same S9) (.cons (d8.same S9) .nil)),?_,cj (fun c3=>?_) (fun c3=>?_)⟩⟩
      · have:=vT oA
        have:=vT oB
        simp only [D.dp,D.qa];(clear bf bA vO eb es n1 e1 n2 e2 ea jH Jz JN lw sD uW hA hB lp hn wN ey OK ec e0 Fs nU hs n4 e4 q0l c1 c2 n5 e5 e6 n7 e7 e8 n9 e9;lia)
      · have c3:=(D.eq_iff (by simp [D.cl,D.cls,wH]) (by simp [D.cl,D.cls,wH])).mp c3
        simp only [D.tup.injEq,List.cons.injEq,and_true] at c3
        have hp:=hs.trans (if_pos ⟨by simpa [wQ] using c1,by simpa [D.eq] using c2,B5 c3.1,B5 c3.2⟩)
        refine (fu _ _ _).mpr ⟨((S'.trans S4).trans S48).trans S9,.ref cw,?_,_,_,_,_,rfl⟩
        rw [hp]
        exact(dw.same S08).same S9
      · have c3:¬(oA=some (q0.1++[0])∧oB=some (q0.1++[1])):=fun z=>c3 ((D.eq_iff (by simp [D.cl,D.cls,wH]) (by simp [D.cl,D.cls,wH])).mpr (by rw [z.1,z.2]))
        rw [←hs.trans (if_neg fun h=>c3 h.2.2)] at dz
        exact(fu _ _ _).mpr ⟨((S'.trans S4).trans S48).trans S9,zf,((dz.same S4).same S48).same S9,_,_,_,_,rfl⟩
    · rw [←hs.trans (if_neg fun h=>c2 (by simpa [D.eq] using h.2.1))] at dz
      exact(fu _ _ _).mpr ⟨S'.trans S4,zf,dz.same S4,_,_,_,_,rfl⟩
    · rw [←hs.trans (if_neg fun h=>c1 (by simp [wQ,h.1]))] at dz
      exact(fu _ _ _).mpr ⟨S'.trans S4,zf,dz.same S4,_,_,_,_,rfl⟩
  · intro σ H' g
    obtain⟨S',zf,dz,o4,o5,o6,o8,rfl⟩:=(fu _ _ _).mp g
    have lp:=qa.length
    rw [List.length_map] at lp
    rw [lp,List.take_length,M.xF] at dz
    have nU:=S' _ _ jH
    have Qa:=S' _ _ (S2 _ _ e1)
    walk_at "rd"
    refine⟨_,ak nU,_,Aq,_,h,rfl,Qa,_,kg hh.1 (by have:=hh.2;(clear bf bA vO eb es n1 e1 n2 e2 ea jH sD uW hA hB lp nU Jz JN Qa;omega)),gF.mk fun H5 k5 e5=>?_⟩
    have S5:av H H5:=av.hI (S12.trans S') n1 k5
    have Zj:=S5 _ _ ea
    simp only [bP] at Zj
    refine⟨_,ak Zj,_,aP,rfl,wF Of ⟨_,ak Zj,_,aP,rfl,wF RX ⟨by decide,aI.mk fun p4 H4 S4 n4 e4=>?_⟩⟩⟩
    refine q p4 p1 p2 _ _ H4 (S5.trans S4) e4 n1 uW sD (S4 _ _ e5) (S4 _ _ (by rw [k5 _ sD.symm];exact S' _ _ e2)) ?_ (ds.same (S5.trans S4))
    have Vp:Dt H4 (dO (M.over t f oA oB)) zf:=(dz.cZ (fun c xs e=>by rw [k5 c (gB e Qa (by intro z;cases z))];exact e) (tE _)).same S4
    have:=aR.set Vp h.toNat (db.same (S5.trans S4))
    rw [←List.map_set,←hA,←hB] at this
    exact this
 | put i j=>
  simp only [bP] at jH
  obtain⟨y,hy,dy⟩:=getD_at db (by rw [List.length_map];exact ok.1 i (by simp [M.au.bn]))
  have hj:=ok.2 j (by simp [M.au.sn])
  have lu:=ds.length
  rw [List.length_map] at lu
  have sD:p1≠p2:=aL e1 n2
  have uW:H p2=none:=S1.free n2
  have CH:a≠p2:=aL ea uW
  refine⟨_,ak jH,_,aP,rfl,wF Rl ⟨_,ak jH,_,aP,rfl,wF Nd ⟨_,ak jH,_,aP,rfl,wT ?_⟩⟩⟩
  refine⟨_,ak jH,_,bD,p1,rfl,_,i,rfl,aC (S2 _ _ e1),y,hy,_,ak jH,_,dH,p2,rfl,_,j,rfl,e2,_,kg hj.1 (by have:=hj.2;(clear bf bA vO eb es n1 e1 n2 e2 ea jH hy uW CH sD;omega)),gF.mk fun H5 k5 e5=>?_⟩
  have S':av H H5:=av.hI S12 uW k5
  refine⟨_,ak (S' _ _ ea),_,aP,rfl,wF Xs ⟨by decide,aI.mk fun p4 H4 S4 n4 e4=>?_⟩⟩
  refine q p4 p1 p2 _ _ H4 (S'.trans S4) e4 n1 uW sD (S4 _ _ (by rw [k5 _ sD];exact S2 _ _ e1)) (S4 _ _ e5) (db.same (S'.trans S4)) ?_
  have:=aR.set (dy.same (S'.trans S4)) j.toNat (ds.same (S'.trans S4))
  rw [show D.non=dO none from rfl,getD_map,←List.map_set] at this
  exact this
 | fetch j i=>
  simp only [bP] at jH
  obtain⟨y,hy,dy⟩:=getD_at ds (by rw [List.length_map];exact ok.2 j (by simp [M.au.sn]))
  have hi:=ok.1 i (by simp [M.au.bn])
  have lw:=db.length
  rw [List.length_map] at lw
  have sD:p1≠p2:=aL e1 n2
  have uW:H p2=none:=S1.free n2
  refine⟨_,ak jH,_,aP,rfl,wF QW ⟨_,ak jH,_,aP,rfl,wF MV ⟨_,ak jH,_,aP,rfl,wF Hl ⟨_,ak jH,_,aP,rfl,wT ?_⟩⟩⟩⟩
  refine⟨_,ak jH,_,bD,p2,rfl,_,j,rfl,aC e2,y,hy,_,ak jH,_,dH,p1,rfl,_,i,rfl,S2 _ _ e1,_,kg hi.1 (by have:=hi.2;(clear bf bA vO eb es n1 e1 n2 e2 ea jH hy sD uW;omega)),gF.mk fun H5 k5 e5=>?_⟩
  have S':av H H5:=av.hI S12 n1 k5
  refine⟨by decide,aI.mk fun p4 H4 S4 n4 e4=>?_⟩
  refine q p4 p1 p2 _ _ H4 (S'.trans S4) e4 n1 uW sD (S4 _ _ e5) (S4 _ _ (by rw [k5 _ sD.symm];exact e2)) ?_ (ds.same (S'.trans S4))
  have:=aR.set (dy.same (S'.trans S4)) i.toNat (db.same (S'.trans S4))
  rw [show D.non=dO none from rfl,getD_map,←List.map_set] at this
  exact this
noncomputable abbrev MS:=List (Option (List Nat))×List (Option (List Nat))
theorem GL (xs:List V):(jj xs none (some (-1))=xs.dropLast)∧(HT.cW xs.length xs.length (some (-1))=xs.length↔xs=[]):=by
 have e:HT.cW xs.length xs.length (some (-1))=xs.length - 1:=by
  show (if (-1:Int)<0 then ((-1:Int)+(xs.length:Int)).toNat else min (-1:Int).toNat xs.length)=_
  rw [if_pos (by decide)];lia
 refine⟨?_,?_⟩
 · unfold jj
   rw [e]
   show (xs.drop 0).take (xs.length - 1 - 0)=_
   rw [List.drop_zero,List.dropLast_eq_take];rfl
 · rw [e]
   cases xs with
   | nil=>simp
   | cons a l=>simp
theorem Dp (p:List Nat):(vP p).dropLast=vP p.dropLast:=by
 unfold vP;rw [List.map_dropLast]
theorem Dc (a b:Option (List Nat)):D.eq (dO a) (dO b)=decide (a=b):=D.Ms (wH a) (wH b) ⟨B5,fun h=>by rw [h]⟩
theorem nG {H:Hp} (d:D) (v:V) (h:Dt H d v):∀n,aR H (List.replicate n d) (List.replicate n v)
 | 0=>.nil
 | n+1=>.cons h (nG d v h n)
theorem vg {β:Type} (x:β) (n:Nat):(List.replicate n [x]).flatten=List.replicate n x:=by
 induction n with
 | zero=>rfl
 | succ n ih=>simp only [List.replicate_succ,List.flatten_cons,ih];rfl
noncomputable def Kn:Sp:=fun vs H Q _=>∃(k m:Nat),vs=[.int k,.int m]∧k≤1000∧m≤1000∧E1 H (List.replicate k .non,List.replicate m .non) Q
seal lg PS PE PT PA PI eT in
theorem GC (T:Txt K mg):bz P w K mg base CX0 1 T.xl T.x8 ["k","many"] Kn:=by
 refine T.Dj.ok (k:=0) yW (fun vs H Q E h=>?_) (fun bJ A outer s H vs Q E hr h=>?_)
 · obtain⟨k,m,rfl,_⟩:=h
   rfl
 obtain⟨k,m,rfl,hk,hm,q⟩:=h
 have nd:=yW.nd
 refine⟨_,(aj (aE (aV (aa (aq ox (bb (aa jb af)) (pv 0)) (aa (aq ox (bb (aa jb af)) (pv 1)) af))))),?_⟩
 walk_at "rd"
 have hn:∀n:Nat,n≤1000→-(2^63)≤(n:Int)∧(n:Int)<2^63∧[V.non].length*(n:Int).toNat≤sizeLine:=fun n h=>⟨by (clear hk hm h;lia),by omega,aN (by simp;lia)⟩
 refine⟨by decide,aI.mk fun p1 H1 S1 n1 e1=>⟨p1,rfl,_,e1,(hn k hk).1,(hn k hk).2.1,(hn k hk).2.2,aI.mk fun p2 H2 S2 n2 e2=>⟨by decide,aI.mk fun p3 H3 S3 n3 e3=>⟨p3,rfl,_,e3,(hn m hm).1,(hn m hm).2.1,(hn m hm).2.2,aI.mk fun p4 H4 S4 n4 e4=>⟨by decide,aI.mk fun p5 H5 S5 n5 e5=>?_⟩⟩⟩⟩⟩
 rw [vg,Int.toNat_natCast] at e2 e4
 have S24:=S3.trans S4
 have S25:=S24.trans S5
 have n4':H2 p4=none:=S3.free n4
 refine q p5 p2 p4 _ _ H5 ((S1.trans S2).trans S25) e5 (S1.free n2) ((S1.trans S2).free n4') (aL e2 n4') (S25 _ _ e2) (S5 _ _ e4) (nG _ _ (cT.mpr rfl) k) (nG _ _ (cT.mpr rfl) m)
noncomputable def MH:Sp:=fun vs H Q _=>∃(t:L2.Tree) (f:Str) (a b:Option (List Nat)) (v va vb:V),vs=[v,.str f,va,vb]∧Dt H (dT t) v∧t.dp≤1000∧M.Gj t a∧Dt H (dO a) va∧Dt H (dO b) vb∧Al H (dO (M.over t f a b)) Q
seal lg PS PE PT PA PI eT in
theorem J8 (T:Txt K mg):bz P w K mg base CX0 2 T.lK T.mG ["tree","f","left","right"] MH:=by
 refine T.r6.ok (k:=1) pX (fun vs H Q E h=>?_) (fun bJ A outer s H vs Q E hr h=>?_)
 · obtain⟨t,f,a,b,v,va,vb,rfl,_⟩:=h
   rfl
 obtain⟨t,f,a,b,v,va,vb,rfl,ht,bf,hv,ha,hb,q⟩:=h
 have nd:=pX.nd
 have d9:=oU (P:=P) (w:=w) (base:=base) T
 refine⟨_,(ah (aU (PW.pt (zu (yQ (GD (pv 2))) (tG (yQ (GD (pv 3)))))) (aj (aE jb)) aH)
  (ah (aw (i:=4) nd rfl (Or.inl rfl) (fO KH (pv 2) m8 (ff (Ae tX ae))))
  (ah (aU (PW.pt (zu (aF (He hr) (pv 2) (aq gn (pv 4) (aV (aa ae af))) (aJ _)) (tG (aF (He hr) (pv 3) (aq gn (pv 4) (aV (aa ae af))) (aJ _))))) (aj (aE jb)) aH)
  (aj (aE (Ig (aF br (ar bj (ao d9 hr rfl T.jG T.ia.kp T.jL .nil aA (aa (pv 0) (aa (pv 4) af))) ae (fun _ _=>rfl)) (pv 1) (aJ _)) (pv 4) jb)))))),?_⟩
 walk_at "rd"
 cases a with
 | none=>
  cases cT.mp ha
  exact eS (q _ _ (av.refl _) (cT.mpr rfl))
 | some p=>
 obtain⟨x1,rfl,Sw⟩:=uG ha
 cases b with
 | none=>
  cases cT.mp hb
  exact d5 (eS (q _ _ (av.refl _) (cT.mpr rfl)))
 | some r=>
 obtain⟨x2,rfl,ex2⟩:=uG hb
 have nJ:=M.Lz (hv p rfl)
 have lvP:∀l:List Nat,(vP l).length=l.length:=fun l=>by simp [vP]
 obtain⟨NZ,Qk⟩:=GL (vP p)
 refine d5 (d5 ⟨x1,rfl,_,Sw,fun h=>?_,fun h=>?_⟩)
 · have OT:p=[]:=by have:=Qk.mp h.2;simpa [vP] using this
   subst OT
   refine⟨by decide,aI.mk fun p1 H1 S1 n1 e1=>⟨_,rfl,_,S1 _ _ Sw,_,e1,aN (by simp [vP]),fun p2 H2 S2 e2=>⟨dO (some []),ha.same (S1.trans S2),dO (some [0]),gz (by rw [e2];simp [vP]),by have:=vT (some []);(clear bf ex2 Sw nJ NZ Qk h n1 e1 e2;lia),?_⟩⟩⟩
   rw [Dc,decide_eq_false (by decide)]
   exact eS (q _ _ (S1.trans S2) (cT.mpr rfl))
 · refine aI.mk fun p0 H0 S0 n0 e0=>⟨by decide,aI.mk fun p1 H1 S1 n1 e1=>⟨p0,rfl,_,rfl,_,S1 _ _ e0,_,e1,aN ?_,fun p2 H2 S2 e2=>⟨dO (some p),ha.same ((S0.trans S1).trans S2),dO (some (p.dropLast++[0])),gz ?_,by have:=vT (some p);lia,?_⟩⟩⟩
   · rw [NZ];simp [vP];lia
   · rw [e2,NZ,Dp];simp [vP]
   rw [NZ,Dp] at e0
   have S02:=(S0.trans S1).trans S2
   have S12:=S1.trans S2
   rw [Dc]
   by_cases c1:some p=some (p.dropLast++[0])
   · rw [decide_eq_true c1]
     have c1:=Option.some.inj c1
     refine d5 ⟨by decide,aI.mk fun p3 H3 S3 n3 e3=>⟨p0,rfl,_,rfl,_,S3 _ _ (S12 _ _ e0),_,e3,aN (by simp [vP];lia),fun p4 H4 S4 e4=>⟨dO (some r),hb.same ((S02.trans S3).trans S4),dO (some (p.dropLast++[1])),gz (by rw [e4];simp [vP]),by have:=vT (some r);(clear bf Sw ex2 nJ NZ Qk h n0 e0 n1 e1 e2 c1 n3 e3 e4;lia),?_⟩⟩⟩
     have S04:=(S02.trans S3).trans S4
     rw [Dc]
     by_cases c2:some r=some (p.dropLast++[1])
     · rw [decide_eq_true c2]
       have c2:=Option.some.inj c2
       obtain⟨s0,hs0,_⟩:=M.xC (hv p rfl)
       rw [c1,M.Tr.xH] at hs0
       obtain⟨u,hu,hu2⟩:=Option.bind_eq_some_iff.mp hs0
       cases u with
       | leaf x=>simp [M.Tr.sub] at hu2
       | knot g l r'=>
       have ep0:H4 p0=some (.tup (vP p.dropLast)):=S4 _ _ (S3 _ _ (S12 _ _ e0))
       refine d5 ⟨t,_,p.dropLast,v,.ref p0,rfl,ht.same S04,gz ep0,hu,fun v' kY=>?_⟩
       obtain⟨a',vl,vr,rfl,nU,vq,vi⟩:=fP kY
       refine⟨a',rfl,_,ak nU,_,bD,?_⟩
       rw [show M.over t f (some p) (some r)=if g=f then some p.dropLast else none from ?_] at q
       · refine⟨rfl,cj (fun c3=>?_) (fun c3=>?_)⟩
         · rw [if_pos (V.str.inj (of_decide_eq_true c3))] at q
           exact q _ _ S04 (gz ep0)
         · rw [if_neg fun z=>c3 (by rw [z];exact decide_eq_true rfl)] at q
           exact q _ _ S04 (cT.mpr rfl)
       · show (if p=p.dropLast++[0]∧r=p.dropLast++[1]∧M.ju t f p.dropLast=true then some p.dropLast else none)=_
         have hk:M.ju t f p.dropLast=decide (g=f):=by unfold M.ju;rw [hu]
         rw [hk]
         by_cases c3:g=f
         · rw [if_pos ⟨c1,c2,decide_eq_true c3⟩,if_pos c3]
         · rw [if_neg fun z=>c3 (of_decide_eq_true z.2.2),if_neg c3]
     · rw [decide_eq_false c2]
       rw [show M.over t f (some p) (some r)=none from if_neg fun z=>c2 (congrArg some z.2.1)] at q
       exact eS (q _ _ S04 (cT.mpr rfl))
   · rw [decide_eq_false c1]
     rw [show M.over t f (some p) (some r)=none from if_neg fun z=>c1 (congrArg some z.1)] at q
     exact eS (q _ _ S02 (cT.mpr rfl))
noncomputable def RM (t:L2.Tree) (d:L2.au) (st:MS):Option (List Nat):=d.val none (fun x=>M.firstOf x (t.wk [])) (M.over t) st
noncomputable def Q5:Sp:=fun vs H Q _=>∃(t:L2.Tree) (d:L2.au) (st:MS) (v vd u:V),vs=[v,vd,u]∧Dt H (dT t) v∧t.dp≤24∧t.lv.length≤32∧Dt H (cF d) vd∧Dt H (.tup [.lst (st.1.map dO),.lst (st.2.map dO)]) u∧d.ok st.1.length st.2.length∧M.au.vt (M.Gj t) st∧Al H (dO (RM t d st)) Q
seal lg PS PE PT PA PI eT in
theorem MK (T:Txt K mg):bz P w K mg base CX0 29 T.iB T.iJ ["tree","deed","state"] Q5:=by
 refine T.mD.ok (k:=28) kU (fun vs H Q E h=>?_) (fun bJ A outer s H vs Q E hr h=>?_)
 · obtain⟨t,d,st,v,vd,u,rfl,_⟩:=h
   rfl
 obtain⟨t,d,st,v,vd,u,rfl,ht,bf,bA,hd,hu,ok,M5,q⟩:=h
 obtain⟨a,rfl,ea⟩:=gr hd
 obtain⟨p,b,s',ws,us,rfl,ep,eb,es,db,ds⟩:=AB hu
 have nd:=kU.nd
 have Bs:=(AO (P:=P) (w:=w) (base:=base) T 24).mono (k:=28) (by omega)
 have Ak:=(J8 (P:=P) (w:=w) (base:=base) T).mono (k:=28) (by omega)
 have vH:=(Hh (P:=P) (w:=w) (base:=base) T).mono (k:=28) (by omega)
 refine⟨_,(ah (aU (aF br (ar bj (pv 1) ae (fun _ _=>rfl)) aD (aJ _)) (aj (aE (ao Bs hr rfl T.BJ T.uQ.kp T.Ba .nil aA (aa (pv 0) (aa (ar bj (pv 1) ae (fun _ _=>rfl)) af))))) aH)
  (ah (aU (aF br (ar bj (pv 1) ae (fun _ _=>rfl)) aD (aJ _)) (aj (aE (ao Ak hr rfl T.zw T.r6.kp T.y8 .nil aA (aa (pv 0) (aa (ar bj (pv 1) ae (fun _ _=>rfl)) (aa (ar bj (ar bj (pv 2) ae (fun _ _=>rfl)) (ar bj (pv 1) ae (fun _ _=>rfl)) (fun _ _=>rfl)) (aa (ar bj (ar bj (pv 2) ae (fun _ _=>rfl)) (ar bj (pv 1) ae (fun _ _=>rfl)) (fun _ _=>rfl)) af))))))) aH)
  (aj (aE (ao vH hr rfl T.vG T.nQ.kp T.vF .nil aA (aa (pv 1) (aa (pv 2) af))))))),?_⟩
 walk_at "rd"
 cases d with
 | take x i=>
  simp only [bP] at ea
  refine⟨_,ak ea,_,aP,rfl,wT ⟨_,ak ea,_,bD,?_⟩⟩
  exact⟨t,x,v,rfl,ht,bf,by lia,fun v' H' S' d'=>q v' H' S' d'⟩
 | join f i j h=>
  simp only [bP] at ea
  obtain⟨y1,Jz,OJ⟩:=getD_at db (by rw [List.length_map];exact ok.1 i (by simp [M.au.bn]))
  obtain⟨y2,JN,OW⟩:=getD_at db (by rw [List.length_map];exact ok.1 j (by simp [M.au.bn]))
  rw [show D.non=dO none from rfl,getD_map] at OJ OW
  refine⟨_,ak ea,_,aP,rfl,wF Rq ⟨_,ak ea,_,aP,rfl,wT ?_⟩⟩
  exact⟨_,ak ea,_,bD,_,ak ep,_,aP,_,ak ea,_,dH,b,rfl,_,i,rfl,aC eb,y1,Jz,_,ak ep,_,aP,_,ak ea,_,gW,b,rfl,_,j,rfl,aC eb,y2,JN,t,f,_,_,v,y1,y2,rfl,ht,by lia,M.au.mJ (C:=M.Gj t) (show M.Gj t none from fun _ z=>nomatch z) M5.1 _,OJ,OW,q⟩
 | put i j=>
  simp only [bP] at ea
  refine⟨_,ak ea,_,aP,rfl,wF Rl ⟨_,ak ea,_,aP,rfl,wF Nd ?_⟩⟩
  refine⟨.put i j,_,_,_,_,rfl,hd,hu,by simpa using ok,trivial,fun x hx=>q x H (av.refl _) ?_⟩
  change Dt H ((st.1.map dO).getD i.toNat D.non) x at hx
  rw [show D.non=dO none from rfl,getD_map] at hx
  exact hx
 | fetch j i=>
  simp only [bP] at ea
  refine⟨_,ak ea,_,aP,rfl,wF QW ⟨_,ak ea,_,aP,rfl,wF MV ?_⟩⟩
  refine⟨.fetch j i,_,_,_,_,rfl,hd,hu,by simpa using ok,trivial,fun x hx=>q x H (av.refl _) ?_⟩
  change Dt H ((st.2.map dO).getD j.toNat D.non) x at hx
  rw [show D.non=dO none from rfl,getD_map] at hx
  exact hx
noncomputable def dS (st:MS):D:=.tup [.lst (st.1.map dO),.lst (st.2.map dO)]
noncomputable def GV:Sp:=fun vs H Q _=>∃(t:L2.Tree) (d:L2.au) (st:MS) (v vd u:V),vs=[v,vd,u]∧Dt H (dT t) v∧t.dp≤24∧t.lv.length≤32∧Dt H (cF d) vd∧Dt H (dS st) u∧M.au.vt (M.Gj t) st∧
 d.ok st.1.length st.2.length∧E1 H ((M.mark t st d).1.map dO,(M.mark t st d).2.map dO) Q
theorem i6 {α:Type} (g:α→D) (hg:∀x,(g x).nl=true):∀l:List α,D.oO (l.map g)=true
 | []=>rfl
 | x::l=>by simp only [List.map_cons,D.oO,hg x,i6 g hg l,Bool.and_self]
seal lg PS PE PT PA PI eT in
theorem Ei (T:Txt K mg):bz P w K mg base CX0 30 T.ux T.tM ["tree","deed","state"] GV:=by
 refine T.zC.ok (k:=29) vS (fun vs H Q E h=>?_) (fun bJ A outer s H vs Q E hr h=>?_)
 · obtain⟨t,d,st,v,vd,u,rfl,_⟩:=h
   rfl
 obtain⟨t,d,st,v,vd,u,rfl,ht,bf,bA,hd,hu,M5,ok,q⟩:=h
 have nd:=vS.nd
 have xK:=(Ow (P:=P) (w:=w) (base:=base) T).mono (k:=29) (by omega)
 have tN:=(MK (P:=P) (w:=w) (base:=base) T).mono (k:=29) (by omega)
 have t5:=(E5 (P:=P) (w:=w) (base:=base) T).mono (k:=29) (by omega)
 refine⟨_,(ah (fN (ao xK hr rfl T.xp T.pV.kp T.yG .nil aA (aa (pv 1) (aa (pv 2) af))))
  (aj (aE (ao t5 hr rfl T.uu T.ml.kp T.vc .nil aA (aa (pv 1) (aa (pv 2) (aa (ao tN hr rfl T.t9 T.mD.kp T.ve .nil aA (aa (pv 0) (aa (pv 1) (aa (pv 2) af)))) af))))))),?_⟩
 walk_at "rd"
 refine⟨d,_,_,vd,u,rfl,hd,hu,by simpa using ok,fun H1 S1=>?_⟩
 refine⟨t,d,st,v,vd,u,rfl,ht.same S1,bf,bA,hd.same S1,hu.same S1,ok,M5,fun x H2 S2 dx=>?_⟩
 have S12:=S1.trans S2
 refine⟨d,_,_,_,vd,u,x,rfl,hd.same S12,hu.same S12,by simpa using ok,i6 _ tE _,i6 _ tE _,tE _,dx,?_⟩
 have e:=M.au.Dy d dO (RM t d st) st
 rw [e]
 intro p b s vs us H' S e n1 n2 ne e1 e2 d1 d2
 exact q p b s vs us H' (S12.trans S) e (S12.free n1) (S12.free n2) ne e1 e2 d1 d2
noncomputable def g9 (t:L2.Tree) (st:MS):List L2.au→List MS
 | []=>[st]
 | d::r=>st::g9 t (M.mark t st d) r
noncomputable def jS (k m:Nat):MS:=(List.replicate k none,List.replicate m none)
noncomputable def Li (k m:Nat) (row:List L2.au):Prop:=∀d∈row,d.ok k m
noncomputable def acy (H:Hp) (sts:List MS) (Q:VK):Prop:=∀p vs l b s ws us G H' (st:MS) (pre:List MS),sts=pre++[st]→av H G→av G H'→G p=none→H' p=some (.lst (vs++[.ref l]))→aR G (pre.map dS) vs→H' l=some (.tup [.ref b,.ref s])→
 G b=none→G s=none→b≠s→b≠p→s≠p→H' b=some (.lst ws)→H' s=some (.lst us)→aR H' (st.1.map dO) ws→aR H' (st.2.map dO) us→Q (.ref p) H'
theorem Dx (t:L2.Tree) (st:MS) (r:List L2.au):g9 t st r≠[]:=by cases r<;>simp [g9]
theorem vW (t:L2.Tree) (d:L2.au):∀(r:List L2.au) (Jn:MS) (pre:List MS) (st:MS),g9 t Jn r=pre++[st]→g9 t Jn (r++[d])=(pre++[st])++[M.mark t st d]
 | [],Jn,pre,st,h=>by
  cases pre with
  | nil=>simp only [g9,List.nil_append,List.cons.injEq,and_true] at h;simp [g9,h]
  | cons a pre=>simp [g9] at h
 | e::r,Jn,pre,st,h=>by
  cases pre with
  | nil=>simp only [g9,List.nil_append,List.cons.injEq] at h;exact absurd h.2 (Dx _ _ _)
  | cons a pre=>
   simp only [g9,List.cons_append,List.cons.injEq] at h
   have:=vW t d r _ pre st h.2
   rw [List.cons_append,g9,this,h.1];rfl
theorem yF (st:MS):D.oO (st.1.map dO)=true∧D.oO (st.2.map dO)=true:=⟨i6 _ tE _,i6 _ tE _⟩
theorem um {β:Type} (xs:List β) (x:β):kX (xs++[x]) (-1)=some x:=by
 unfold kX DG
 rw [if_neg (by decide),if_pos (by simp;lia)]
 have:((-1:Int)+((xs++[x]).length:Nat)).toNat=xs.length:=by simp;lia
 show (xs++[x])[((-1:Int)+((xs++[x]).length:Nat)).toNat]? = some x
 rw [this];simp
noncomputable def Pr:Sp:=fun vs H Q _=>∃(t:L2.Tree) (k m:Nat) (row:List L2.au) (v:V) (pr:Addr) (rs:List V),vs=[v,.int k,.int m,.ref pr]∧Dt H (dT t) v∧t.dp≤24∧t.lv.length≤32∧k≤1000∧m≤1000∧row.length≤5000∧H pr=some (.lst rs)∧aR H (row.map cF) rs∧
 Li k m row∧acy H (g9 t (jS k m) row) Q
seal lg PS PE PT PA PI eT in
theorem Od (T:Txt K mg):bz P w K mg base CX0 31 T.rh T.qy ["tree","k","many","row"] Pr:=by
 refine T.wB.ok (k:=30) ud (fun vs H Q E h=>?_) (fun bJ A outer s H vs Q E hr h=>?_)
 · obtain⟨t,k,m,row,v,pr,rs,rfl,_⟩:=h
   rfl
 obtain⟨t,k,m,row,v,pr,rs,rfl,ht,bf,bA,hk,hm,cH,er,dr,okR,q⟩:=h
 have nd:=ud.nd
 have JC:=(GC (P:=P) (w:=w) (base:=base) T).mono (k:=30) (by omega)
 have Ie:=(Ei (P:=P) (w:=w) (base:=base) T).mono (k:=30) (by omega)
 refine⟨_,(ah (aw (i:=4) nd rfl (Or.inl rfl) (bb (aa (ao JC hr rfl T.Kr T.Dj.kp T.J9 .nil aA (aa (pv 1) (aa (pv 2) af))) af)))
  (ah (gL PassesOwn.never rfl (wb (pv 3)) (bG (i:=5) nd rfl (Or.inl rfl)) (aj (fN (jR PySem.F.plainAttrs_list PySem.F.slot_list_append PySem.F.type_list_append jN (pv 4) (aa (ao Ie hr rfl T.FX T.zC.kp T.FT .nil aA (aa (pv 0) (aa (pv 5) (aa (ar bj (pv 4) (Ae tX ae) (fun _ _=>rfl)) af)))) af)))))
  (aj (aE (pv 4))))),?_⟩
 walk_at "rd"
 refine⟨k,m,rfl,hk,hm,fun l0 b0 s0 ws0 us0 H1 S1 QU Qc Pn h0 OY OP db0 ds0=>⟨by decide,aI.mk fun p H2 S2 n2 e2=>?_⟩⟩
 have np:H p=none:=S1.free n2
 have S12:=S1.trans S2
 obtain⟨Pv,fu⟩:∃Pv:Nat→St→Hp→Prop,∀i σ H',Pv i σ H'↔(∃vs l b s ws us G st pre,g9 t (jS k m) (row.take i)=pre++[st]∧st.1.length=k∧st.2.length=m∧M.au.vt (M.Gj t) st∧av H G∧av G H'∧G p=none∧H' p=some (.lst (vs++[.ref l]))∧aR G (pre.map dS) vs∧H' l=some (.tup [.ref b,.ref s])∧
  G b=none∧G s=none∧b≠s∧b≠p∧s≠p∧H' b=some (.lst ws)∧H' s=some (.lst us)∧aR H' (st.1.map dO) ws∧aR H' (st.2.map dO) us)∧∃o5:Option V,σ=[some v,some (.int k),some (.int m),some (.ref pr),some (.ref p),o5]:=⟨_,fun _ _ _=>Iff.rfl⟩
 have cut:∀{H' G:Hp},av H G→av G H'→av H H':=fun a b=>a.trans b
 refine WalkL.Df (S12 _ _ er) Pv ((fu _ _ _).mpr ⟨⟨[],l0,b0,s0,ws0,us0,H,jS k m,[],rfl,by simp [jS],by simp [jS],M.au.KZ (show M.Gj t none from fun _ z=>nomatch z) k m,av.refl _,S12,np,e2,.nil,S2 _ _ QU,Qc,Pn,h0,?_,?_,S2 _ _ OY,S2 _ _ OP,?_,?_⟩,none,rfl⟩) (fun i σ H' _ h=>?_) ?_ ?_
 · exact aL OY n2
 · exact aL OP n2
 · simp only [jS,List.map_replicate];exact db0.same S2
 · simp only [jS,List.map_replicate];exact ds0.same S2
 · obtain⟨⟨vs,l,b,s,ws,us,G,st,pre,_,_,_,_,h1,h2,_⟩,_⟩:=(fu _ _ _).mp h
   exact h2 _ _ (h1 _ _ er)
 · intro i y σ H' ey h
   obtain⟨⟨vs,l,b,s1,ws,us,G,st,pre,IZ,MG,HK,M5,SG,SGH,gp,ep,dpre,el,gb,gs,Ck,AD,pF,eb,es,db,ds⟩,o5,rfl⟩:=(fu _ _ _).mp h
   have lr:=dr.length
   rw [List.length_map] at lr
   have hi:i<row.length:=by have:=(List.getElem?_eq_some_iff.mp ey).1;(clear bf bA hk hm cH er QU Qc Pn h0 OY OP n2 e2 np ey IZ MG HK gp ep el gb gs Ck AD pF eb es;lia)
   obtain⟨y',hy',dy⟩:=aR.dD dr (List.getElem?_eq_getElem hi)
   rw [ey] at hy';cases hy'
   have e0:row[i]? = some row[i]:=List.getElem?_eq_getElem hi
   generalize row[i]=d at dy e0
   have S0:=SG.trans SGH
   have dst:Dt H' (dS st) (.ref l):=C4 el eb es db ds
   walk_at "rd"
   refine⟨lJ ep,_,aC ep,_,um vs _,?_⟩
   refine⟨t,d,st,v,y,_,rfl,ht.same S0,bf,bA,dy.same S0,dst,M5,by rw [MG,HK];exact okR d (List.mem_of_getElem? e0),?_⟩
   · skip
     intro l' b' s' Qt us' H1 S1' PZ ON OV Jw Ec L9 db' Wd
     have Me:vs.length≤5000:=by
      have h1:=dpre.length
      have h2:(g9 t (jS k m) (row.take i)).length=i+1:=by
       have:∀(r:List L2.au) (st:MS),(g9 t st r).length=r.length+1:=by
        intro r;induction r with
        | nil=>intro st;rfl
        | cons e r ih=>intro st;simp [g9,ih]
       rw [this,List.length_take];(clear bf bA hk hm cH er QU Qc Pn h0 OY OP n2 e2 np ey IZ MG HK gp ep el gb gs Ck AD pF eb es lr Jw Ec L9 h1 ON OV PZ e0;lia)
      rw [IZ,List.length_append] at h2
      rw [List.length_map] at h1
      simp at h2;(clear OY OP n2 e2 np ey IZ MG HK gp ep el gb gs Ck AD pF eb es lr er QU Qc Pn h0 bf bA hk e0 PZ ON OV Jw Ec hm L9;lia)
     refine⟨_,S1' _ _ ep,cb (by simp;(clear bf bA hk hm cH er QU Qc Pn h0 OY OP n2 e2 np ey IZ MG HK gp ep el gb gs Ck AD pF eb es lr hi e0 PZ ON OV Jw Ec L9;lia)),gF.mk fun H3 k3 e3=>(fu _ _ _).mpr ⟨⟨vs++[.ref l],l',b',s',Qt,us',fun a=>if a=p then none else H' a,M.mark t st d,pre++[st],?_,?_,?_,M.Hu M5 d,?_,?_,by simp,e3,?_,?_,?_,?_,Jw,?_,?_,?_,?_,?_,?_⟩,_,rfl⟩⟩
     · rw [List.take_add_one,e0]
       exact vW t d _ _ _ _ IZ
     · exact(M.au.xJ st d).1.trans MG
     · exact(M.au.xJ st d).2.trans HK
     · intro a o e
       show (if a=p then none else H' a)=some o
       rw [if_neg (aL e np)];exact S0 _ _ e
     · intro a o e
       change (if a=p then none else H' a)=some o at e
       by_cases c:a=p
       · rw [if_pos c] at e;cases e
       · rw [if_neg c] at e
         rw [k3 a c];exact S1' _ _ e
     · have GG:av G (fun a=>if a=p then none else H' a):=fun a o e=>by
        show (if a=p then none else H' a)=some o
        rw [if_neg (aL e gp)];exact SGH _ _ e
       have TT:oZ H' (fun a=>if a=p then none else H' a):=fun a xs e=>by
        show (if a=p then none else H' a)=_
        rw [if_neg (gB e ep (by intro z;cases z))];exact e
       rw [List.map_append]
       refine (dpre.same GG).append (.one (C4 (b:=b) (s:=s1) (TT _ _ el) ?_ ?_ (db.cZ TT (yF st).1) (ds.cZ TT (yF st).2)))
       · show (if b=p then none else H' b)=_
         rw [if_neg AD];exact eb
       · show (if s1=p then none else H' s1)=_
         rw [if_neg pF];exact es
     · rw [k3 l' (gB PZ (S1' _ _ ep) (by intro z;cases z))];exact PZ
     · show (if b'=p then none else H' b')=none
       rw [ON];simp
     · show (if s'=p then none else H' s')=none
       rw [OV];simp
     · exact(aL ep ON).symm
     · exact(aL ep OV).symm
     · rw [k3 _ (aL ep ON).symm];exact Ec
     · rw [k3 _ (aL ep OV).symm];exact L9
     · exact db'.qg (S1' _ _ ep) k3 (yF _).1
     · exact Wd.qg (S1' _ _ ep) k3 (yF _).2
 · intro σ H' h
   obtain⟨⟨vs,l,b,s1,ws,us,G,st,pre,IZ,MG,HK,M5,SG,SGH,gp,ep,dpre,el,gb,gs,Ck,AD,pF,eb,es,db,ds⟩,o5,rfl⟩:=(fu _ _ _).mp h
   have lr:=dr.length
   rw [List.length_map] at lr
   rw [lr,List.take_length] at IZ
   walk_at "rd"
   exact q p vs l b s1 ws us G H' st pre IZ SG SGH gp ep dpre el gb gs Ck AD pF eb es db ds
noncomputable def sY:L2.au→Str
 | .take _ _=>Str.ofString "take"
 | .join _ _ _ _=>Str.ofString "join"
 | .put _ _=>Str.ofString "put"
 | .fetch _ _=>Str.ofString "fetch"
theorem uh (t:L2.Tree):t.lv.length=nK t+1:=(Ls t).symm
noncomputable def cnt (x:Str) (row:List L2.au):Nat:=row.countP fun d=>decide (sY d=x)
theorem ww:Str.ofString "take"≠Str.ofString "join"∧Str.ofString "take"≠Str.ofString "put"∧Str.ofString "take"≠Str.ofString "fetch"∧Str.ofString "join"≠Str.ofString "put"∧Str.ofString "join"≠Str.ofString "fetch"∧Str.ofString "put"≠Str.ofString "fetch":=by
 refine⟨?_,?_,?_,?_,?_,?_⟩<;>decide +kernel
theorem KU (x:Str) (a b:List L2.au):cnt x (a++b)=cnt x a+cnt x b:=List.countP_append
theorem cnt_cons (x:Str) (d:L2.au) (a:List L2.au):cnt x (d::a)=cnt x a+if sY d=x then 1 else 0:=by
 unfold cnt;rw [List.countP_cons];simp
theorem cnt_nil (x:Str):cnt x []=0:=rfl
theorem C3 (d:L2.au):∃r,bP d = .str (sY d)::r:=by cases d<;>exact⟨_,rfl⟩
theorem LR (t:L2.Tree):∀(r:List L2.au) (st s1:MS),s1∈g9 t st r→s1.1.length=st.1.length∧s1.2.length=st.2.length
 | [],st,s1,h=>by rw [List.mem_singleton.mp h];exact⟨rfl,rfl⟩
 | d::r,st,s1,h=>by
  rcases List.mem_cons.mp h with rfl|h
  · exact⟨rfl,rfl⟩
  · have:=LR t r _ s1 h
    have g:=M.au.xJ (z:=none) (tk:=fun x=>M.firstOf x (t.wk [])) (jn:=M.over t) st d
    exact⟨this.1.trans g.1,this.2.trans g.2⟩
theorem Pj (hs:List (Option (List Nat))) (p:List Nat):((hs.map dO).any fun d=>D.eq d (dP p))=M.held hs p:=by
 unfold M.held
 rw [List.any_map]
 congr 1
 funext o
 show D.eq (dO o) (dO (some p))=_
 rw [Dc]
 cases o<;>(rw [Bool.eq_iff_iff];simp)
theorem Nt:∀l:List (Option (List Nat)),D.qa (l.map dO)≤1
 | []=>Nat.zero_le _
 | o::l=>by
  have:=Nt l
  have:=vT o
  simp only [List.map_cons,D.qa]
  lia
noncomputable def Jq:Sp:=fun vs H Q _=>∃(st:MS) (v:V),vs=[v]∧Dt H (dS st) v∧∀H',av H H'→Q (.bl (M.held st.1 [])) H'
seal lg PS PE PT PA PI eT in
theorem G6 (T:Txt K mg):bz P w K mg base CX0 1 T.iK T.iz ["state"] Jq:=by
 refine T.mm.ok (k:=0) kR (fun vs H Q E h=>?_) (fun bJ A outer s H vs Q E hr h=>?_)
 · obtain⟨st,v,rfl,_⟩:=h
   rfl
 obtain⟨st,v,rfl,dv,q⟩:=h
 obtain⟨p,b,s',ws,us,rfl,ep,eb,es,db,ds⟩:=AB dv
 have nd:=kR.nd
 refine⟨_,(aj (aE (cB (MU hr) (aV af) (ar bj (pv 0) ae (fun _ _=>rfl)) (by with_unfolding_all rfl)))),?_⟩
 walk_at "rd"
 refine⟨Nat.zero_le _,aI.mk fun p1 H1 S1 n1 e1=>⟨_,ak (S1 _ _ ep),_,aP,b,rfl,_,.inl (S1 _ _ eb),_,db.same S1,dP [],gz e1,Nat.le_trans (Nt _) (by decide),?_⟩⟩
 have:=q H1 S1
 rw [←Pj] at this
 exact this
theorem wK (t:L2.Tree):∀(r:List L2.au) (Jn:MS) (pre:List MS) (st:MS),g9 t Jn r=pre++[st]→st=r.foldl (M.mark t) Jn
 | [],Jn,pre,st,h=>by
  cases pre with
  | nil=>simp only [g9,List.nil_append,List.cons.injEq,and_true] at h;rw [←h];rfl
  | cons a pre=>simp [g9] at h
 | e::r,Jn,pre,st,h=>by
  cases pre with
  | nil=>simp only [g9,List.nil_append,List.cons.injEq] at h;exact absurd h.2 (Dx _ _ _)
  | cons a pre=>
   simp only [g9,List.cons_append,List.cons.injEq] at h
   exact wK t r _ pre st h.2
noncomputable def rf (t1 t2 t3 t4:Addr):List (Key×V):=[(.inr (Str.ofString "take"),.ref t1),(.inr (Str.ofString "join"),.ref t2),(.inr (Str.ofString "put"),.ref t3),(.inr (Str.ofString "fetch"),.ref t4)]
structure FG (P:Program) (w:World) (K:PySem.W.Frag) (mg:Str→Option Value) where
 a:Addr
 t1:Addr
 t2:Addr
 t3:Addr
 t4:Addr
 m:mg "PARTS"=some (.ref a)
 d:KD P w K a (rf t1 t2 t3 t4)
 k1:xw K t1 [.str (Str.ofString "name"),.str (Str.ofString "number")]
 k2:xw K t2 [.str (Str.ofString "name"),.str (Str.ofString "number"),.str (Str.ofString "number"),.str (Str.ofString "number")]
 k3:xw K t3 [.str (Str.ofString "number"),.str (Str.ofString "number")]
 k4:xw K t4 [.str (Str.ofString "number"),.str (Str.ofString "number")]
noncomputable def bV:L2.au→List Str
 | .take x i=>[Str.ofString "take",x,cu i]
 | .join f i j l=>[Str.ofString "join",f,cu i,cu j,cu l]
 | .put i s=>[Str.ofString "put",cu i,cu s]
 | .fetch s i=>[Str.ofString "fetch",cu s,cu i]
noncomputable def de (d:L2.au):Str:=Txt.join (Str.ofString " ") (bV d)
noncomputable def pO (r:List L2.au):Str:=Txt.join (Str.ofString "; ") (r.map de)
noncomputable def Ni:L2.au→Option Str
 | .take x _=>some x
 | .join f _ _ _=>some f
 | _=>none
noncomputable def zG (d:L2.au):Prop:=(∀i∈d.bn++d.sn,0≤i∧i<10000)∧∀x,Ni d=some x→bw x=true
noncomputable def yz:V→Str
 | .str x=>x
 | .int i=>cu i
 | _=>Str.ofString ""
theorem words_of (d:L2.au):(bP d).map yz=bV d:=by cases d<;>rfl
theorem FZ {i:Int} (h:0≤i∧i<10000):(cu i).length≤4∧(cu i).cps.toList=ki i.toNat:=by
 obtain⟨n,rfl⟩:∃n:Nat,i=n:=⟨i.toNat,by lia⟩
 have:=nF (n:=n) (by omega)
 rw [uc]
 refine⟨?_,by simp [kj]⟩
 have e:(kj n).length=(ki n).length:=by simp [kj,Str.length]
 rw [e];exact this.2.1
theorem iu {x:Str} (h:bw x=true):1≤x.length∧x.length≤8∧∀c∈x.cps.toList,97≤c∧c≤122:=by
 unfold bw isName at h
 simp only [Bool.and_eq_true,decide_eq_true_eq,List.all_eq_true] at h
 have el:x.cps.toList.length=x.length:=by simp [Str.length]
 rw [el] at h
 exact⟨h.1,h.2.1,fun c hc=>h.2.2 c hc⟩
theorem HN:∀z∈[Str.ofString "take",Str.ofString "join",Str.ofString "put",Str.ofString "fetch"],z.length≤8∧∀c∈z.cps.toList,97≤c∧c≤122:=by decide +kernel
theorem xG {d:L2.au} (h:zG d):∀z∈bV d,z.length≤8∧∀c∈z.cps.toList,48≤c∧c≤122∧c≠59:=by
 have w0:∀z∈[Str.ofString "take",Str.ofString "join",Str.ofString "put",Str.ofString "fetch"],z.length≤8∧∀c∈z.cps.toList,48≤c∧c≤122∧c≠59:=fun z hz=>by
  obtain⟨h1,h2⟩:=HN z hz
  exact⟨h1,fun c hc=>by have:=h2 c hc;(clear h1;lia)⟩
 have wn:∀x,Ni d=some x→x.length≤8∧∀c∈x.cps.toList,48≤c∧c≤122∧c≠59:=fun x hx=>by
  obtain⟨_,h1,h2⟩:=iu (h.2 x hx)
  exact⟨h1,fun c hc=>by have:=h2 c hc;lia⟩
 have wi:∀i∈d.bn++d.sn,(cu i).length≤8∧∀c∈(cu i).cps.toList,48≤c∧c≤122∧c≠59:=fun i hi=>by
  have hb:=h.1 i hi
  obtain⟨h1,h2⟩:=FZ hb
  refine⟨by lia,fun c hc=>?_⟩
  rw [h2] at hc
  have:=(nF (n:=i.toNat) (by lia)).2.2.1 c hc
  (clear hb h1 h2;lia)
 intro z hz
 cases d with
 | take x i=>
  simp only [bV,List.mem_cons,List.not_mem_nil,or_false] at hz
  rcases hz with rfl|rfl|rfl
  · exact w0 _ (by simp)
  · exact wn _ rfl
  · exact wi _ (by simp [M.au.bn])
 | join f i j l=>
  simp only [bV,List.mem_cons,List.not_mem_nil,or_false] at hz
  rcases hz with rfl|rfl|rfl|rfl|rfl
  · exact w0 _ (by simp)
  · exact wn _ rfl
  · exact wi _ (by simp [M.au.bn])
  · exact wi _ (by simp [M.au.bn])
  · exact wi _ (by simp [M.au.bn])
 | put i s=>
  simp only [bV,List.mem_cons,List.not_mem_nil,or_false] at hz
  rcases hz with rfl|rfl|rfl
  · exact w0 _ (by simp)
  · exact wi _ (by simp [M.au.bn])
  · exact wi _ (by simp [M.au.sn])
 | fetch s i=>
  simp only [bV,List.mem_cons,List.not_mem_nil,or_false] at hz
  rcases hz with rfl|rfl|rfl
  · exact w0 _ (by simp)
  · exact wi _ (by simp [M.au.sn])
  · exact wi _ (by simp [M.au.bn])
theorem rj (d:L2.au):3≤(bV d).length∧(bV d).length≤5:=by cases d<;>simp [bV]
theorem Kp:(Str.ofString " ")=⟨([32]:List Nat).toArray⟩:=by decide +kernel
theorem MO:(Str.ofString "; ")=⟨([59,32]:List Nat).toArray⟩:=by decide +kernel
theorem yP:∀l:List Str,(∀z∈l,z.length≤8)→(l.map (·.length)).sum≤8*l.length
 | [],_=>by simp
 | a::l,h=>by
  have h1:=h a (by simp)
  have h2:=yP l fun z hz=>h z (by simp [hz])
  simp only [List.map_cons,List.sum_cons,List.length_cons]
  lia
theorem nr {d:L2.au} (h:zG d):(de d).length≤50∧∀c∈(de d).cps.toList,c≠59:=by
 have e:(de d).cps.toList=jn [32] ((bV d).map fun z=>z.cps.toList):=by
  unfold de Txt.join
  rw [StrLaws.glued_eq_join,mh,Kp]
 have hw:=xG h
 have l5:=(rj d).2
 constructor
 · have h1:=xX [32] ((bV d).map fun z=>z.cps.toList)
   rw [←e] at h1
   have h2:=yP (bV d) fun z hz=>(hw z hz).1
   have h3:(((bV d).map fun z=>z.cps.toList).map List.length)=(bV d).map (·.length):=by rw [List.map_map];rfl
   rw [h3] at h1
   simp only [List.length_map,List.length_cons,List.length_nil] at h1
   have h4:(de d).cps.toList.length=(de d).length:=by simp [Str.length]
   lia
 · rw [e]
   have go:∀l:List (List Nat),(∀z∈l,∀c∈z,c≠59)→∀c∈jn [32] l,c≠59:=by
    intro l
    induction l with
    | nil=>intro _ c hc;simp [jn] at hc
    | cons a l ih=>
     intro hl c hc
     cases l with
     | nil=>exact hl a (by simp) c hc
     | cons b l=>
      simp only [jn,List.mem_append,List.mem_singleton] at hc
      rcases hc with (hc|hc)|hc
      · exact hl a (by simp) c hc
      · lia
      · exact ih (fun z hz=>hl z (by simp [List.mem_cons.mp hz])) c hc
   refine go _ fun z hz c hc=>?_
   obtain⟨y,hy,rfl⟩:=List.mem_map.mp hz
   exact((hw y hy).2 c hc).2.2
theorem Bu {d:L2.au} (h:zG d):Txt.split (de d) (Str.ofString " ")=bV d:=by
 unfold de
 rw [Kp]
 refine uI (c:=32) (r:=[]) (bV d) (by simp) (by decide +kernel) (fun e=>by have:=(rj d).1;rw [e] at this;simp at this) fun z hz hc=>?_
 have:=(xG h z hz).2 32 hc
 omega
theorem EA {r:List L2.au} (h0:r≠[]) (h:∀d∈r,zG d):Txt.split (pO r) (Str.ofString "; ")=r.map de:=by
 unfold pO
 rw [MO]
 refine uI (c:=59) (r:=[32]) (r.map de) (by simp) (by decide +kernel) (by simpa using h0) fun z hz hc=>?_
 obtain⟨d,hd,rfl⟩:=List.mem_map.mp hz
 exact(nr (h d hd)).2 59 hc rfl
theorem FA {r:List L2.au} (h:∀d∈r,zG d):(pO r).length≤60*r.length:=by
 have e:(pO r).cps.toList=jn [59,32] ((r.map de).map fun z=>z.cps.toList):=by
  unfold pO Txt.join
  rw [StrLaws.glued_eq_join,mh,MO]
 have h1:=xX [59,32] ((r.map de).map fun z=>z.cps.toList)
 rw [←e] at h1
 have h2:∀r:List L2.au,(∀d∈r,zG d)→((((r.map de).map fun z:Str=>z.cps.toList)).map List.length).sum≤50*r.length:=by
  intro r
  induction r with
  | nil=>intro _;simp
  | cons d r ih=>
   intro h
   have a1:=(nr (h d (by simp))).1
   have a2:=ih fun d hd=>h d (by simp [hd])
   have a3:(de d).cps.toList.length=(de d).length:=by simp [Str.length]
   simp only [List.map_cons,List.sum_cons,List.length_cons] at a2 ⊢
   (clear e h1 ih;lia)
 have h3:=h2 r h
 simp only [List.length_map,List.length_cons,List.length_nil] at h1
 have h4:(pO r).cps.toList.length=(pO r).length:=by simp [Str.length]
 lia
theorem EG (d:L2.au):∀x∈bP d,(∃z,x=V.str z)∨∃i∈d.bn++d.sn,x=V.int i:=by
 intro x hx
 cases d with
 | take y i=>
  simp only [bP,List.mem_cons,List.not_mem_nil,or_false] at hx
  rcases hx with rfl|rfl|rfl
  · exact .inl ⟨_,rfl⟩
  · exact .inl ⟨_,rfl⟩
  · exact .inr ⟨_,by simp [M.au.bn],rfl⟩
 | join f i j l=>
  simp only [bP,List.mem_cons,List.not_mem_nil,or_false] at hx
  rcases hx with rfl|rfl|rfl|rfl|rfl
  · exact .inl ⟨_,rfl⟩
  · exact .inl ⟨_,rfl⟩
  · exact .inr ⟨_,by simp [M.au.bn],rfl⟩
  · exact .inr ⟨_,by simp [M.au.bn],rfl⟩
  · exact .inr ⟨_,by simp [M.au.bn],rfl⟩
 | put i s=>
  simp only [bP,List.mem_cons,List.not_mem_nil,or_false] at hx
  rcases hx with rfl|rfl|rfl
  · exact .inl ⟨_,rfl⟩
  · exact .inr ⟨_,by simp [M.au.bn],rfl⟩
  · exact .inr ⟨_,by simp [M.au.sn],rfl⟩
 | fetch s i=>
  simp only [bP,List.mem_cons,List.not_mem_nil,or_false] at hx
  rcases hx with rfl|rfl|rfl
  · exact .inl ⟨_,rfl⟩
  · exact .inr ⟨_,by simp [M.au.sn],rfl⟩
  · exact .inr ⟨_,by simp [M.au.bn],rfl⟩
theorem SS {n:Nat} (h:n<10000):n.log2<1900:=by
 by_cases z:n=0
 · rw [z];decide
 · exact(Nat.log2_lt z).mpr (Nat.lt_of_lt_of_le (show n<2^14 by lia) (Nat.pow_le_pow_right (by decide) (by decide)))
noncomputable def rX (x:Str):Bool:=(decide (1≤x.length)&&(decide (x.length≤4)&&x.cps.toList.all fun c=>decide (48≤c)&&decide (c≤57)))&&(decide (x=Str.ofString "0")||decide (x.cps.toList.head? ≠ some 48))
noncomputable def Pa:Sp:=fun vs H Q _=>∃(x:Str),vs=[.str x]∧x.length≤1000000∧∀H',av H H'→Q (.bl (rX x)) H'
seal lg PS PE PT PA PI eT in
theorem Oa (T:Txt K mg):bz P w K mg base CX0 1 T.mW T.mY ["word"] Pa:=by
 refine T.me.ok (k:=0) oV (fun vs H Q E h=>?_) (fun bJ A outer s H vs Q E hr h=>?_)
 · obtain⟨x,rfl,_⟩:=h
   rfl
 obtain⟨x,rfl,hx,q⟩:=h
 have nd:=oV.nd
 refine⟨_,(ah (aU (PW.pt (zu (mB (zR wm wm ae (aO gZ rfl T.cJ bM (aa (pv 0) af)) (jX (v:=.int 4) rfl T.tZ ⟨_,rfl⟩))) (tG (mB (cL (aO (yV rfl) rfl T.LP G7 (aa (dI (N:=["sign"]) (caps:=[]) rfl ⟨rfl,rfl,rfl,rfl,by decide +kernel,rfl,rfl,rfl,rfl⟩ (GO (pv 0)) (fun _ _ _ _=>cS) (fun _ _ _ _=>(uD nq nq aD (pv 0) aD))) af))))))) (aj (aE rH)) aH)
  (aj (aE (Gy (cB br (pv 0) aD (aJ _)) (jW (cB yX (ar qd (pv 0) ae (fun _ _=>rfl)) aD (aJ _))))))),?_⟩
 refine gU fun C hC=>?_
 walk_at "rd"
 have hz:x.length≤sizeLine:=Nat.le_trans hx (by decide)
 have el:x.cps.toList.length=x.length:=by simp [Str.length]
 have no:∀b:Bool,rX x=(false&&b)→∀H',av H H'→Q (.bl false) H':=fun b e H' S'=>by
  have:=q H' S'
  rw [e] at this
  exact this
 refine⟨hz,cj (fun c1=>?_) (fun c1=>eS ?_)⟩
 · have c1:1≤x.length:=by have:=of_decide_eq_true c1;(clear hx hC hz el c1;omega)
   refine cj (fun c2=>?_) (fun c2=>?_)
   · have c2:¬x.length≤4:=fun z=>by
      have:decide ((x.length:Int)≤4)=true:=decide_eq_true (by (clear hx hC hz el c1 c2;lia))
      rw [this] at c2;cases c2
     exact no true (by unfold rX;rw [decide_eq_false c2];simp) H (av.refl _)
   · have c2:x.length≤4:=by
      have:decide ((x.length:Int)≤4)=true:=by simpa using c2
      have:=of_decide_eq_true this
      (clear hx hC hz el c1 c2;omega)
     refine zW (fun i ys H'=>H'=H∧i≤x.cps.size∧ys=(x.cps.toList.take i).map (fun c=>V.bl (decide (48≤c)&&decide (c≤57)))) ⟨rfl,Nat.zero_le _,rfl⟩ (Nat.lt_of_le_of_lt c2 (by decide)) (fun i ys H' h=>?_) (fun i c ys H' ec h=>?_) (fun ys H' h p hp=>?_)
     · rw [h.2.2];simp;(clear hx hC hz el c1 c2 h;lia)
     · obtain⟨rfl,hi,rfl⟩:=h
       walk_at "rd"
       have fB:i<x.cps.size:=(Array.getElem?_eq_some_iff.mp ec).1
       have Fs:x.cps.toList[i]? = some c:=by simpa using ec
       have e:(x.cps.toList.take (i+1)).map (fun c=>V.bl (decide (48≤c)&&decide (c≤57)))=(x.cps.toList.take i).map (fun c=>V.bl (decide (48≤c)&&decide (c≤57)))++[V.bl (decide (48≤c)&&decide (c≤57))]:=by
        rw [List.take_add_one,Fs];simp
       have l1:(!decide ((Str.mk #[c]).cps.toList<(Str.ofString "0").cps.toList))=decide (48≤c):=by
        have:(Str.ofString "0").cps.toList=[48]:=by decide +kernel
        rw [this];exact w9 c 48
       have l2:(!decide ((Str.ofString "9").cps.toList<(Str.mk #[c]).cps.toList))=decide (c≤57):=by
        have:(Str.ofString "9").cps.toList=[57]:=by decide +kernel
        rw [this];exact w9 57 c
       rw [l1,l2]
       refine cj (fun d=>?_) (fun d=>?_)
       · refine⟨fB,?_⟩
         rw [e,d];simp
       · refine⟨fB,?_⟩
         have d:decide (48≤c)=false:=by simpa using d
         rw [e,d];simp
     · obtain⟨rfl,_,rfl⟩:=h
       have ew:x.cps.toList.take x.cps.size=x.cps.toList:=List.take_of_length_le (by simp)
       refine⟨p,rfl,x.cps.toList.map (fun c=>decide (48≤c)&&decide (c≤57)),fQ.of ?_,?_⟩
       · rw [bI,ew,List.map_map];rfl
       have S1:=cg hp (.lst ((x.cps.toList.take x.cps.size).map (fun c=>V.bl (decide (48≤c)&&decide (c≤57)))))
       refine cj (fun c3=>?_) (fun c3=>?_)
       · refine no true ?_ _ S1
         have c3:(x.cps.toList.all fun c=>decide (48≤c)&&decide (c≤57))=false:=by
          rw [List.all_map] at c3
          simpa using c3
         unfold rX
         rw [c3];simp
       · rw [hC]
         clear hC C
         walk_at "rd"
         have c3:(x.cps.toList.all fun c=>decide (48≤c)&&decide (c≤57))=true:=by
          rw [List.all_map] at c3
          simpa using c3
         have:=q _ S1
         unfold rX at this
         rw [c3,decide_eq_true c1,decide_eq_true c2] at this
         refine cj (fun c4=>?_) (fun c4=>?_)
         · rw [c4] at this;simpa using this
         · have c4:decide (x=Str.ofString "0")=false:=by simpa using c4
           rw [c4] at this
           obtain⟨c0,rest,e0⟩:∃c0 rest,x.cps.toList=c0::rest:=by
            cases hh:x.cps.toList with
            | nil=>rw [hh] at el;simp at el;omega
            | cons a r=>exact⟨a,r,rfl⟩
           rw [e0] at this ⊢
           refine⟨hz,c0,aP,?_⟩
           have e48:decide ((Str.mk #[c0])=Str.ofString "0")=decide (c0=48):=by
            have:Str.ofString "0"=⟨#[48]⟩:=by decide +kernel
            rw [this,Bool.eq_iff_iff];simp
           rw [e48]
           simpa using this
 · have c1:¬1≤x.length:=fun z=>c1 (decide_eq_true (by (clear hx hC hz el c1;lia)))
   exact no true (by unfold rX;rw [decide_eq_false c1];simp) H (av.refl _)
theorem Es {n:Nat} (h:n<10000):rX (kj n)=true:=by
 obtain⟨f1,f2,f3,f4,_⟩:=nF h
 have e:(kj n).length=(ki n).length:=by simp [kj,Str.length]
 have e2:(kj n).cps.toList=ki n:=by simp [kj]
 have e3:decide (kj n=Str.ofString "0")=decide (ki n=[48]):=by
  have:Str.ofString "0"=⟨([48]:List Nat).toArray⟩:=by decide +kernel
  rw [this]
  refine decide_eq_decide.mpr ⟨fun h=>?_,fun h=>?_⟩
  · have:=congrArg (fun z:Str=>z.cps.toList) h
    simpa [kj] using this
  · unfold kj;rw [h]
 unfold rX
 rw [e,e2,e3,decide_eq_true f1,decide_eq_true f2]
 have a:(ki n).all (fun c=>decide (48≤c)&&decide (c≤57))=true:=by
  rw [List.all_eq_true]
  intro c hc
  have:=f3 c hc
  simp;omega
 rw [a]
 rcases f4 with f4|f4
 · rw [decide_eq_true f4];rfl
 · rw [decide_eq_true f4];simp
noncomputable def QN:Sp:=fun vs H Q _=>∃(x:Str),(vs=[.str (Str.ofString "name"),.str x]∧bw x=true∧∀H',av H H'→Q (.str x) H')∨∃n:Nat,x=kj n∧n<10000∧vs=[.str (Str.ofString "number"),.str x]∧∀H',av H H'→Q (.int n) H'
seal lg PS PE PT PA PI eT in
theorem Hd (T:Txt K mg):bz P w K mg base CX0 2 T.mL T.mi ["kind","word"] QN:=by
 refine T.se.ok (k:=1) pH (fun vs H Q E h=>?_) (fun bJ A outer s H vs Q E hr h=>?_)
 · obtain⟨x,⟨rfl,_⟩|⟨n,rfl,_,rfl,_⟩⟩:=h<;>rfl
 have nd:=pH.nd
 have mZ:=(Du (P:=P) (w:=w) (base:=base) T).mono (k:=1) (by omega)
 have rE:=(Oa (P:=P) (w:=w) (base:=base) T).mono (k:=1) (by omega)
 obtain⟨x,⟨rfl,hn,q⟩|⟨n,rfl,hn,rfl,q⟩⟩:=h
 · refine⟨_,(ah (aU (PW.pt (gM (aF br (pv 0) aD (aJ _)) (fI (cL (ao mZ hr rfl T.ql T.ny.kp T.qQ .nil aA (aa (pv 1) af)))))) (aj (aE (pv 1))) aH)
   (ah (aU (PW.pt (gM (aF br (pv 0) aD (aJ _)) (fI (cL (ao rE hr rfl T.rQ T.me.kp T.rP .nil aA (aa (pv 1) af)))))) (aj (aE (bL wJ rfl T.wW qx (aa (pv 1) af)))) aH)
   (aj dh))),?_⟩
   walk_at "rd"
   have:=iu hn
   refine eS ⟨x,rfl,by lia,fun H1 S1=>⟨_,rfl,?_⟩⟩
   rw [hn]
   exact eS (q H1 S1)
 · refine⟨_,(ah (aU (PW.pt (gM (aF br (pv 0) aD (aJ _)) (fI (cL (ao mZ hr rfl T.ql T.ny.kp T.qQ .nil aA (aa (pv 1) af)))))) (aj (aE (pv 1))) aH)
   (ah (aU (PW.pt (gM (aF br (pv 0) aD (aJ _)) (fI (cL (ao rE hr rfl T.rQ T.me.kp T.rP .nil aA (aa (pv 1) af)))))) (aj (aE (bL wJ rfl T.wW qx (aa (pv 1) af)))) aH)
   (aj dh))),?_⟩
   walk_at "rd"
   have e:(kj n).length=(ki n).length:=by simp [kj,Str.length]
   have:=nF hn
   rw [decide_eq_false (show ¬Str.ofString "number"=Str.ofString "name" by decide +kernel)]
   refine d5 (eS ⟨_,rfl,by lia,fun H1 S1=>⟨_,rfl,?_⟩⟩)
   rw [Es hn]
   exact eS ⟨n,rfl,hn,q H1 S1⟩
noncomputable def pR:L2.au→List Str
 | .take _ _=>[Str.ofString "name",Str.ofString "number"]
 | .join _ _ _ _=>[Str.ofString "name",Str.ofString "number",Str.ofString "number",Str.ofString "number"]
 | .put _ _=>[Str.ofString "number",Str.ofString "number"]
 | .fetch _ _=>[Str.ofString "number",Str.ofString "number"]
noncomputable def Kl (k w:Str) (v:V):Prop:=(k=Str.ofString "name"∧bw w=true∧v = .str w)∨∃n:Nat,k=Str.ofString "number"∧w=kj n∧n<10000∧v = .int n
inductive rZ:List Str→List Str→List V→Prop
 | nil:rZ [] [] []
 | cons {k w:Str}{v:V}{ks ws:List Str}{vs:List V}:Kl k w v→rZ ks ws vs→rZ (k::ks) (w::ws) (v::vs)
theorem rZ.at {ks ws:List Str}{vs:List V} (h:rZ ks ws vs):∀{i:Nat}{k w:Str},ks[i]? = some k→ws[i]? = some w→∃v,vs[i]? = some v∧Kl k w v:=by
 induction h with
 | nil=>intro i k w h;simp at h
 | cons r _ ih=>
  intro i k w h1 h2
  cases i with
  | zero=>
   simp only [List.getElem?_cons_zero,Option.some.injEq] at h1 h2
   subst h1 h2
   exact⟨_,rfl,r⟩
  | succ i=>
   simp only [List.getElem?_cons_succ] at h1 h2
   obtain⟨v,e,r⟩:=ih h1 h2
   exact⟨v,by rw [List.getElem?_cons_succ];exact e,r⟩
theorem rZ.len {ks ws:List Str}{vs:List V} (h:rZ ks ws vs):ks.length=ws.length∧vs.length=ws.length:=by
 induction h with
 | nil=>exact⟨rfl,rfl⟩
 | cons _ _ ih=>exact⟨by simp [ih.1],by simp [ih.2]⟩
theorem PV (d:L2.au) (ok:zG d):rZ (pR d) (bV d).tail (bP d).tail:=by
 have nm:∀x,Ni d=some x→Kl (Str.ofString "name") x (.str x):=fun x hx=>.inl ⟨rfl,ok.2 x hx,rfl⟩
 have nb:∀i∈d.bn++d.sn,Kl (Str.ofString "number") (cu i) (.int i):=fun i hi=>by
  have hb:=ok.1 i hi
  obtain⟨n,rfl⟩:∃n:Nat,i=n:=⟨i.toNat,by lia⟩
  exact .inr ⟨n,rfl,uc n,by omega,rfl⟩
 cases d with
 | take x i=>exact .cons (nm x rfl) (.cons (nb i (by simp [M.au.bn])) .nil)
 | join f i j l=>exact .cons (nm f rfl) (.cons (nb i (by simp [M.au.bn])) (.cons (nb j (by simp [M.au.bn])) (.cons (nb l (by simp [M.au.bn])) .nil)))
 | put i j=>exact .cons (nb i (by simp [M.au.bn])) (.cons (nb j (by simp [M.au.sn])) .nil)
 | fetch i j=>exact .cons (nb i (by simp [M.au.sn])) (.cons (nb j (by simp [M.au.bn])) .nil)
noncomputable def si (d:L2.au):Str:=(bV d).headD (Str.ofString "")
theorem BQ (d:L2.au):bV d=si d::(bV d).tail:=by cases d<;>rfl
theorem BU (d:L2.au):bP d = .str (si d)::(bP d).tail:=by cases d<;>rfl
theorem HS (R:FG P w K mg) (d:L2.au):∃t,dQ (rf R.t1 R.t2 R.t3 R.t4) (.inr (si d))=some (.ref t)∧xw K t ((pR d).map V.str):=by
 have n1:¬(Sum.inr (Str.ofString "take"):Key) = .inr (Str.ofString "join"):=by decide +kernel
 have n2:¬(Sum.inr (Str.ofString "take"):Key) = .inr (Str.ofString "put"):=by decide +kernel
 have n3:¬(Sum.inr (Str.ofString "take"):Key) = .inr (Str.ofString "fetch"):=by decide +kernel
 have n4:¬(Sum.inr (Str.ofString "join"):Key) = .inr (Str.ofString "put"):=by decide +kernel
 have n5:¬(Sum.inr (Str.ofString "join"):Key) = .inr (Str.ofString "fetch"):=by decide +kernel
 have n6:¬(Sum.inr (Str.ofString "put"):Key) = .inr (Str.ofString "fetch"):=by decide +kernel
 cases d with
 | take x i=>exact⟨R.t1,by simp [rf,dQ,si,bV],R.k1⟩
 | join f i j l=>exact⟨R.t2,by simp [rf,dQ,si,bV,n1],R.k2⟩
 | put i j=>exact⟨R.t3,by simp [rf,dQ,si,bV,n2,n4],R.k3⟩
 | fetch i j=>exact⟨R.t4,by simp [rf,dQ,si,bV,n3,n5,n6],R.k4⟩
noncomputable def K7:Sp:=fun vs H Q _=>∃(d:L2.au),vs=[.str (de d)]∧zG d∧∀v H',av H H'→Dt H' (cF d) v→Q v H'
seal lg PS PE PT PA PI eT in
theorem HQ (T:Txt K mg) (R:FG P w K mg):bz P w K mg base CX0 3 T.lS T.lO ["text"] K7:=by
 refine T.sd.ok (k:=2) pT (fun vs H Q E h=>?_) (fun bJ A outer s H vs Q E hr h=>?_)
 · obtain⟨d,rfl,_⟩:=h
   rfl
 obtain⟨d,rfl,ok,q⟩:=h
 have nd:=pT.nd
 have zq:=Hd (P:=P) (w:=w) (base:=base) T
 obtain⟨t,ht,kt⟩:=HS R d
 refine⟨_,(ah (aw (i:=1) nd rfl (Or.inl rfl) (jR PySem.F.plainAttrs_str PySem.F.slot_str_split PySem.F.type_str_split Ao (pv 0) (aa aD af)))
  (ah (aU (yQ (Fn R.d rfl R.m (ar bj (pv 1) ae (fun _ _=>rfl)))) (aj dh) aH)
  (ah (aw (i:=2) nd rfl (Or.inl rfl) (Jp R.d rfl R.m (ar bj (pv 1) ae (fun _ _=>rfl)) (fun _ _=>rfl)))
  (ah (aU (aF yX (aO kz rfl T.cJ bM (aa (pv 1) af)) (aq bo ae (aO fF rfl T.cJ bM (aa (pv 2) af))) (aJ _)) (aj dh) aH)
  (aj (aE (aq gn (aV (aa (ar bj (pv 1) ae (fun _ _=>rfl)) af)) (bL wI rfl T.CQ Au (aa (GJ (K:=K) (N:=["kind","word"]) (caps:=[]) rfl rfl ⟨rfl,rfl,rfl,rfl,rfl,by decide +kernel,rfl,rfl,rfl,rfl,rfl⟩ (C2 (K:=K) rfl rfl T.Lp (aa (pv 2) (aa (fO Iz (pv 1) (ff ae) m8) af))) (fun _ _ _ _=>cS) (fun _ _ _ _=>(ao zq hr rfl T.zr T.se.kp T.zD .nil aA (aa (pv 0) (aa (pv 1) af))))) af))))))))),?_⟩
 walk_at "rd"
 have rl:=PV d ok
 have ll:=rl.len
 have el:(Str.ofString " ").length≠0:=by decide +kernel
 refine⟨el,by have:=(nr ok).1;(clear ht ll el;lia),aI.mk fun p1 H1 S1 n1 e1=>?_⟩
 rw [Bu ok,BQ d,List.map_cons] at e1
 refine⟨p1,rfl,_,aC e1,_,aP,.inr (si d),rfl,?_⟩
 rw [ht]
 refine d5 ⟨p1,rfl,_,aC e1,_,aP,.inr (si d),rfl,_,ht,p1,rfl,_,aC e1,t,rfl,_,.inr (kt.sq H1),?_⟩
 have lk:(((V.str (si d)::List.map V.str (bV d).tail).length:Nat):Int)=1+((((pR d).map V.str).length:Nat):Int):=by rw [List.length_cons,List.length_map,List.length_map];lia
 rw [decide_eq_true lk]
 have l4:(pR d).length≤4:=by cases d<;>simp [pR]
 have Kf:jj (V.str (si d)::List.map V.str (bV d).tail) (some 1) none=List.map V.str (bV d).tail:=by
  have:=wM (xs:=V.str (si d)::List.map V.str (bV d).tail) (p:=1) (by simp)
  exact this
 refine d5 ⟨p1,rfl,_,aC e1,_,aP,by decide,aI.mk fun p2 H2 S2 n2 e2=>⟨p1,rfl,_,S2 _ _ e1,aI.mk fun p3 H3 S3 n3 e3=>⟨_,_,⟨rfl,rfl⟩,?_⟩⟩⟩
 rw [Kf] at e3
 refine r9.comp (p:=.t t) (q:=.l p3) (kt.sq H3) (fQ.of e3) (by rw [List.length_map,List.length_map];lia) (fun i ys H'=>ys=(bP d).tail.take i) (by simp) (by rw [List.length_map];(clear ht ll el n1 e1 lk e2 n3 e3 n2 Kf;lia)) (fun i ys H' h=>by rw [h];simp;(clear ht ll el n1 e1 lk l4 Kf n2 e2 n3 e3 h;lia)) (fun i x z ys H' ex ez S' h=>?_) (fun p4 ys H4 H5 S4 S5 h n5 e5=>?_)
 · obtain⟨Hx,_,_,h⟩:=h
   rw [List.getElem?_map] at ex ez
   obtain⟨k,ek,rfl⟩:=Option.map_eq_some_iff.mp ex
   obtain⟨z,ew,rfl⟩:=Option.map_eq_some_iff.mp ez
   obtain⟨v,ev,r⟩:=rl.at ek ew
   have enx:ys++[v]=(bP d).tail.take (i+1):=by rw [List.take_add_one,ev,h];rfl
   walk_at "rd"
   refine⟨_,rfl,_,rfl,z,?_⟩
   rcases r with ⟨rfl,hn,rfl⟩|⟨n,rfl,rfl,hn,rfl⟩
   · exact .inl ⟨rfl,hn,fun H6 S6=>⟨S'.trans S6,enx⟩⟩
   · exact .inr ⟨n,rfl,hn,rfl,fun H6 S6=>⟨S'.trans S6,enx⟩⟩
 · have e6:ys=(bP d).tail:=by rw [h];exact List.take_of_length_le (by rw [List.length_map];lia)
   rw [e6] at e5
   have l5:(bP d).tail.length≤4:=by lia
   refine⟨p4,rfl,_,e5,aI.mk fun p6 H6 S6 n6 e7=>⟨p2,rfl,p6,rfl,_,S6 _ _ (S5 _ _ (S4 _ _ (S3 _ _ e2))),_,e7,aN (by rw [List.length_singleton];(clear ht ll el n1 e1 lk l4 Kf n2 e2 n3 e3 h n5 e5 e7 n6 e6;lia)),fun p7 H7 S7 e8=>?_⟩⟩
   have e9:H7 p7=some (.tup (bP d)):=by rw [BU d];exact e8
   exact q _ H7 ((((((S1.trans S2).trans S3).trans S4).trans S5).trans S6).trans S7) (m9 e9)
noncomputable def JE:Sp:=fun vs H Q _=>∃(row:List L2.au),vs=[.str (pO row)]∧row.length≤1400∧(∀d∈row,zG d)∧∀p rs H',av H H'→H' p=some (.lst rs)→aR H' (row.map cF) rs→Q (.ref p) H'
theorem Cn {row:List L2.au} (h:row≠[]):pO row≠Str.ofString "":=fun e=>by
 obtain⟨d,r,rfl⟩:∃d r,row=d::r:=by
  cases row with
  | nil=>exact absurd rfl h
  | cons d r=>exact⟨d,r,rfl⟩
 have e1:(pO (d::r)).cps.toList=[]:=by rw [e];decide +kernel
 have e2:(pO (d::r)).cps.toList=jn [59,32] (((d::r).map de).map fun z=>z.cps.toList):=by
  unfold pO Txt.join
  rw [StrLaws.glued_eq_join,mh,MO]
 have e3:(de d).cps.toList=jn [32] ((bV d).map fun z=>z.cps.toList):=by
  unfold de Txt.join
  rw [StrLaws.glued_eq_join,mh,Kp]
 have e4:(de d).cps.toList≠[]:=by
  rw [e3]
  cases d<;>simp [bV,jn]
 rw [e2] at e1
 cases r with
 | nil=>exact e4 e1
 | cons a r=>simp only [List.map_cons,jn,List.append_eq_nil_iff] at e1;exact e4 e1.1.1
seal lg PS PE PT PA PI eT in
theorem GU (T:Txt K mg) (R:FG P w K mg):bz P w K mg base CX0 4 T.oJ T.oF ["text"] JE:=by
 refine T.tT.ok (k:=3) rO (fun vs H Q E h=>?_) (fun bJ A outer s H vs Q E hr h=>?_)
 · obtain⟨row,rfl,_⟩:=h
   rfl
 obtain⟨row,rfl,hl,ok,q⟩:=h
 have nd:=rO.nd
 have An:=HQ (P:=P) (w:=w) (base:=base) T R
 refine⟨_,(ah (aU (aF br (pv 0) aD (aJ _)) (aj (aE (bb af))) aH)
  (aj (aE (dI (N:=["deed"]) (caps:=[]) rfl ⟨rfl,rfl,rfl,rfl,by decide +kernel,rfl,rfl,rfl,rfl⟩ (wb (jR PySem.F.plainAttrs_str PySem.F.slot_str_split PySem.F.type_str_split Ao (pv 0) (aa aD af))) (fun _ _ _ _=>cS) (fun _ _ _ _=>(ao An hr rfl T.zF T.sd.kp T.zH .nil aA (aa (pv 0) af))))))),?_⟩
 walk_at "rd"
 by_cases h0:row=[]
 · subst h0
   rw [decide_eq_true (show pO []=Str.ofString "" by decide +kernel)]
   exact eS ⟨Nat.zero_le _,aI.mk fun p1 H1 S1 n1 e1=>q p1 [] H1 S1 e1 .nil⟩
 · rw [decide_eq_false (Cn h0)]
   have el:(Str.ofString "; ").length≠0:=by decide +kernel
   have lr:=FA ok
   refine d5 ⟨el,by lia,aI.mk fun p1 H1 S1 n1 e1=>?_⟩
   rw [EA h0 ok] at e1
   refine WalkL.comp e1 (fun i ys H'=>aR H' ((row.take i).map cF) ys) .nil (by simp;lia) (fun i ys H' h=>by have:=h.length;rw [List.length_map] at this;simp at this;(clear hl h0 el lr n1 e1;lia)) (fun i x ys H' ex S' h=>?_) (fun p2 ys H2 H3 S2 S3 h n3 e3=>?_)
   · have hi:i<row.length:=by have:=(List.getElem?_eq_some_iff.mp ex).1;simpa using this
     have e0:row[i]? = some row[i]:=List.getElem?_eq_getElem hi
     rw [List.getElem?_map,List.getElem?_map,e0] at ex
     cases ex
     have BX:=ok _ (List.getElem_mem hi)
     generalize row[i]=d at e0 BX
     walk_at "rd"
     refine⟨d,rfl,BX,fun v H4 S4 dv=>⟨S'.trans S4,?_⟩⟩
     rw [List.take_add_one,e0,List.map_append]
     exact(h.same S4).append (.one dv)
   · rw [List.length_map,List.length_map,List.take_length] at h
     exact q p2 ys H3 ((S1.trans S2).trans S3) e3 (h.same S3)
noncomputable def Jo (row:List L2.au):List V:=[.int (cnt (Str.ofString "take") row),.int (cnt (Str.ofString "join") row),.int (cnt (Str.ofString "put") row),.int (cnt (Str.ofString "fetch") row)]
noncomputable def QS:Sp:=fun vs H Q _=>∃(row:List L2.au) (pr:Addr) (rs:List V),vs=[.ref pr]∧H pr=some (.lst rs)∧aR H (row.map cF) rs∧row.length≤1400∧∀p H',av H H'→H' p=some (.tup (Jo row))→Q (.ref p) H'
seal lg PS PE PT PA PI eT in
theorem NT (T:Txt K mg):bz P w K mg base CX0 1 T.rp T.qe ["row"] QS:=by
 refine T.v9.ok (k:=0) uo (fun vs H Q E h=>?_) (fun bJ A outer s H vs Q E hr h=>?_)
 · obtain⟨row,pr,rs,rfl,_⟩:=h
   rfl
 obtain⟨row,pr,rs,rfl,er,dr,hl,q⟩:=h
 have nd:=uo.nd
 refine⟨_,(ah (aw (i:=1) nd rfl (Or.inr rfl) (dI (N:=["deed"]) (caps:=[]) rfl ⟨rfl,rfl,rfl,rfl,by decide +kernel,rfl,rfl,rfl,rfl⟩ (wb (pv 0)) (fun _ _ _ _=>cS) (fun _ _ _ _=>(ar bj (pv 0) ae (fun _ _=>rfl)))))
  (aj (aE (bL wI rfl T.CQ Au (aa (dI (N:=["kind","kinds"]) (caps:=[1]) rfl ⟨rfl,rfl,rfl,rfl,by decide +kernel,rfl,rfl,rfl,rfl⟩ (TH (aV (aa aD (aa aD (aa aD (aa aD af)))))) (fun _ _ _ _=>cS) (fun _ _ _ _=>(G9 (K:=K) rfl PySem.F.plainAttrs_list PySem.F.slot_list_count PySem.F.type_list_count Fh (pv 1) (aa (pv 0) af)))) af))))),?_⟩
 refine gU fun C hC=>?_
 walk_at "rd"
 have lr:=dr.length
 rw [List.length_map] at lr
 refine WalkL.comp er (fun i ys H'=>ys=((row.take i).map sY).map V.str) rfl (by lia) (fun i ys H' h=>by rw [h];simp;(clear er hl hC lr h;lia)) (fun i x ys H' ex S' h=>?_) (fun p1 ys H1 H2 S1 S2 h n2 e2=>?_)
 · have hi:i<row.length:=by have:=(List.getElem?_eq_some_iff.mp ex).1;lia
   have e0:row[i]? = some row[i]:=List.getElem?_eq_getElem hi
   obtain⟨y,hy,dy⟩:=aR.dD dr e0
   rw [ex] at hy;cases hy
   generalize row[i]=d at e0 dy
   obtain⟨b,rfl,eb⟩:=gr (dy.same S')
   obtain⟨r0,ev⟩:=C3 d
   rw [ev] at eb
   walk_at "rd"
   refine⟨_,ak eb,_,aP,S',?_⟩
   rw [h,List.take_add_one,e0];simp
 · rw [lr,List.take_length] at h
   rw [h] at e2
   rw [hC]
   clear hC C
   walk_at "rd"
   have cw:∀x:Str,((row.map sY).countP fun y=>decide (y=x))=cnt x row:=fun x=>by rw [List.countP_map];rfl
   refine⟨by decide,aI.mk fun p3 H3 S3 n3 e3=>?_⟩
   refine nW.comp e3 (fun i ys H'=>ys=(Jo row).take i) rfl (by decide) (fun i ys H' h=>by rw [h,List.length_take];(clear er hl lr n2 e2 n3 e3 h;lia)) (fun i x ys H' ex S' h=>?_) (fun p4 ys H4 H5 S4 S5 h n5 e5=>?_)
   · have yT:=S' _ _ (S3 _ _ e2)
     have hi:i<4:=by have:=(List.getElem?_eq_some_iff.mp ex).1;simpa using this
     walk_at "rd"
     rcases (show i=0∨i=1∨i=2∨i=3 by (clear er hl lr n2 e2 n3 h yT ex;lia)) with rfl|rfl|rfl|rfl
     all_goals
      cases ex
      refine⟨lJ yT,_,_,rfl,yT,S',?_⟩
      rw [cw,h];rfl
   · have h:ys=Jo row:=h
     rw [h] at e5
     exact⟨p4,rfl,_,e5,aI.mk fun p6 H6 S6 n6 e6=>q p6 H6 (((((S1.trans S2).trans S3).trans S4).trans S5).trans S6) e6⟩
theorem Fb {H:Hp}{a b c d:Int}{v:V} (h:Dt H (LA a b c d) v):∃p,v = .ref p∧H p=some (.tup [.int a,.int b,.int c,.int d]):=by
 obtain⟨p,vs,rfl,e,h⟩:=fG.mp h
 obtain⟨v1,r,rfl,h1,h⟩:=aW.mp h
 obtain⟨v2,r,rfl,h2,h⟩:=aW.mp h
 obtain⟨v3,r,rfl,h3,h⟩:=aW.mp h
 obtain⟨v4,r,rfl,h4,h⟩:=aW.mp h
 rw [eZ.mp h,aQ.mp h1,aQ.mp h2,aQ.mp h3,aQ.mp h4] at e
 exact⟨p,rfl,e⟩
noncomputable def cQ (t:L2.Tree) (k:Nat) (row:List L2.au):List Int:=[(cnt (Str.ofString "take") row:Int) - (nK t+1:Nat),(cnt (Str.ofString "join") row:Int) - nK t,(cnt (Str.ofString "put") row:Int) - (jQ t k).length,(cnt (Str.ofString "fetch") row:Int) - (jQ t k).length]
theorem Dg {t:L2.Tree}{k:Nat}{row:List L2.au} (hlen:t.lv.length≤32) (cH:row.length≤1400):∀j∈cQ t k row,j.natAbs<10000:=fun j hj=>by
 have cl:∀x,cnt x row≤1400:=fun x=>Nat.le_trans List.countP_le_length cH
 have nk:=uh t
 have mk:(jQ t k).length≤1000:=by
  have:=List.length_filter_le (uk k) (t.wk [])
  have w:=t.kD []
  have e:(jQ t k).length=((t.wk []).filter (uk k)).length:=List.length_map ..
  (clear cH nk;lia)
 simp only [cQ,List.mem_cons,List.not_mem_nil,or_false] at hj
 have c1:=cl (Str.ofString "take")
 have c2:=cl (Str.ofString "join")
 have c3:=cl (Str.ofString "put")
 have c4:=cl (Str.ofString "fetch")
 rcases hj with rfl|rfl|rfl|rfl<;>(clear cH;omega)
theorem Dm {l:List Int} (l4:l.length=4) (bd:∀j∈l,j.natAbs<10000):((l.map cu).map (·.length)).sum≤8000∧(Txt.join (Str.ofString " ") (l.map cu)).length≤9000:=by
 have il:∀j∈l,(cu j).length≤2000:=fun j hj=>by
  have:=SS (bd j hj)
  have:=PyProof.Rows.int_text_len_1921 (i:=j) (by lia)
  unfold cu;lia
 have y7:((l.map cu).map (·.length)).sum≤8000:=by
  have h4:∀l:List Int,(∀j∈l,(cu j).length≤2000)→((l.map cu).map (·.length)).sum≤2000*l.length:=by
   intro l
   induction l with
   | nil=>intro _;simp
   | cons a l ih=>
    intro h
    have a1:=h a (by simp)
    have a2:=ih fun j hj=>h j (by simp [hj])
    simp only [List.map_cons,List.sum_cons,List.length_cons] at a2 ⊢
    (clear l4 ih;lia)
  have:=h4 _ il
  lia
 refine⟨y7,?_⟩
 have e:(Txt.join (Str.ofString " ") (l.map cu)).cps.toList=jn [32] ((l.map cu).map fun z=>z.cps.toList):=by
  unfold Txt.join
  rw [StrLaws.glued_eq_join,mh,Kp]
 have h1:=xX [32] ((l.map cu).map fun z=>z.cps.toList)
 rw [←e] at h1
 have h3:(((l.map cu).map fun z=>z.cps.toList).map List.length)=(l.map cu).map (·.length):=by rw [List.map_map];rfl
 rw [h3] at h1
 have h5:(Txt.join (Str.ofString " ") (l.map cu)).cps.toList.length=(Txt.join (Str.ofString " ") (l.map cu)).length:=by simp [Str.length]
 simp only [List.length_cons,List.length_nil,List.length_map,l4] at h1
 (clear l4 e h3;lia)
noncomputable def vm (t:L2.Tree) (k:Nat) (row:List L2.au):MS:=row.foldl (M.mark t) (jS k 100)
noncomputable def JK (T:Txt K mg):Sp:=fun vs H Q _=>∃(z:Str) (t:L2.Tree) (k:Nat) (row:List L2.au),vs=[.str z,.int k,.str (pO row)]∧z.length≤50000∧z.cps.toList=fD t∧t.dp≤24∧t.lv.length≤32∧(∀x∈t.lv,bw x=true)∧(∀x∈t.kn,bw x=true)∧t.lv.Nodup∧(2≤k∨t.eR=true∧1≤k)∧k≤10∧row.length≤1400∧(∀d∈row,zG d)∧Li k 100 row∧
 (M.held (vm t k row).1 []=false→∀H',av H H'→Q (.str (Str.ofString "not held")) H')∧(M.held (vm t k row).1 []=true→(cQ t k row).any (fun j=>j != 0)=false→∀H',av H H'→Q (.str (Str.ofString "least")) H')∧
 (M.held (vm t k row).1 []=true→(cQ t k row).any (fun j=>j != 0)=true→∀H',av H H'→Q (.str (Str.ofString "held "++Txt.join (Str.ofString " ") ((cQ t k row).map cu))) H')
seal lg PS PE PT PA PI eT in
theorem G1 (T:Txt K mg) (R:FG P w K mg):bz P w K mg base (CXE P w) 40 T.xV T.yt ["text","k","rowtext"] (JK T):=by
 refine T.Ee.Uc (k:=39) zK (fun vs H Q E h=>?_) (fun bJ A outer s H vs Q E hr h L=>?_)
 · obtain⟨z,t,k,row,rfl,_⟩:=h
   rfl
 obtain⟨z,t,k,row,rfl,hz,ez,hd,hlen,CO,sW,Th,zT,cf,cH,okt,okr,q1,q2,q3⟩:=h
 have nd:=zK.nd
 have Ot:=(GK (P:=P) (w:=w) (base:=base) T).mono (k:=39) (by omega)
 have AK:=(GU (P:=P) (w:=w) (base:=base) T R).mono (k:=39) (by omega)
 have Jx:=(Gg (P:=P) (w:=w) (base:=base) T).mono (k:=39) (by omega)
 have Et:=(Od (P:=P) (w:=w) (base:=base) T).mono (k:=39) (by omega)
 have tD:=(G6 (P:=P) (w:=w) (base:=base) T).mono (k:=39) (by omega)
 have Em:=(NT (P:=P) (w:=w) (base:=base) T).mono (k:=39) (by omega)
 refine⟨_,(ah (aw (i:=3) nd rfl (Or.inl rfl) (ao Ot hr rfl T.Nj T.HX.kp T.NF .nil aA (aa (pv 0) af)))
  (ah (aw (i:=4) nd rfl (Or.inl rfl) (ao AK hr rfl T.BR T.tT.kp T.Bn .nil aA (aa (pv 2) af)))
  (ah (aw (i:=5) nd rfl (Or.inl rfl) (ao Jx hr rfl T.JO T.DS.kp T.Ju .nil (LC L) (aa (pv 3) (aa (pv 1) af))))
  (ah (aw (i:=6) nd rfl (Or.inl rfl) (ao Et hr rfl T.EW T.wB.kp T.E8 .nil aA (aa (pv 3) (aa (aO (EC rfl) rfl T.Hy Bp (aa (pv 1) (aa (jX (v:=.int 10000) rfl T.xY ⟨_,rfl⟩) af))) (aa (jX (v:=.int 100) rfl T.uU ⟨_,rfl⟩) (aa (pv 4) af))))))
  (ah (aU (mB (cL (ao tD hr rfl T.tm T.mm.kp T.uF .nil aA (aa (ar bj (pv 6) (Ae tX ae) (fun _ _=>rfl)) af)))) (aj (aE aD)) aH)
  (ah (Hz (K:=K) (i:=7) (N:=["has","need"]) (caps:=[]) rfl rfl ⟨rfl,rfl,rfl,rfl,rfl,by decide +kernel,rfl,rfl,rfl,rfl,rfl⟩ (C2 (K:=K) rfl rfl T.Lp (aa (ao Em hr rfl T.E9 T.v9.kp T.EY .nil aA (aa (pv 4) af)) (aa (pv 5) af))) (fun _ _ _ _=>cS) (fun _ _ _ _=>(aq fK (pv 0) (pv 1))) nd rfl rfl rfl)
  (ah (aU (mB (cL (aO (E7 rfl) rfl T.Qm OC (aa (pv 7) af)))) (aj (aE aD)) aH)
  (ah (aw (i:=8) nd rfl (Or.inl rfl) (jR PySem.F.plainAttrs_str PySem.F.slot_str_join PySem.F.type_str_join oX aD (aa (dI (N:=["number"]) (caps:=[]) rfl ⟨rfl,rfl,rfl,rfl,by decide +kernel,rfl,rfl,rfl,rfl⟩ (wb (pv 7)) (fun _ _ _ _=>cS) (fun _ _ _ _=>(bL qZ rfl T.wD qD (aa (pv 0) af)))) af)))
  (aj (aE (LV (.cons aD (.cons (I8 (pv 8)) .nil))))))))))))),?_⟩
 refine Pf fun C hC=>?_
 walk_at "rd"
 refine⟨z,t,rfl,hz,ez,hd,hlen,CO,sW,Th,fun v H1 S1 dv=>?_⟩
 refine⟨row,rfl,cH,okt,fun pr rs H2 S2 er dr=>?_⟩
 have nf:¬M6 t (k:Int):=fun h=>by
  unfold M6 at h
  rcases zT with y|⟨y,y2⟩
  · (clear hz ez hd hlen cf cH q1 q2 q3 hC er;lia)
  · have:nK t=0:=by
     cases t with
     | leaf x=>rfl
     | knot f l r=>simp [M.Tr.eR] at y
    (clear hz ez hd hlen cf cH q1 q2 hC er;lia)
 refine⟨t,k,v,rfl,dv.same S2,hd,hlen,Nat.lt_of_le_of_lt (Nat.log2_le_self _) (by (clear q1 q2 q3 hC er nf hz ez hd hlen cH zT;omega)),fun h=>absurd h nf,fun _ v4 H3 S3 d4=>⟨_,_,⟨rfl,rfl⟩,?_⟩⟩
 rw [if_neg (show ¬(10000:Int)<k by (clear q1 q2 q3 hC er nf hz ez hd hlen cH zT;lia))]
 refine⟨t,k,100,row,v,pr,rs,rfl,(dv.same S2).same S3,hd,hlen,by (clear q1 q2 q3 hC er nf hz ez hd hlen cH zT;lia),by omega,by (clear q1 q2 q3 hC er nf hz ez hd hlen zT cf;lia),S3 _ _ er,dr.same S3,okr,?_⟩
 intro p vs l b s1 ws us G H4 st pre xR SG SG4 gp ep dpre el gb gs Ck AD pF eb es db ds
 have S34:=SG.trans SG4
 have Js:st=vm t k row:=wK t row _ pre st xR
 have S04:=((S1.trans S2).trans S3).trans S34
 have KC:=S34 _ _ (S3 _ _ er)
 have dr4:=(dr.same S3).same S34
 obtain⟨pf,rfl,ef⟩:=Fb (d4.same S34)
 rw [←Js] at q1 q2 q3
 rw [hC]
 clear hC C
 refine gU fun C hC=>?_
 walk_at "rd"
 refine⟨_,aC ep,_,um vs _,st,_,rfl,C4 el eb es db ds,fun H5 S5=>⟨_,rfl,?_⟩⟩
 cases hh:M.held st.1 [] with
 | false=>exact eS (q1 hh _ (S04.trans S5))
 | true=>
 refine d5 ?_
 rw [hC]
 clear hC C
 refine gU fun C hC=>?_
 walk_at "rd"
 refine⟨row,pr,rs,rfl,S5 _ _ KC,dr4.same S5,cH,fun p6 H6 S6 e6=>⟨_,_,⟨rfl,rfl⟩,?_⟩⟩
 have Kj:=S6 _ _ (S5 _ _ ef)
 refine r9.comp (p:=.t p6) (q:=.t pf) (jE.of e6) (jE.of Kj) rfl (fun i ys H'=>ys=((cQ t k row).map V.int).take i) rfl (show 4≤100000 by decide) (fun i ys H' h=>by rw [h,List.length_take];(clear hz ez hd hlen zT cf cH er nf q3 q2 q1 xR gp ep el gb gs Ck AD pF eb es Js KC ef hh hC e6 Kj h;lia)) (fun i x y ys H' ex ey S' h=>?_) (fun p7 ys H7 H8 S7 S8 h n8 e8=>?_)
 · obtain⟨Hx,_,_,h⟩:=h
   have hi:i<4:=by have:=(List.getElem?_eq_some_iff.mp ex).1;simpa [Jo] using this
   walk_at "rd"
   refine⟨_,rfl,_,rfl,?_⟩
   rcases (show i=0∨i=1∨i=2∨i=3 by (clear hz ez hd hlen zT cf cH er nf q3 q2 q1 xR gp ep el gb es Js KC ef hh hC e6 Kj ex ey pF eb h Ck AD;lia)) with rfl|rfl|rfl|rfl
   all_goals
    cases ex
    cases ey
    refine⟨_,rfl,_,rfl,S',?_⟩
    rw [h];rfl
 · have h:ys=(cQ t k row).map V.int:=h
   rw [h] at e8
   rw [hC]
   clear hC C
   refine gU fun C hC=>?_
   walk_at "rd"
   have S48:=((S5.trans S6).trans S7).trans S8
   refine⟨_,fQ.of e8,?_⟩
   cases ha:(cQ t k row).any fun j=>j != 0 with
   | false=>exact eS (q2 hh ha _ (S04.trans S48))
   | true=>
   refine d5 ?_
   rw [hC]
   clear hC C
   walk_at "rd"
   have bd:∀j∈cQ t k row,j.natAbs<10000:=Dg hlen cH
   have sl:∀n:Nat,n≤100000→n≤sizeLine:=fun n h=>Nat.le_trans h (by decide)
   refine WalkL.comp e8 (fun i ys H'=>ys=(((cQ t k row).take i).map cu).map V.str) rfl (show 4≤100000 by decide) (fun i ys H' h=>by rw [h];simp;(clear hz ez hd hlen zT cf cH er nf q3 q2 q1 xR gp ep el gb gs Ck AD pF eb es Js KC ef hh e6 Kj n8 e8 ha h;lia)) (fun i x ys H' ex S' h=>?_) (fun p9 ys H9 HA S9 SA h nA eA=>?_)
   · rw [List.getElem?_map] at ex
     obtain⟨j,ej,rfl⟩:=Option.map_eq_some_iff.mp ex
     walk_at "rd"
     refine .inr ⟨SS (bd j (List.mem_of_getElem? ej)),S',?_⟩
     rw [h,List.take_add_one,ej];simp
   · have h:ys=((cQ t k row).map cu).map V.str:=h
     rw [h] at eA
     obtain⟨y7,jl⟩:=Dm (show (cQ t k row).length=4 from rfl) bd
     have e1:(Str.ofString " ").length=1:=by decide +kernel
     have ee:Str.empty++Str.ofString "held "=Str.ofString "held ":=by decide +kernel
     have e5:(Str.ofString "held ").length=5:=by decide +kernel
     have ea:(Str.ofString "held "++Txt.join (Str.ofString " ") ((cQ t k row).map cu)).length=5+(Txt.join (Str.ofString " ") ((cQ t k row).map cu)).length:=by rw [←e5];simp only [Str.length,Str.cps_append,Array.size_append]
     refine⟨p9,rfl,(cQ t k row).map cu,.inl (fQ.of eA),by rw [e1];have:((cQ t k row).map cu).length=4:=rfl;(clear hz ez hd hlen zT cf cH er nf q3 q2 q1 xR gp ep el gb gs Ck AD pF eb es Js KC ef hh e6 Kj n8 e8 ha ee e5 ea nA eA jl e1 h;lia),?_⟩
     rw [ee,ea]
     exact⟨sl _ (by (clear hz ez hd hlen zT cf cH er nf q3 q2 q1 xR gp ep el gb gs Ck AD pF eb es Js KC ef hh e6 Kj n8 e8 ha nA eA h y7 jl e1 ee;lia)),sl _ (by (clear hz ez hd hlen zT cf cH er nf q3 q2 q1 xR gp ep el gb gs Ck AD pF eb es Js KC ef hh e6 Kj n8 e8 ha ee e5 ea nA eA h e1 y7;lia)),sl _ (by (clear hz ez hd hlen zT cf cH er nf q3 q2 q1 xR gp ep el gb gs Ck AD pF eb es Js KC ef hh e6 Kj n8 e8 ha ee e5 ea nA eA h e1 y7;lia)),sl _ (by (clear hz ez hd hlen zT cf cH er nf q3 q2 q1 xR gp ep el gb gs Ck AD pF eb es Js KC ef hh e6 Kj n8 e8 ha ee e5 ea nA eA h e1 y7;lia)),q3 hh ha _ ((S04.trans S48).trans (S9.trans SA))⟩
noncomputable def wo (pp:Addr) (H:Hp):Hp:=fun a=>if a=pp then none else H a
theorem cE {pp c:Addr}{H:Hp} (h:c≠pp):wo pp H c=H c:=if_neg h
theorem iA {pp:Addr}{H:Hp}:av (wo pp H) H:=fun c o e=>by
 by_cases y:c=pp
 · unfold wo at e;rw [if_pos y] at e;cases e
 · rw [cE y] at e;exact e
theorem bQ {pp:Addr}{H H':Hp} (S:av H H'):av (wo pp H) (wo pp H'):=fun c o e=>by
 by_cases y:c=pp
 · unfold wo at e;rw [if_pos y] at e;cases e
 · rw [cE y] at e ⊢;exact S _ _ e
theorem oP {pp:Addr}{H H':Hp} (k:∀c,c≠pp→H' c=H c):av (wo pp H) (wo pp H'):=fun c o e=>by
 by_cases y:c=pp
 · unfold wo at e;rw [if_pos y] at e;cases e
 · rw [cE y] at e ⊢;rw [k c y];exact e
theorem C9 {pp c:Addr}{H:Hp}{o:HO} (e:wo pp H c=some o):c≠pp:=fun y=>by
 unfold wo at e;rw [if_pos y] at e;cases e
noncomputable def iR (t:L2.Tree):Nat:=2*t.lv.length - 1
noncomputable def nk (t:L2.Tree):Nat:=t.lv.length - 1
theorem two_mul (n u v:Nat):n*(1+u)+n*(1+v)=n*(1+(u+v+1)):=by
 rw [←Nat.mul_add];congr 1;lia
theorem sJ (n m e u v:Nat):n*(1+u)+m*(1+v)+e≤(n+m+e)*(1+(u+v)):=by
 have h1:n*(1+u)≤n*(1+(u+v)):=Nat.mul_le_mul_left _ (by lia)
 have h2:m*(1+v)≤m*(1+(u+v)):=Nat.mul_le_mul_left _ (by (clear h1;lia))
 have h3:e*1≤e*(1+(u+v)):=Nat.mul_le_mul_left _ (by (clear h1 h2;lia))
 rw [Nat.add_mul,Nat.add_mul]
 lia
theorem ye {pp p:Addr}{H H':Hp}{o:HO} (W:av (wo pp H) (wo pp H')) (e:H' pp=some o) (z:H' p=none):H p=none:=by
 have hp:p≠pp:=fun y=>by rw [y,e] at z;cases z
 cases q:H p with
 | none=>rfl
 | some o'=>
  have:=W p o' (by rw [cE hp];exact q)
  rw [cE hp,z] at this;cases this
theorem iX {d:L2.au}{k:Int}{m m':Nat} (h:d.ok k m) (l:m≤m'):d.ok k m':=⟨h.1,fun i hi=>⟨(h.2 i hi).1,by have:=(h.2 i hi).2;lia⟩⟩
theorem qN {a b:Nat} (h1:a≤63) (h2:b≤3):a*b≤189:=Nat.mul_le_mul h1 h2
theorem Rt {r c:Bool}{X Y A B:Prop} (x:X) (y:Y) (hA:r=true→c=true→A) (hB:B):if r=true then (X∧Y∧if c=true then A else B) else B:=by
 cases r
 · exact hB
 · refine⟨x,y,?_⟩
   cases c
   · exact hB
   · exact hA rfl rfl
theorem Ge (x y:V) (l:List V):jj (x::y::l) (some 1) none=y::l:=by
 unfold jj
 have h1:HT.cW (x::y::l).length 0 (some 1)=1:=by
  show (if (1:Int)<0 then ((1:Int)+((x::y::l).length:Int)).toNat else min (1:Int).toNat (x::y::l).length)=1
  rw [if_neg (by decide)]
  simp
 rw [h1]
 show ((x::y::l).drop 1).take ((x::y::l).length - 1)=_
 simp
noncomputable def jd (t:L2.Tree):L2.au→Prop
 | .take x _=>x∈t.lv
 | .join f _ _ _=>f∈t.kn
 | _=>True
theorem yy {t u:L2.Tree}{d:L2.au} (h:jd t d) (h1:∀z∈t.lv,z∈u.lv) (h2:∀z∈t.kn,z∈u.kn):jd u d:=by
 cases d with
 | take x i=>exact h1 _ h
 | join f i j l=>exact h2 _ h
 | put i j=>trivial
 | fetch j i=>trivial
noncomputable def JU (K:PySem.W.Frag) (n:Nat):Sp:=fun vs H Q _=>∃(a pp pf:Addr) (ns:List Int) (t:L2.Tree) (v:V) (fr:List Int) (k:Int) (c s ag:Nat) (md:Int),vs=[.ref a,.ref pp,v,.ref pf]∧fQ K (wo pp H) a (ns.map V.int)∧ns.length≤63∧Dt (wo pp H) (dT t) v∧wo pp H pf=some (.lst (fr.map V.int))∧
 H pp=some (.lst [.int c,.int s,.int ag,.int md])∧(∀i∈fr,M.tO k i)∧(t.eR=true∨2≤fr.length)∧1≤fr.length∧fr.length≤10∧t.dp≤n∧t.lv.length≤32∧ag≤2∧c+iR t*(1+ag)≤900000∧
 ∀(p:Addr) (xs:List V) (row:List L2.au) (c' s' JV:Nat) (H':Hp),av (wo pp H) (wo pp H')→H p=none→H' p=some (.lst xs)→aR (wo pp H') (row.map cF) xs→H' pp=some (.lst [.int (c':Nat),.int (s':Nat),.int (JV:Nat),.int md])→JV≤ag→c'≤c+iR t*(1+(ag - JV))→s'≤s+nk t*(1+(ag - JV))→
  (∀d∈row,d.ok k (s+nk t*(1+(ag - JV)):Nat)∧jd t d)→row.length≤6*(iR t*(1+(ag - JV)))→Q (.ref p) H'
set_option pp.deepTerms true in
theorem zo (T:Txt K mg):∀n:Nat,bz P w K mg base CX0 (n+2) T.ja T.jr ["script","pot","tree","free"] (JU K n)
 | 0=>by
  refine T.cC.ok (k:=1) iC (fun vs H Q E h=>?_) (fun bJ A outer s H vs Q E hr h=>?_)
  · obtain⟨a,pp,pf,ns,t,v,fr,k,c,s,ag,md,rfl,_⟩:=h
    rfl
  · obtain⟨a,pp,pf,ns,t,v,fr,k,c,s,ag,md,rfl,_,_,_,_,_,_,_,_,_,h,_⟩:=h
    have:=t.lV
    omega
 | n+1=>by
  refine T.cC.ok (k:=n+2) iC (fun vs H Q E h=>?_) (fun bJ A outer s H vs Q E hr h=>?_)
  · obtain⟨a,pp,pf,ns,t,v,fr,k,c,s,ag,md,rfl,_⟩:=h
    rfl
  obtain⟨a,pp,pf,ns,t,v,fr,k,c,sh,ag,md,rfl,hS,aK,ht,ef,ep,Mn,cX,cR,ba,bf,bA,cP,hc,q⟩:=h
  have OQ:=iC.nd
  have nd:=OQ
  have aZ:=(rM (P:=P) (w:=w) (base:=base) T).mono (k:=n+2) (by (clear aK ef ep cX cR ba bf bA cP hc;lia))
  have dk:=zo T n
  refine⟨_,(ah (gh (aq bo (ar bj (pv 1) ae (fun _ _=>rfl)) ae) (gH (pv 1) ae set_list))
  (ah (aw (i:=4) nd rfl (Or.inl rfl) (ao aZ hr rfl T.bu T.bp.kp T.bt .nil aA (aa (pv 0) (aa (ar bj (pv 1) ae (fun _ _=>rfl)) af))))
  (ah (aU (aF br (ar bj (pv 2) ae (fun _ _=>rfl)) aD (aJ _)) (aj (aE (bb (aa (aV (aa aD (aa (ar bj (pv 2) ae (fun _ _=>rfl)) (aa (ar bj (pv 3) ae (fun _ _=>rfl)) af)))) af)))) aH)
  (ah (aw (i:=5) nd rfl (Or.inl rfl) (aq bo ae (aq aY (pv 4) ae)))
  (ah (aw (i:=6) nd rfl (Or.inl rfl) (ao dk hr rfl T.fc T.cC.kp T.fe .nil aA (aa (pv 0) (aa (pv 1) (aa (ar bj (pv 2) (pv 5) (fun _ _=>rfl)) (aa (pv 3) af))))))
  (ah (aU (PW.pt (gM (aF br (aq aY (aq bF (pv 4) ae) ae) ae (aJ _)) (fI (aF kT (ar bj (pv 1) ae (fun _ _=>rfl)) ae (aJ _))))) (ah (gh (aq fK (ar bj (pv 1) ae (fun _ _=>rfl)) ae) (gH (pv 1) ae set_list))
    (aj (aw (i:=6) nd rfl (Or.inl rfl) (aq eO (pv 6) (ao dk hr rfl T.fc T.cC.kp T.fe .nil aA (aa (pv 0) (aa (pv 1) (aa (ar bj (pv 2) (pv 5) (fun _ _=>rfl)) (aa (pv 3) af))))))))) aH)
  (ah (aw (i:=7) nd rfl (Or.inl rfl) (Gy (cB kT (aO kz rfl T.cJ bM (aa (pv 3) af)) ae (aJ _)) (jW (mF (cB kT (aO kz rfl T.cJ bM (aa (pv 3) af)) ae (aJ _)) (jW (cB br (ar bj (ar bj (pv 2) (aq fK ae (pv 5)) (fun _ _=>rfl)) ae (fun _ _=>rfl)) aD (aJ _)))))))
  (ah (aw (i:=8) nd rfl (Or.inl rfl) (bb (aa (ar bj (pv 3) ae (fun _ _=>rfl)) (aa (ar bj (pv 3) ae (fun _ _=>rfl)) af))))
  (ah (aU (PW.pt (gM (cL (pv 7)) (fI (aF kT (aq aY (aq bF (pv 4) ae) ae) ae (aJ _))))) (aj (aw (i:=6) nd rfl (Or.inl rfl) (aq eO (pv 6) (ao dk hr rfl T.fc T.cC.kp T.fe .nil aA (aa (pv 0) (aa (pv 1) (aa (ar bj (pv 2) (aq fK ae (pv 5)) (fun _ _=>rfl)) (aa (fO Iz (pv 3) (ff ae) m8) af)))))))) (ah (aw (i:=9) nd rfl (Or.inl rfl) (ar bj (pv 1) ae (fun _ _=>rfl)))
    (ah (gh (aq bo (pv 9) ae) (gH (pv 1) ae set_list))
    (ah (aw (i:=6) nd rfl (Or.inl rfl) (aq eO (aq eO (pv 6) (bb (aa (aV (aa aD (aa (ar bj (pv 3) ae (fun _ _=>rfl)) (aa (pv 9) af)))) af))) (aq ox (bb (aa (aV (aa aD (aa (pv 9) (aa (ar bj (pv 3) ae (fun _ _=>rfl)) af)))) af)) (aq bF (aq aY (aq bF (pv 4) ae) ae) ae))))
    (ah (aw (i:=6) nd rfl (Or.inl rfl) (aq eO (aq eO (pv 6) (ao dk hr rfl T.fc T.cC.kp T.fe .nil aA (aa (pv 0) (aa (pv 1) (aa (ar bj (pv 2) (aq fK ae (pv 5)) (fun _ _=>rfl)) (aa (pv 3) af)))))) (bb (aa (aV (aa aD (aa (pv 9) (aa (ar bj (pv 3) ae (fun _ _=>rfl)) af)))) af))))
    (ah (aw (i:=8) nd rfl (Or.inl rfl) (bb (aa (ar bj (pv 3) ae (fun _ _=>rfl)) (aa (ar bj (pv 3) ae (fun _ _=>rfl)) af))))
    (aj (aU (aF br (ar bj (pv 1) ae (fun _ _=>rfl)) ae (aJ _)) (aj (gh (pv 9) (gH (pv 1) ae set_list))) aH))))))))
  (ah (aU (aF br (pv 5) ae (aJ _)) (aj (aw (i:=8) nd rfl (Or.inl rfl) (bb (aa (ar bj (pv 8) ae (fun _ _=>rfl)) (aa (ar bj (pv 8) ae (fun _ _=>rfl)) af))))) aH)
  (aj (aE (aq eO (pv 6) (bb (aa (aV (aa aD (aa (ar bj (pv 2) ae (fun _ _=>rfl)) (aa (ar bj (pv 8) ae (fun _ _=>rfl)) (aa (ar bj (pv 8) ae (fun _ _=>rfl)) (aa (ar bj (pv 3) ae (fun _ _=>rfl)) af)))))) af))))))))))))))),?_⟩
  refine Wq fun B hB=>?_
  have lp:=t.ua
  walk_at "rd"
  refine⟨_,aC ep,_,aP,_,rfl,_,ep,0,rfl,gF.mk fun H3 k3 e3=>?_⟩
  have e3:H3 pp=some (.lst [.int ((c+1:Nat):Int),.int sh,.int ag,.int md]):=e3
  have W3:av (wo pp H) (wo pp H3):=oP k3
  have W3':av (wo pp H) H3:=W3.trans iA
  have old:∀{p:Addr},H3 p=none→H p=none:=fun {p} z=>by
   have hp:p≠pp:=fun y=>by rw [y,e3] at z;cases z
   rw [←k3 p hp];exact z
  refine⟨_,aC e3,_,aP,a,ns,_,rfl,W3'.seq hS,aK,by (clear aK ef ep cX cR ba bf bA cP hc hB lp e3;lia),by (clear aK ef ep cX cR ba bf lp e3 bA cP hB;omega),?_⟩
  generalize cm ns ((c+1:Nat):Int).toNat=cell
  have dC:=W3' _ _ ef
  obtain⟨f0,Om,rfl⟩:∃f0 Om,fr=f0::Om:=by
   cases fr with
   | nil=>simp at cR
   | cons f0 Om=>exact⟨f0,Om,rfl⟩
  have RP:=Mn f0 (by simp)
  cases t with
  | leaf x=>
   obtain⟨b,rfl,eb⟩:=oS ht
   have bW:=W3' _ _ eb
   refine⟨b,rfl,_,ak bW,_,aP,rfl,wT ⟨b,rfl,_,ak bW,_,bD,_,aC dC,_,aP,by decide,aI.mk fun p1 H4 S4 n4 e4=>⟨by decide,aI.mk fun p2 H5 S5 n5 e5=>?_⟩⟩⟩
   have e35:=S5 _ _ (S4 _ _ e3)
   have ZH:=S5 _ _ e4
   refine q p2 [.ref p1] [.take x f0] (c+1) sh ag H5 (W3.trans (bQ (S4.trans S5))) (old (S4.free n5)) e5 (.one (m9 (d:=.take x f0) (by rw [cE (gB ZH e35 (by intro y;cases y))];exact ZH))) e35 (Nat.le_refl _) (by simp [iR,M.Tr.lv]) (by (clear aK ep cP hB e3 ef cR ba dC bf bA hc lp cX eb bW n4 e4 n5 e5 e35 ZH;lia)) (fun d hd=>?_) (by simp [iR,M.Tr.lv])
   rw [List.mem_singleton.mp hd]
   refine⟨⟨fun i hi=>?_,fun i hi=>by simp [M.au.sn] at hi⟩,by simp [jd,M.Tr.lv]⟩
   simp only [M.au.bn,List.mem_singleton] at hi
   rw [hi];exact RP
  | knot f l r=>
  obtain⟨b,vl,vr,rfl,eb,vq,vi⟩:=fP ht
  have bW:=W3' _ _ eb
  have e1:(Str.ofString "knot"==Str.ofString "leaf")=false:=by decide +kernel
  refine⟨b,rfl,_,ak bW,_,aP,rfl,wF e1 ?_⟩
  have dc:2≤(f0::Om).length:=by rcases cX with z|z;cases z;exact z
  obtain⟨f1,Fo,rfl⟩:∃f1 Fo,Om=f1::Fo:=by
   cases Om with
   | nil=>simp at dc
   | cons f1 Fo=>exact⟨f1,Fo,rfl⟩
  have Oo:=Mn f1 (by simp)
  simp only [M.Tr.dp] at bf
  have dM:(M.Tr.knot f l r).lv.length=l.lv.length+r.lv.length:=by simp [M.Tr.lv]
  have ll:=l.ua
  have lr:=r.ua
  rw [hB]
  refine PU fun B1 dE=>?_
  have Mi:∀(fi:Int) (x y:L2.Tree) (vx vy:V),kX [V.str (Str.ofString "knot"),V.str f,vl,vr] fi=some vx→kX [V.str (Str.ofString "knot"),V.str f,vl,vr] (5 - fi)=some vy→Dt (wo pp H) (dT x) vx→Dt (wo pp H) (dT y) vy→(fi=2∨fi=3)→x.dp≤n→y.dp≤n→x.lv.length+y.lv.length=(M.Tr.knot f l r).lv.length→1≤x.lv.length→1≤y.lv.length→(∀z,z∈x.lv∨z∈y.lv→z∈(M.Tr.knot f l r).lv)→(∀z,z∈x.kn∨z∈y.kn→z∈(M.Tr.knot f l r).kn)→
   B1 {nx:=fun x H'=>Q V.non H',rt:=Q} [some (.ref a),some (.ref pp),some (.ref b),some (.ref pf),some (.int cell),some (.int fi),none,none,none,none] H3:=by
   intro fi x y vx vy eL dY dx dy eV hx hy cU px py JX Jd
   rw [dE]
   have eK:iR (M.Tr.knot f l r)=iR x+iR y+1:=by unfold iR;(clear aK ep cP hB e3 bf bA hc lp eb bW e1 ef cR ba dC cX dc dM ll lr dE eL dY eV hx hy;lia)
   have eQ:nk (M.Tr.knot f l r)=nk x+nk y+1:=by unfold nk;(clear aK ep cP hB e3 bf bA hc lp eb bW e1 ef cR ba dC cX dc dM ll lr dE eL dY eV hx eK hy;lia)
   rw [eK] at hc
   refine Qh fun B2 eW=>?_
   have Ld:∀(p:Addr) (xs:List V) (row:List L2.au) (c1 s1 jC:Nat) (H4:Hp),av (wo pp H) (wo pp H4)→(∀p,H4 p=none→H p=none)→wo pp H4 p=some (.lst xs)→aR (wo pp H4) (row.map cF) xs→H4 pp=some (.lst [.int c1,.int s1,.int jC,.int md])→jC≤ag→c1≤c+1+iR x*(1+(ag - jC))→s1≤sh+nk x*(1+(ag - jC))→
    (∀d∈row,d.ok k (sh+nk x*(1+(ag - jC)):Nat)∧jd x d)→row.length≤6*(iR x*(1+(ag - jC)))→
    B2 {nx:=fun x H'=>Q V.non H',rt:=Q} [some (.ref a),some (.ref pp),some (.ref b),some (.ref pf),some (.int cell),some (.int fi),some (.ref p),none,none,none] H4:=by
    intro p xs row c1 s1 jC H4 W4 ahn gS dp4 bh bR fR fW xQ hlen
    rw [eW]
    refine PU fun B3 ik=>?_
    have W4':av (wo pp H) H4:=W4.trans iA
    have gD:=W4' _ _ ef
    have Gi:∀rm:Bool,(rm=true→y.eR=true∨2≤(f1::Fo).length)→B3 {nx:=fun x H'=>Q V.non H',rt:=Q} [some (.ref a),some (.ref pp),some (.ref b),some (.ref pf),some (.int cell),some (.int fi),some (.ref p),some (.bl rm),none,none] H4:=by
     intro rm iM
     rw [ik]
     refine Qh fun B4 iG=>?_
     have Mh:∀(p2 pe:Addr) (Fm:List V) (jP:List L2.au) (i j:Int) (c2 s2 lY:Nat) (H5:Hp) (o9:Option V),av (wo pp H) (wo pp H5)→wo pp H5 p2=some (.lst Fm)→aR (wo pp H5) (jP.map cF) Fm→H5 pp=some (.lst [.int c2,.int s2,.int lY,.int md])→H5 pe=some (.lst [.int i,.int j])→M.tO k i→M.tO k j→lY≤ag→c2≤c+iR (M.Tr.knot f l r)*(1+(ag - lY))→s2≤sh+nk (M.Tr.knot f l r)*(1+(ag - lY))→
      (∀d∈jP,d.ok k (sh+nk (M.Tr.knot f l r)*(1+(ag - lY)):Nat)∧jd (M.Tr.knot f l r) d)→jP.length+1≤6*(iR (M.Tr.knot f l r)*(1+(ag - lY)))→
      B4 {nx:=fun x H'=>Q V.non H',rt:=Q} [some (.ref a),some (.ref pp),some (.ref b),some (.ref pf),some (.int cell),some (.int fi),some (.ref p2),some (.bl rm),some (.ref pe),o9] H5:=by
      intro p2 pe Fm jP i j c2 s2 lY H5 o9 W5 e2 D2 j3 OI hi hj dJ iS jf nV bU
      have l2:Fm.length=jP.length:=by have:=D2.length;rw [List.length_map] at this;exact this
      have W5':av (wo pp H) H5:=W5.trans iA
      have sm:=qN (show iR (M.Tr.knot f l r)≤63 by unfold iR;(clear hy cU px py eK eQ eW gS bh bR fR fW hlen ik gD iM iG e2 j3 OI dJ iS jf bU l2 ba dC cX dc dM ll lr dE hc eL dY eV hx lp eb bW e1 ef cR aK ep cP hB e3 bf;omega)) (show 1+(ag - lY)≤3 by (clear hy cU px py eK eQ eW gS bh bR fR fW hlen ik gD iM iG e2 j3 OI dJ iS jf bU l2 ba dC cX dc dM ll lr dE hc eL dY eV hx lp eb bW e1 ef cR e3 bf bA aK ep hB;lia))
      rw [iG]
      have last:∀(Tp:Addr) (i j:Int) (H6:Hp),av H5 H6→H6 Tp=some (.lst [.int i,.int j])→M.tO k i→M.tO k j→
       ∃x,itemsOf (H6 b)=some x∧∃Gz,kX x 1=some Gz∧∃x,itemsOf (H6 Tp)=some x∧∃x_2,kX x 0=some x_2∧∃x,itemsOf (H6 Tp)=some x∧∃TY,kX x 1=some TY∧∃x,itemsOf (H6 pf)=some x∧∃x_4,kX x 0=some x_4∧5≤sizeLine∧aI H6 (HO.tup [V.str (Str.ofString "join"),Gz,x_2,TY,x_4]) fun x H1=>1≤sizeLine∧aI H1 (HO.lst [x]) fun y H2=>∃x,y=V.ref x∧∃x_5,H2 p2=some (HO.lst x_5)∧∃x_6,H2 x=some (HO.lst x_6)∧x_5.length+x_6.length≤sizeLine∧aI H2 (HO.lst (x_5++x_6)) Q:=by
       intro Tp i j H6 S6 Oc hi hj
       refine⟨_,ak (S6 _ _ (W5' _ _ eb)),_,bD,_,aC Oc,_,aP,_,aC Oc,_,bD,_,aC (S6 _ _ (W5' _ _ ef)),_,aP,by decide,aI.mk fun p7 H7 S7 n7 e7=>⟨by decide,aI.mk fun p8 H8 S8 n8 e8=>⟨p8,rfl,_,S8 _ _ (S7 _ _ (S6 _ _ (iA _ _ e2))),_,e8,aN (by simp;(clear aK ep cP hB e3 bf bA lp eb bW e1 ef cR ba dC cX dc dM ll lr dE hc eL dY eV hx hy cU px py eK eQ eW gS bh bR fR fW hlen ik gD iM iG e2 Oc n7 e7 n8 e8 j3 OI dJ iS jf;lia)),aI.mk fun p9 H9 S9 n9 e9=>?_⟩⟩⟩
       have S59:=((S6.trans S7).trans S8).trans S9
       have Po:=S59 _ _ j3
       have W59:av (wo pp H) (wo pp H9):=W5.trans (bQ S59)
       have e79:=S9 _ _ (S8 _ _ e7)
       refine q p9 _ (jP++[.join f i j f0]) c2 s2 lY H9 W59 (ye (W5.trans (bQ ((S6.trans S7).trans S8))) (((S6.trans S7).trans S8) _ _ j3) n9) e9 ?_ Po dJ iS jf (fun d hd=>?_) (by rw [List.length_append];exact bU)
       · rw [List.map_append]
         exact(D2.same (bQ S59)).append (.one (m9 (d:=.join f i j f0) (by rw [cE (gB e79 Po (by intro y;cases y))];exact e79)))
       · rcases List.mem_append.mp hd with hd|hd
         · exact nV d hd
         · rw [List.mem_singleton.mp hd]
           refine⟨⟨fun z hz=>?_,fun z hz=>by simp [M.au.sn] at hz⟩,by simp [jd,M.Tr.kn]⟩
           simp only [M.au.bn,List.mem_cons,List.not_mem_nil,or_false] at hz
           rcases hz with rfl|rfl|rfl
           · exact hi
           · exact hj
           · exact RP
      walk_at "rd"
      refine cj (fun g=>?_) (fun g=>last pe i j H5 (av.refl _) OI hi hj)
      exact⟨_,aC OI,_,bD,_,aC OI,_,aP,by decide,aI.mk fun p6 H6 S6 n6 e6=>by
       walk_at "rd"
       exact last p6 j i H6 S6 e6 hj hi⟩
     rw [CK]
     simp only [yd,ub,yw,BH,uv,yg,qW,rg,tY,Be,CF,xc,xW,KP,BP,My,BS,FN,BG,xE,BW,xu,GH,xi,yh,B6,Cg,s9,sU,Bb,ya,Ct,B7,Ci,CJ,Cf,xN,DM,FU,NB,DJ,NI,FF,GQ,sS,uS,yN,sR,AI,BC,yi,CZ,rC,x6,GY,CD,Ca,Bm,xO,FW,qi,qT,AS,AX,Bh,xB,tW,A8,xP,Bd,Bk,yv,A7,B8,BB,BD,w8,AQ,yK,sF,yO,ty_str,O3,xt,uZ,x9,xS,vh,yl,Cb,yR,Fx,MT,Oi,L2.start,bT,Cc,HJ,List.getElem?_cons_zero,List.getElem?_cons_succ,Option.some.injEq,Option.join_some,exists_eq_left',exists_eq_left,exists_eq_right,V.int.injEq,V.ref.injEq,V.str.injEq,V.bl.injEq,V.ty.injEq,and_true,true_and,List.set_cons_zero,List.set_cons_succ,List.cons.injEq,List.cons_append,List.nil_append,List.append_nil,List.map_cons,List.map_nil,List.length_cons,List.length_nil,List.replicate,exists_and_left,exists_and_right,Nat.reduceAdd,Nat.reduceSub,aP,bD,dH,gW,Aq,if_true,if_false,Bool.false_eq_true,xa,xy,xI]
     have exp:(iR x+iR y+1)*(1+ag)=iR x*(1+ag)+iR y*(1+ag)+(1+ag):=by rw [Nat.add_mul,Nat.add_mul,Nat.one_mul]
     have mx:iR x*(1+(ag - jC))≤iR x*(1+ag):=Nat.mul_le_mul_left _ (by (clear aK ep cP hB e3 bf bA lp eb bW e1 ef cR ba dC cX dc dM ll lr dE hc eL dY eV hx hy cU px py eK eQ eW gS bh bR fR fW hlen ik gD iM iG exp;omega))
     have my:iR y*(1+jC)≤iR y*(1+ag):=Nat.mul_le_mul_left _ (by (clear aK ep cP hB e3 bf bA lp eb bW e1 ef cR ba dC cX dc dM ll lr dE hc eL dY eV hx hy cU px py eK eQ eW gS bh iM iG exp mx hlen ik gD fW fR;lia))
     have l1:xs.length=row.length:=by have:=dp4.length;rw [List.length_map] at this;exact this
     have iF:=C9 gS
     refine⟨_,aC gD,_,aP,_,aC gD,_,bD,by decide,aI.mk fun pe H5 S5 n5 e5=>?_⟩
     rw [CK]
     simp only [yd,ub,yw,BH,uv,yg,qW,rg,tY,Be,CF,xc,xW,KP,BP,My,BS,FN,BG,xE,BW,xu,GH,xi,yh,B6,Cg,s9,sU,Bb,ya,Ct,B7,Ci,CJ,Cf,xN,DM,FU,NB,DJ,NI,FF,GQ,sS,uS,yN,sR,AI,BC,yi,CZ,rC,x6,GY,CD,Ca,Bm,xO,FW,qi,qT,AS,AX,Bh,xB,tW,A8,xP,Bd,Bk,yv,A7,B8,BB,BD,w8,AQ,yK,sF,yO,ty_str,O3,xt,uZ,x9,xS,vh,yl,Cb,yR,Fx,MT,Oi,L2.start,bT,Cc,HJ,List.getElem?_cons_zero,List.getElem?_cons_succ,Option.some.injEq,Option.join_some,exists_eq_left',exists_eq_left,exists_eq_right,V.int.injEq,V.ref.injEq,V.str.injEq,V.bl.injEq,V.ty.injEq,and_true,true_and,List.set_cons_zero,List.set_cons_succ,List.cons.injEq,List.cons_append,List.nil_append,List.append_nil,List.map_cons,List.map_nil,List.length_cons,List.length_nil,List.replicate,exists_and_left,exists_and_right,Nat.reduceAdd,Nat.reduceSub,aP,bD,dH,gW,Aq,if_true,if_false,Bool.false_eq_true,xa,xy,xI]
     refine Rt ⟨by decide,by decide⟩ (by decide) (fun g g2=>?rm) ?b1
     case rm=>
      refine⟨_,ak (S5 _ _ (W4' _ _ eb)),vy,dY,_,S5 _ _ gD,aI.mk fun pt H6 S6 n6 e6=>?_⟩
      have e6:H6 pt=some (.lst ((f1::Fo).map V.int)):=by rw [e6];congr 2;exact Ge _ _ _
      have W46:av (wo pp H4) (wo pp H6):=bQ (S5.trans S6)
      have W6:=W4.trans W46
      have cG:=S6 _ _ (S5 _ _ bh)
      have Cq:pt≠pp:=fun y=>by rw [y,S5 _ _ bh] at n6;cases n6
      have oG:=iM g
      have i5:(f1::Fo).length≤10:=by simp at ba ⊢;(clear aK ep cP hB e3 bf bA lp eb bW e1 ef cR dC cX dc dM ll lr dE hc eL dY eV hx hy cU px py eK eQ eW gS bh bR fR fW hlen ik gD iM iG exp mx my l1 iF n5 e5 g g2 n6 e6 cG Cq oG;lia)
      refine⟨a,pp,pt,ns,y,vy,f1::Fo,k,c1,s1,jC,md,rfl,W6.seq hS,aK,dy.same W6,by rw [cE Cq];exact e6,cG,fun i hi=>Mn i (List.mem_cons_of_mem _ hi),oG,by simp,i5,hy,by (clear py eK eQ eW gS bh bR fR fW hlen ik gD iM iG exp mx my l1 iF n5 e5 g g2 n6 e6 cG Cq oG i5 eb bW e1 ef cR ba dC cX dc dM ll lr dE hc eL dY aK ep cP hB px e3 bf eV hx lp hy;lia),by (clear cX dc dM ll lr dE hc eL dY eV hx hy cU px py my l1 iF n5 e5 g g2 n6 e6 cG Cq oG i5 eb bW e1 ef cR ba dC eK ik gD iM iG exp mx e3 bf bA lp eQ eW gS bh aK ep fW hlen hB fR;lia),by (clear aK ep cP hB e3 bf bA lp eb bW e1 ef cR ba dC dY eV hx hy cU px py eK iF n5 e5 g g2 n6 e6 cG Cq oG i5 cX dc dM ll eQ eW gS bh ik gD iM iG lr dE fW hlen eL bR l1;lia),fun p2 Fm jP c2 s2 lY H7 W7 n7 e7 D7 cy dJ iS jf nV bU=>?_⟩
      have l2:Fm.length=jP.length:=by have:=D7.length;rw [List.length_map] at this;exact this
      have W47:=W46.trans W7
      have sQ:=sJ (iR x) (iR y) 1 (ag - jC) (jC - lY)
      have vj:=sJ (nk x) (nk y) 1 (ag - jC) (jC - lY)
      rw [show ag - jC+(jC - lY)=ag - lY by (clear aK ep cP hB e3 bf bA lp eb bW e1 ef cR ba dC cX dc dM ll lr dE hc eL dY eV hx hy cU px py eK eQ eW gS exp mx my l1 iF n5 e5 g g2 n6 e6 cG Cq oG i5 n7 e7 cy iS jf bU l2 sQ vj fW hlen ik gD iM iG fR;lia)] at sQ vj
      rw [←eK] at sQ
      rw [←eQ] at vj
      have sm:=qN (show iR (M.Tr.knot f l r)≤63 by unfold iR;(clear bh bR fR fW hlen ik gD iM iG exp mx my l1 iF n5 e5 g g2 n6 e6 cG Cq oG i5 n7 e7 cy dJ iS jf bU l2 sQ vj dM ll lr dE hc eL dY eV hx hy cU px py eK eQ eW gS bW e1 ef cR ba dC cX dc aK ep cP hB e3 eb lp bf;omega)) (show 1+(ag - lY)≤3 by (clear bh bR fR fW hlen ik gD iM iG exp mx my l1 iF n5 e5 g g2 n6 e6 cG Cq oG i5 n7 e7 cy dJ iS jf bU l2 sQ vj dM ll lr dE hc eL dY eV hx hy cU px py eK eQ eW gS bW e1 ef cR ba dC cX dc bf bA lp eb hB e3 aK ep;lia))
      refine⟨p2,rfl,_,(W47.trans iA) _ _ gS,_,e7,aN (by (clear aK ep cP hB e3 bf bA lp eb bW e1 ef cR ba dC cX dc dM ll lr dE hc eL dY eV hx hy cU px py eK eQ eW gS bh e6 cG Cq oG i5 n7 e7 cy dJ gD iM iG exp mx g g2 n6 iS jf bR fR fW iF n5 ik my e5 vj;lia)),aI.mk fun p3 H8 S8 n8 e8=>?_⟩
      have Bc:p3≠pp:=fun y=>by rw [y,cy] at n8;cases n8
      have W48:=W47.trans (bQ S8)
      have Nc:H8 pe=some (.lst [.int f0,.int f1]):=by
       have QE:pe≠pp:=fun y=>by rw [y,bh] at n5;cases n5
       have:wo pp H8 pe=some (.lst [.int f0,.int f1]):=((bQ S6).trans (W7.trans (bQ S8))) _ _ (by rw [cE QE];exact e5)
       rw [cE QE] at this;exact this
      refine Mh p3 pe _ (row++jP) f0 f1 c2 s2 lY H8 none (W4.trans W48) (by rw [cE Bc];exact e8) ?_ (S8 _ _ cy) Nc RP Oo (by (clear aK ep cP hB e3 bf bA lp eb bW e1 ef cR ba dC cX dc dM ll hlen ik gD iM iG exp mx my l1 iF n5 e5 g g2 n6 e6 cG Cq oG lr dE hc eL dY eV hx hy cU px sm n8 e8 Bc Nc py eK eQ eW gS jf bU l2 sQ vj fW i5 n7 iS fR e7 bh cy;lia)) (by (clear aK ep cP hB e3 bf bA lp eb bW e1 ef cR ba dC cX dc dM ll hlen ik gD iM iG exp mx my l1 iF n5 e5 g g2 n6 e6 cG Cq oG lr dE hc eL dY eV hx hy cU px sm n8 e8 Bc Nc py eK eQ eW gS fW i5 n7 e7 cy dJ bh bR jf bU vj l2;omega)) (by (clear aK ep cP hB e3 bf bA lp eb bW e1 ef cR ba dC cX dc dM ll lr dE hc eL dY eV hx hy cU px py eK eQ eW gS bh bR fR iF n5 e5 g g2 n6 e6 cG Cq oG iG exp mx my l1 i5 n7 e7 cy dJ Nc gD iM iS n8 e8 Bc bU l2 sm hlen ik sQ;omega)) (fun d hd=>?_) (by rw [List.length_append];(clear aK ep cP hB e3 bf bA lp eb bW e1 ef cR ba dC cX dc dM ll lr dE hc eL dY eV hx hy cU px py eK eQ eW gS bh bR fR iF n5 e5 g g2 n6 e6 cG Cq oG vj sm n8 e8 Bc Nc iG exp mx my l1 i5 n7 e7 cy dJ gD iM iS ik jf fW l2;omega))
      · rw [List.map_append]
        exact(dp4.same W48).append (D7.same (bQ S8))
      · rcases List.mem_append.mp hd with hd|hd
        · exact⟨iX (xQ d hd).1 (by (clear aK ep cP hB e3 bf bA lp eb bW e1 ef cR ba dC cX dc dM ll lr dE hc eL dY eV hx hy cU px py eK eQ eW gS bh bR fR fW hlen ik gD iM iG exp mx my l1 iF n5 e5 g g2 n6 e6 cG Cq oG i5 n7 e7 cy dJ iS jf bU l2 Bc Nc n8 e8 sm sQ;omega)),yy (xQ d hd).2 (fun z hz=>JX z (.inl hz)) (fun z hz=>Jd z (.inl hz))⟩
        · exact⟨iX (nV d hd).1 (by (clear aK ep cP hB e3 bf bA lp eb bW e1 ef cR ba dC cX dc dM ll lr dE hc eL dY eV hx hy cU px py eK eQ eW gS bh bR fR iF n5 e5 g g2 n6 e6 cG Cq oG i5 n7 e7 cy dJ iS jf bU l2 sQ iG exp mx my l1 Nc sm n8 e8 Bc ik gD hlen iM;omega)),yy (nV d hd).2 (fun z hz=>JX z (.inr hz)) (fun z hz=>Jd z (.inr hz))⟩
     case b1=>
      refine vV fun C hC=>?_
      walk_at "rd"
      refine⟨_,aC (S5 _ _ bh),_,bD,_,rfl,_,S5 _ _ bh,1,rfl,gF.mk fun H6 k6 e6=>?_⟩
      have e6:H6 pp=some (.lst [.int c1,.int ((s1+1:Nat):Int),.int jC,.int md]):=e6
      have W46:av (wo pp H4) (wo pp H6):=(bQ S5).trans (oP k6)
      have W46':av (wo pp H4) H6:=W46.trans iA
      have W6':av (wo pp H) H6:=W4.trans W46'
      refine⟨_,aC (W6' _ _ ef),_,aP,by decide,aI.mk fun q1 J1 R1 m1 g1=>⟨by decide,aI.mk fun q2 J2 R2 m2 qA=>?_⟩⟩
      have R62:av H6 J2:=R1.trans R2
      have wa:=qN (show iR x≤63 by unfold iR;(clear px py eK eQ eW gS bh bR fR fW hlen ik gD iM iG exp mx my l1 iF n5 e5 hC e6 m1 g1 m2 qA lp eb bW e1 ef cR ba dC cX dc dM ll lr dE aK ep cP hB eL dY eV hx e3 bf hc hy;lia)) (show 1+(ag - jC)≤3 by (clear px py eK eQ eW gS bh bR fR fW hlen ik gD iM iG exp mx my l1 iF n5 e5 hC e6 m1 g1 m2 qA dC cX dc dM ll lr dE hc eL dY eV hx hy cU lp eb bW e1 ef cR ba e3 bf bA aK ep hB;lia))
      refine⟨q2,rfl,_,R62 _ _ (W46' _ _ gS),_,qA,aN (by simp;(clear aK ep cP hB e3 bf bA lp eb bW e1 ef cR ba dC cX dc dM ll lr dE hc eL dY eV hx hy cU px py eK eQ eW gS bh bR fR iM iG exp mx e5 hC e6 m1 ik gD iF n5 g1 m2 fW my qA;lia)),aI.mk fun q3 J3 R3 m3 g3=>?_⟩
      have R63:=R62.trans R3
      refine⟨_,aC (R63 _ _ (W6' _ _ ef)),_,bD,by decide,aI.mk fun q4 J4 R4 m4 g4=>⟨by decide,aI.mk fun q5 J5 R5 m5 g5=>?_⟩⟩
      have hE:(cell / 30 % 3 / 2).toNat≤1:=by (clear aK ep cP hB e3 bf bA lp eb bW e1 ef cR ba dC cX dc dM ll lr dE hc eL dY eV hx hy cU px py eK eQ eW gS bh bR fR fW hlen ik gD iM iG exp mx my l1 iF n5 e5 hC e6 m1 g1 m2 qA wa m3 g3 m4 g4 m5 g5;lia)
      refine⟨⟨by decide,by decide⟩,by decide,⟨by decide,by decide⟩,q5,rfl,_,g5,by (clear aK ep cP hB e3 bf bA lp eb bW e1 ef cR ba dC cX dc dM ll lr dE hc eL dY eV hx hy cU px py eK eQ eW gS bh bR fR fW hlen ik gD iM iG exp mx my l1 iF n5 e5 hC e6 m1 g1 m2 qA wa m3 g3 m4 g4 m5 g5 hE;lia),by (clear aK ep cP hB e3 bf bA lp eb bW e1 ef cR ba dC cX dc dM ll lr dE hc eL dY eV hx hy cU px py eK eQ eW gS bh bR fR fW hlen ik gD iM iG exp mx my l1 iF n5 e5 hC e6 m1 g1 m2 qA wa m3 g3 m4 g4 m5 g5 hE;lia),aN (by simp;(clear aK ep cP hB e3 bf bA lp eb bW e1 ef cR ba dC cX dc dM ll lr dE hc eL dY eV hx hy cU px py eK eQ eW gS bh bR fR fW hlen ik gD iM iG exp mx my l1 iF n5 e5 hC e6 m1 g1 m2 qA wa m3 g3 m4 g4 m5 g5 hE;lia)),aI.mk fun q6 J6 R6 m6 g6=>?_⟩
      rw [vg] at g6
      generalize (cell / 30 % 3 / 2).toNat=ee at hE g6
      have R36:=(R4.trans R5).trans R6
      refine⟨q3,rfl,q6,rfl,_,R36 _ _ g3,_,g6,aN (by simp;(clear aK ep cP hB e3 bf bA lp eb bW e1 ef cR ba dC cX dc dM ll lr dE hc eL dY eV hx hy cU px py eK eQ eW gS bh bR fR fW n5 e5 hC e6 m1 g3 m4 g4 m5 g5 iM iG exp iF g1 m2 gD mx m3 m6 ik my qA g6;lia)),aI.mk fun q7 J7 R7 m7 g7=>?_⟩
      have R67:=R63.trans (R36.trans R7)
      have cy:=R67 _ _ e6
      have W47:av (wo pp H4) (wo pp J7):=W46.trans (bQ R67)
      have W7:=W4.trans W47
      have W7':av (wo pp H) J7:=W7.trans iA
      have qb:wo pp J7 q1=some (.tup (bP (.put f0 s1))):=by
       have z:=R7 _ _ (R36 _ _ (R3 _ _ (R2 _ _ g1)))
       rw [cE (gB z cy (by intro y;cases y))];exact z
      have v8:wo pp J7 q4=some (.tup (bP (.fetch s1 f1))):=by
       have z:=R7 _ _ (R6 _ _ (R5 _ _ g4))
       rw [cE (gB z cy (by intro y;cases y))];exact z
      have D7:aR (wo pp J7) ((row++[M.au.put f0 s1]++List.replicate ee (M.au.fetch s1 f1)).map cF) (xs++[.ref q1]++List.replicate ee (.ref q4)):=by
       rw [List.map_append,List.map_append,List.map_replicate]
       exact((dp4.same W47).append (.one (m9 qb))).append (nG _ _ (m9 v8) ee)
      have wC:q7≠pp:=fun y=>by
       have:=(R63.trans R36) _ _ e6
       rw [y,this] at m7;cases m7
      rw [hC]
      clear hC C
      refine gU fun C hC=>?_
      walk_at "rd"
      refine⟨_,ak (W7' _ _ eb),vy,dY,?_⟩
      refine⟨a,pp,pf,ns,y,vy,_,k,c1,s1+1,jC,md,rfl,W7.seq hS,aK,dy.same W7,W7 _ _ ef,cy,Mn,.inr dc,cR,ba,hy,by (clear fR fW hlen ik gD iM iG exp mx my l1 iF n5 e5 e6 m1 g1 m2 qA wa m3 g3 m4 g4 m5 g5 m6 hE g6 m7 g7 cy qb v8 wC hC bW e1 ef cR ba dC cX dc dM ll lr dE hc eL dY eV hx hy aK ep cP hB e3 px py eK eQ eW gS bh bR lp eb bf;lia),by (clear fR fW hlen ik gD iM iG exp mx my l1 iF n5 e5 e6 m1 g1 m2 qA wa m3 g3 m4 g4 m5 g5 m6 hE g6 m7 g7 cy qb v8 wC hC bW e1 ef cR ba dC cX dc dM ll lr dE hc eL dY eV hx hy bf bA lp eb cU px py eK eQ eW hB e3 gS aK ep bh;lia),by (clear aK ep cP hB e3 bf bA lp eb bW e1 ef cR ba dC cX dc dM qA wa m3 g3 m4 g4 m5 g5 m6 hE g6 m7 g7 cy qb v8 wC hC cU px py eK eQ eW gS bh bR fW hlen ik gD iM iF n5 e5 e6 m1 g1 m2 ll lr dE eV hx hy l1 eL dY iG;lia),fun p2 Fm jP c2 s2 lY Y1 V1 u1 w1 D1 la dJ iS jf nV bU=>?_⟩
      have l2:Fm.length=jP.length:=by have:=D1.length;rw [List.length_map] at this;exact this
      have sQ:=sJ (iR x) (iR y) 1 (ag - jC) (jC - lY)
      have vj:=sJ (nk x) (nk y) 1 (ag - jC) (jC - lY)
      rw [show ag - jC+(jC - lY)=ag - lY by (clear aK ep cP hB e3 bf bA lp eb bW e1 ef cR ba dC cX dc dM ll lr dE iG exp mx my l1 iF n5 e5 e6 m1 g1 m2 qA wa m3 g3 m4 g4 m5 g5 m6 hc eL dY eV hx hy cU px py eK eQ g6 m7 g7 cy qb v8 wC hC u1 w1 la iS jf bU l2 sQ vj eW gS bh hlen ik gD fW iM fR hE;lia)] at sQ vj
      rw [←eK] at sQ
      rw [←eQ] at vj
      have sm:=qN (show iR (M.Tr.knot f l r)≤63 by unfold iR;(clear iM iG exp mx my l1 iF n5 e5 e6 m1 g1 m2 qA wa m3 g3 m4 g4 m5 g5 m6 hE g6 m7 g7 cy qb v8 wC hC u1 w1 la dJ iS jf bU l2 sQ vj hc eL dY eV hx hy cU px py eK eQ eW gS bh bR fR fW hlen ik gD ef cR ba dC cX dc dM ll lr dE aK ep cP hB e3 bf bW e1 eb lp;omega)) (show 1+(ag - lY)≤3 by (clear iM iG exp mx my l1 iF n5 e5 e6 m1 g1 m2 qA wa m3 g3 m4 g4 m5 g5 m6 hE g6 m7 g7 cy qb v8 wC hC u1 w1 la dJ iS jf bU l2 sQ vj hc eL dY eV hx hy cU px py eK eQ eW gS bh bR fR fW hlen ik gD ef cR ba dC cX dc dM ll lr dE bA lp eb bW e1 hB e3 bf aK ep;lia))
      refine⟨p2,rfl,_,(V1.trans iA) _ _ (by rw [cE wC];exact g7),_,w1,aN (by simp;(clear aK ep cP hB e3 bf bA lp eb bW e1 ef cR ba dC cX dc dM ll lr dE hc eL dY eV hx hy cU px py eK eQ m7 g7 cy qb v8 wC hC u1 w1 la dJ eW gS bh bR fR fW m3 g3 m4 g4 m5 g5 iM iG exp iF n5 e5 e6 m1 g1 gD mx m2 qA iS jf ik my m6 g6 vj;lia)),aI.mk fun p3 Y2 V2 u2 w2=>?_⟩
      have VL2:=V1.trans (bQ V2)
      have V02:=W7.trans VL2
      have V02':av (wo pp H) Y2:=V02.trans iA
      refine⟨_,aC (V02' _ _ ef),_,bD,by decide,aI.mk fun p4 Y3 V3 u3 w3=>⟨by decide,aI.mk fun p5 Y4 V4 u4 w4=>⟨p3,rfl,_,rfl,_,V4 _ _ (V3 _ _ w2),_,w4,aN (by simp;(clear aK ep cP hB e3 bf bA lp eb bW e1 ef cR ba dC cX dc dM ll lr dE hc eL dY eV hx hy cU px py eK eQ eW gS bh u2 w2 u3 w3 u4 w4 iF n5 e5 e6 m1 g1 m7 g7 cy qb v8 wC hC u1 w1 la dJ iS bR fR fW iM iG exp m3 g3 m4 g4 m5 g5 gD mx m2 qA ik my m6 g6 jf vj;lia)),aI.mk fun p6 Y5 V5 u5 w5=>?_⟩⟩⟩
      have V25:=(V3.trans V4).trans V5
      have V05:=V02.trans (bQ V25)
      have V05':av (wo pp H) Y5:=V05.trans iA
      have j3:=V25 _ _ (V2 _ _ la)
      rw [hC]
      clear hC C
      walk_at "rd"
      refine⟨_,aC (V05' _ _ ef),_,bD,_,aC (V05' _ _ ef),_,aP,by decide,aI.mk fun p7 Y6 V6 u6 w6=>?_⟩
      have cG:=V6 _ _ j3
      have ED:p6≠pp:=fun y=>by
       have:=(V3.trans V4) _ _ (V2 _ _ la)
       rw [y,this] at u5;cases u5
      have Fv:p7≠pp:=fun y=>by rw [y,j3] at u6;cases u6
      have V06:=V05.trans (bQ V6)
      have D6:aR (wo pp Y6) ((row++[M.au.put f0 s1]++List.replicate ee (M.au.fetch s1 f1)++jP++[M.au.fetch s1 f1]).map cF) (xs++[.ref q1]++List.replicate ee (.ref q4)++Fm++[.ref p4]):=by
       have tz:wo pp Y6 p4=some (.tup (bP (.fetch s1 f1))):=by
        have z:=V6 _ _ (V5 _ _ (V4 _ _ w3))
        rw [cE (gB z cG (by intro y;cases y))];exact z
       rw [List.map_append,List.map_append]
       have VV:=(bQ (pp:=pp) V25).trans (bQ V6)
       exact((D7.same (VL2.trans VV)).append ((D1.same (bQ V2)).same VV)).append (.one (m9 tz))
      have Ol:∀d∈row++[M.au.put f0 s1]++List.replicate ee (M.au.fetch s1 f1)++jP++[M.au.fetch s1 f1],d.ok k (sh+nk (M.Tr.knot f l r)*(1+(ag - lY)):Nat)∧jd (M.Tr.knot f l r) d:=by
       have fok:(M.au.fetch s1 f1:L2.au).ok k (sh+nk (M.Tr.knot f l r)*(1+(ag - lY)):Nat):=⟨fun z hz=>by simp only [M.au.bn,List.mem_singleton] at hz;rw [hz];exact Oo,fun z hz=>by simp only [M.au.sn,List.mem_singleton] at hz;rw [hz];exact⟨by (clear aK ep cP hB e3 bf bA lp eb bW e1 ef cR ba dC cX dc dM ll lr dE hc eL dY eV hx hy cU px py eK eQ eW gS bh bR fR fW hlen ik gD iM iG exp mx my l1 iF n5 e5 e6 m1 g1 m2 qA wa m3 g3 m4 g4 m5 g5 m6 hE g6 m7 g7 cy qb v8 wC u1 w1 la dJ iS jf bU l2 sQ vj sm u2 w2 u3 w3 u4 w4 u5 w5 j3 u6 w6 cG ED Fv hz;lia),by (clear aK ep cP hB e3 bf bA lp eb bW e1 ef cR ba dC cX dc dM ll lr dE hc eL dY eV e6 m1 g1 m2 qA wa m3 g3 m4 g4 m5 g5 m6 hE g6 m7 g7 cy qb v8 wC u1 w1 la dJ hlen ik gD iM iG exp mx my l1 iF n5 e5 iS w5 j3 u6 w6 cG ED Fv hz hx hy cU px py eK eQ u3 w3 u4 w4 u5 eW gS bh bR u2 w2 l2 sQ fR bU sm;omega)⟩⟩
       intro d hd
       simp only [List.mem_append,List.mem_singleton] at hd
       rcases hd with (((hd|rfl)|hd)|hd)|rfl
       · exact⟨iX (xQ d hd).1 (by (clear aK ep cP hB e3 bf bA lp eb bW e1 ef cR ba dC cX dc dM ll lr dE hc eL dY eV hx hy cU px py eK eQ eW gS bh bR fR fW hlen ik gD iM iG exp mx my l1 iF n5 e5 e6 m1 g1 m2 qA wa m3 g3 m4 g4 m5 g5 m6 hE g6 m7 g7 cy qb v8 wC u1 u3 w3 u4 w4 u5 w5 j3 u6 w6 cG ED Fv w1 la dJ iS jf bU sm u2 w2 l2 sQ;omega)),yy (xQ d hd).2 (fun z hz=>JX z (.inl hz)) (fun z hz=>Jd z (.inl hz))⟩
       · exact⟨⟨fun z hz=>by simp only [M.au.bn,List.mem_singleton] at hz;rw [hz];exact RP,fun z hz=>by simp only [M.au.sn,List.mem_singleton] at hz;rw [hz];exact⟨by (clear aK ep cP hB e3 bf bA lp eb bW e1 ef cR ba dC cX dc dM ll lr dE hc eL dY eV hx hy cU px py eK eQ eW gS bh bR fR fW hlen ik gD iM iG exp mx my l1 iF n5 e5 e6 m1 g1 m2 qA wa m3 g3 m4 g4 m5 g5 m6 hE g6 m7 g7 cy qb v8 wC u1 w1 la dJ iS jf bU l2 sQ vj sm u2 w2 u3 w3 u4 w4 u5 w5 j3 u6 w6 cG ED Fv hz;lia),by (clear aK ep cP hB e3 bf bA lp eb bW e1 ef cR ba dC cX dc dM ll lr dE hc eL dY eV e6 m1 g1 m2 qA wa m3 g3 m4 g4 m5 g5 m6 hE g6 m7 g7 cy qb v8 wC u1 w1 la dJ hlen ik gD iM iG exp mx my l1 iF n5 e5 iS w5 j3 u6 w6 cG ED Fv hz hx hy cU px py eK eQ u3 w3 u4 w4 u5 eW gS bh bR u2 w2 l2 sQ fR bU sm;omega)⟩⟩,trivial⟩
       · rw [List.eq_of_mem_replicate hd];exact⟨fok,trivial⟩
       · exact⟨iX (nV d hd).1 (by (clear aK ep cP hB e3 bf bA lp eb bW e1 ef cR ba dC cX dc dM ll lr dE hc eL dY n5 e5 e6 m1 g1 m2 qA wa m3 g3 m4 g4 m5 g5 m6 hE g6 m7 g7 cy qb v8 wC u1 eV hx hy cU px py eK eQ eW gS bh bR u3 w3 u4 w4 u5 w5 j3 u6 w6 cG ED Fv iG exp mx my l1 iF w1 la dJ iS jf bU ik gD iM sm u2 w2 hlen l2 fR sQ;omega)),yy (nV d hd).2 (fun z hz=>JX z (.inr hz)) (fun z hz=>Jd z (.inr hz))⟩
       · exact⟨fok,trivial⟩
      have Ap:(row++[M.au.put f0 s1]++List.replicate ee (M.au.fetch s1 f1)++jP++[M.au.fetch s1 f1]).length+1≤6*(iR (M.Tr.knot f l r)*(1+(ag - lY))):=by
       simp only [List.length_append,List.length_replicate,List.length_cons,List.length_nil];(clear aK ep cP hB e3 bf bA lp eb bW e1 ef cR ba dC cX dc dM ll lr dE hc eL dY eV hx hy cU px py eK eQ eW gS bh bR u3 w3 u4 w4 u5 w5 j3 u6 w6 cG ED Fv iG exp mx my l1 iF n5 e5 e6 m1 g1 m2 g7 cy qb v8 wC u1 ik gD iM w1 la dJ sm u2 w2 fR fW g3 m4 g4 m5 g5 m6 m7 iS vj jf l2;omega)
      have fin:∀(Y7:Hp) (s3:Nat),(∀c,c≠pp→Y7 c=Y6 c)→Y7 pp=some (.lst [.int c2,.int s3,.int lY,.int md])→s3≤sh+nk (M.Tr.knot f l r)*(1+(ag - lY))→B4 {nx:=fun x H'=>Q V.non H',rt:=Q} [some (.ref a),some (.ref pp),some (.ref b),some (.ref pf),some (.int cell),some (.int fi),some (.ref p6),some (.bl rm),some (.ref p7),some (.int s1)] Y7:=by
       intro Y7 s3 k7 G0 XO
       refine Mh p6 p7 _ _ f1 f0 c2 s3 lY Y7 _ (V06.trans (oP k7)) ?_ (D6.same (oP k7)) G0 ?_ Oo RP (by (clear aK ep cP hB e3 bf bA lp eb bW e1 ef cR ba dC cX dc dM ll lr dE hc eL dY eV iS jf bU l2 sQ vj sm u2 w2 u3 w3 u4 w4 u5 w5 j3 u6 w6 cG ED Fv Ap G0 XO hlen ik gD iM iG exp mx my l1 iF n5 e5 e6 m1 g1 m2 qA wa m3 g3 m4 g4 m5 g5 m6 hE hx hy cU px py eK eQ m7 g7 cy qb v8 wC u1 fR fW g6 w1 eW gS bh la;lia)) (by (clear aK ep cP hB e3 bf bA lp eb bW e1 ef cR ba dC cX dc dM ll lr dE hc eL dY eV e6 m1 g1 m2 qA wa m3 g3 m4 g4 m5 g5 m6 hE g6 m7 g7 cy qb v8 wC u1 w1 la dJ w5 j3 u6 w6 cG ED Fv Ap G0 XO hx hy cU px py eK eQ ik gD iM iG exp mx my w3 u4 w4 u5 eW gS bh bR vj sm u2 w2 u3 hlen l1 iF n5 jf bU fW e5 l2;omega)) XO Ol Ap
       · rw [cE ED,k7 _ ED];exact V6 _ _ w5
       · rw [k7 _ Fv];exact w6
      exact⟨_,aC cG,_,gW,rfl,cj (fun g3=>⟨_,cG,1,rfl,gF.mk fun Y7 k7 e7=>fin Y7 s1 k7 e7 (by (clear aK ep cP hB e3 bf bA lp eb bW e1 ef cR ba dC cX dc dM ll lr dE hc eL dY eV e6 m1 g1 m2 qA wa m3 m4 g4 m5 g5 m6 hE g6 m7 g7 cy qb v8 wC u1 w1 la dJ iS hlen ik gD iM iG exp mx my l1 iF n5 e5 jf j3 u6 w6 cG ED Fv Ap g3 e7 hx hy cU px py eK eQ w3 u4 w4 u5 w5 eW gS bh bR w2 u3 bU l2 sm u2 fR sQ;omega))⟩) (fun g3=>fin Y6 s2 (fun _ _=>rfl) cG (by (clear aK ep cP hB e3 bf bA lp eb bW e1 ef cR ba dC cX dc dM ll lr dE hc eL dY eV e6 m1 g1 m2 qA wa m3 m4 g4 m5 g5 m6 hE g6 m7 g7 cy qb v8 wC u1 w1 la dJ iS j3 u6 w6 cG ED Fv Ap g3 hx hy cU px py eK eQ ik gD iM iG exp mx my u4 w4 u5 w5 eW gS bh bR sm u2 w2 u3 w3 hlen l1 iF n5 bU l2 fR e5 sQ;omega)))⟩
    obtain⟨b2,r2,rfl,Se⟩:=xn dy
    have O5:=W4' _ _ Se
    walk_at "rd"
    refine⟨_,aC gD,cj (fun g=>Gi true fun _=>.inr ?_) (fun g=>⟨_,aC gD,cj (fun g'=>⟨_,ak (W4' _ _ eb),_,dY,b2,rfl,_,ak O5,_,aP,rfl,?_⟩) (fun g'=>Gi false fun z=>by cases z)⟩)⟩
    · have:=of_decide_eq_true g
      simp at this ⊢;(clear aK ep cP hB e3 bf bA lp eb bW e1 ef cR ba dC cX dc dM ll lr dE hc eL eV hx hy cU px py eK eQ eW gS bh bR fR fW hlen ik gD Se dY O5 g;omega)
    · have e:decide (V.str (if y.eR=true then Str.ofString "leaf" else Str.ofString "knot")=V.str (Str.ofString "leaf"))=y.eR:=by
       simp only [V.str.injEq];exact wV y
      rw [e]
      exact Gi y.eR fun z=>.inl z
   walk_at "rd"
   have exp:(iR x+iR y+1)*(1+ag)=iR x*(1+ag)+iR y*(1+ag)+(1+ag):=by rw [Nat.add_mul,Nat.add_mul,Nat.one_mul]
   rw [exp] at hc
   have yS:iR x≤63:=by unfold iR;(clear bW e1 ef cR ba dC cX dc dM ll lr dE hc eL dY eV hx hy aK ep cP hB e3 px py eK eQ eW exp lp eb bf;lia)
   refine⟨_,ak bW,vx,eL,a,pp,pf,ns,x,vx,_,k,c+1,sh,ag,md,rfl,W3.seq hS,aK,dx.same W3,W3 _ _ ef,e3,Mn,.inr dc,cR,ba,hx,by (clear bW e1 ef cR ba dC cX dc dM ll lr dE hc eL dY eV hx hy aK ep cP hB e3 px py eK eQ eW exp yS lp eb bf;lia),cP,by (clear aK ep cP hB e3 bf bA lp eb bW e1 ef cR ba dC cX dc dM cU px py eK eQ eW exp yS dY eV hx hy ll lr dE eL;omega),fun p1 xs1 N6 c1 s1 jC H4 W4 n4 e4 D4 bh bR fR fW Gu iU=>?_⟩
   have kZ:p1≠pp:=fun y=>by rw [y,e3] at n4;cases n4
   have W34:=W3.trans W4
   have l1:xs1.length=N6.length:=by have:=D4.length;rw [List.length_map] at this;exact this
   have once:=Ld p1 xs1 N6 c1 s1 jC H4 W34 (fun p z=>ye W34 bh z) (by rw [cE kZ];exact e4) D4 bh bR (by omega) fW Gu iU
   refine⟨⟨by decide,by decide⟩,by decide,cj (fun g1=>⟨_,aC bh,_,dH,_,rfl,cj (fun g2=>?_) (fun g2=>once)⟩) (fun g1=>once)⟩
   have g2:0<jC:=by have:=of_decide_eq_true g2;(clear aK ep cP hB e3 bf bA lp eb bW e1 ef cR ba dC cX dc dM ll lr dE hc eL dY eV hx hy cU px py eK eQ eW exp yS n4 e4 bh bR fR fW iU kZ l1 g1 g2;omega)
   refine⟨_,aC bh,_,dH,_,rfl,_,bh,2,rfl,gF.mk fun H5 k5 e5=>?_⟩
   have e5:H5 pp=some (.lst [.int c1,.int s1,.int ((jC - 1:Nat):Int),.int md]):=by
    have:((jC - 1:Nat):Int)=(jC:Int) - 1:=by (clear aK ep cP hB e3 bf bA lp eb bW e1 ef cR ba dC cX dc dM ll lr dE hc eL dY eV hx hy cU px py eK eQ eW exp yS n4 e4 bh bR fR fW iU kZ l1 g1 e5;lia)
    rw [this];exact e5
   have W35:=W34.trans (oP k5)
   have W35':av (wo pp H) H5:=W35.trans iA
   have tw:=two_mul (iR x) (ag - jC) (jC - 1)
   rw [show ag - jC+(jC - 1)+1=ag by (clear aK ep cP hB e3 bf bA lp eb bW e1 ef cR ba dC cX dc dM ll lr dE hc eL dY eV hx hy cU px py eK eQ eW exp yS n4 fR fW iU kZ l1 g1 e5 tw e4 bh;omega)] at tw
   refine⟨_,ak (W35' _ _ eb),vx,eL,a,pp,pf,ns,x,vx,_,k,c1,s1,jC - 1,md,rfl,W35.seq hS,aK,dx.same W35,W35 _ _ ef,e5,Mn,.inr dc,cR,ba,hx,by (clear cR ba dC cX dc dM ll lr dE hc eL dY e4 bh bR fR fW iU kZ l1 g1 g2 e5 tw aK ep cP hB e3 bf eK eQ eW exp yS n4 bW e1 ef eV hx hy px py lp eb;lia),by (clear cR ba dC cX dc dM ll lr dE hc eL dY eV hx hy cU px py eK eQ eW exp yS n4 bA lp eb bW e1 ef kZ l1 g1 g2 e5 tw hB e3 bf fR fW iU aK ep e4 bh;lia),by (clear aK ep cP hB e3 bf bA lp eb bW e1 ef eV hx hy cU px py eK eQ eW exp yS n4 cR ba dC cX dc dM ll lr dE e4 bh bR kZ l1 g1 fW iU g2 e5 eL dY;omega),fun p2 Fm jP c2 s2 lY H6 W6 n6 e6 D6 cG dJ iS jf nV bU=>?_⟩
   have l2:Fm.length=jP.length:=by have:=D6.length;rw [List.length_map] at this;exact this
   have W46:av (wo pp H4) (wo pp H6):=(oP k5).trans W6
   have W36:=W35.trans W6
   have IW:H6 p1=some (.lst xs1):=by
    have:=W46 p1 _ (by rw [cE kZ];exact e4)
    rw [cE kZ] at this;exact this
   have qb:=two_mul (iR x) (ag - jC) (jC - 1 - lY)
   have NQ:=two_mul (nk x) (ag - jC) (jC - 1 - lY)
   rw [show ag - jC+(jC - 1 - lY)+1=ag - lY by (clear aK ep cP hB e3 bf bA lp eb bW e1 ef cR ba dC cX dc dM ll lr dE hc eL dY eV hx hy cU px py eK eQ eW exp yS n4 e4 bh bU l2 IW qb NQ e5 tw n6 e6 fW iU kZ l1 iS jf fR g1;lia)] at qb NQ
   have sm:=qN yS (show 1+(ag - lY)≤3 by (clear eK eQ eW exp yS n4 e4 bh bR fR fW iU kZ l1 g1 g2 e5 tw n6 e6 cG dJ iS jf bU l2 IW qb NQ cX dc dM ll lr dE hc eL dY eV hx hy cU px py eb bW e1 ef cR ba dC e3 bf bA lp aK ep hB;lia))
   refine⟨p1,rfl,p2,rfl,_,IW,_,e6,aN (by (clear aK ep cP hB e3 bf bA lp eb bW e1 ef cR ba dC cX dc dM ll lr dE hc eL dY eV hx hy cU px py eK eQ eW exp yS n4 e4 bh e5 tw n6 e6 cG dJ iS jf bR fR g1 g2 fW kZ IW NQ;lia)),aI.mk fun p3 H7 S7 n7 e7=>?_⟩
   have cy:=S7 _ _ cG
   have Bc:p3≠pp:=fun y=>by rw [y,cG] at n7;cases n7
   have W37:=W36.trans (bQ S7)
   refine Ld p3 _ (N6++jP) c2 s2 lY H7 W37 (fun p z=>ye W37 cy z) (by rw [cE Bc];exact e7) ?_ cy (by (clear aK ep cP hB e3 bf bA lp eb bW e1 ef cR ba dC cX dc dM ll lr dE hc eL dY eV hx hy cU px py eK eQ fW iU kZ l1 g1 g2 e5 tw eW exp yS n4 iS jf bU l2 IW qb NQ sm n7 e7 cy Bc e4 bh n6 e6 fR cG;lia)) (by (clear aK ep cP hB e3 bf bA lp eb bW e1 ef cR ba dC cX dc dM ll lr dE hc eL dY eV hx hy cU px py eK eQ fW iU kZ l1 g1 g2 e5 tw eW exp yS n4 n6 e6 cG dJ n7 e7 cy Bc e4 bh bU l2 NQ sm bR jf IW;omega)) (by (clear aK ep cP hB e3 bf bA lp eb bW e1 ef cR ba dC cX dc dM ll lr dE hc eL dY eV hx hy cU px py eK eQ eW exp yS n4 e4 bh bR fR g1 g2 e5 tw n6 e6 cG dJ n7 e7 cy Bc kZ l1 bU l2 IW qb iU iS sm;omega)) (fun d hd=>?_) (by rw [List.length_append];(clear aK ep cP hB e3 bf bA lp eb bW e1 ef cR ba dC cX dc dM ll lr dE hc eL dY eV hx hy cU px py eK eQ eW exp yS n4 e4 bh bR fR g1 g2 e5 tw n6 e6 cG dJ n7 e7 cy Bc kZ l1 iS jf NQ sm fW l2 IW;omega))
   · rw [List.map_append]
     exact((D4.same W46).same (bQ S7)).append (D6.same (bQ S7))
   · rcases List.mem_append.mp hd with hd|hd
     · exact⟨iX (Gu d hd).1 (by (clear aK ep cP hB e3 bf bA lp eb bW e1 ef cR ba dC cX dc dM ll lr dE hc eL dY eV hx hy cU px py eK eQ eW exp yS n4 e4 bh bR fR fW iU kZ l1 g1 g2 e5 tw n6 e6 cG dJ iS jf bU l2 n7 e7 cy Bc IW qb sm;omega)),(Gu d hd).2⟩
     · exact⟨iX (nV d hd).1 (by (clear aK ep cP hB e3 bf bA lp eb bW e1 ef cR ba dC cX dc dM ll lr dE hc eL dY eV hx hy cU px py eK eQ eW exp yS n4 e4 bh bR fR n6 e6 cG dJ iS jf bU l2 g1 g2 e5 tw n7 e7 cy Bc kZ l1 IW qb iU sm;omega)),(nV d hd).2⟩
  walk_at "rd"
  rcases (show cell % 2=0∨cell % 2=1 by (clear aK ep cP hB e3 bf bA hc lp eb bW e1 ef cR ba dC cX dc dM ll lr dE;lia)) with h|h
  · rw [h]
    exact⟨by decide,Mi 2 l r vl vr rfl rfl vq vi (.inl rfl) (by (clear ef cR ba dC cX dc dM ll lr dE h bA hc lp eb bW e1 aK ep cP hB e3;lia)) (by (clear ef cR ba dC cX dc dM ll lr dE h bA hc lp eb bW e1 aK ep cP hB e3;lia)) (by simp [M.Tr.lv]) (by omega) (by omega) (fun z hz=>by simpa [M.Tr.lv] using hz) (fun z hz=>by simp only [M.Tr.kn,List.mem_cons,List.mem_append];exact .inr hz)⟩
  · rw [h]
    exact⟨by decide,Mi 3 r l vr vl rfl rfl vi vq (.inr rfl) (by (clear ef cR ba dC cX dc dM ll lr dE h bA hc lp eb bW e1 aK ep cP hB e3;lia)) (by (clear ef cR ba dC cX dc dM ll lr dE h bA hc lp eb bW e1 aK ep cP hB e3;lia)) (by simp [M.Tr.lv];(clear aK ep cP hB e3 bf bA hc lp eb bW e1 ef cR ba dC cX dc dE h dM ll;lia)) (by omega) (by omega) (fun z hz=>by simp only [M.Tr.lv,List.mem_append];exact hz.symm) (fun z hz=>by simp only [M.Tr.kn,List.mem_cons,List.mem_append];exact .inr hz.symm)⟩
noncomputable def RF (K:PySem.W.Frag):Sp:=fun vs H Q _=>∃(a:Addr) (ns:List Int) (z:Int) (t:L2.Tree) (k:Nat) (v:V),vs=[.ref a,.int z,v,.int k]∧fQ K H a (ns.map V.int)∧ns.length≤63∧0≤z∧z≤1000∧Dt H (dT t) v∧t.dp≤24∧t.lv.length≤32∧t.lv.length=sI ns∧(2≤k∨t.eR=true)∧1≤k∧k≤10∧
 ∀p xs (row:List L2.au) H',av H H'→H p=none→H' p=some (.lst xs)→aR H' (row.map cF) xs→(∀d∈row,d.ok k (31:Nat)∧jd t d)→row.length≤1200→Q (.ref p) H'
theorem Mu (T:Txt K mg):bz P w K mg base CX0 28 T.oy T.oI ["script","at","tree","k"] (RF K):=by
 refine T.vf.ok (k:=27) rT (fun vs H Q E h=>?_) (fun bJ A outer s H vs Q E hr h=>?_)
 · obtain⟨a,ns,z,t,k,v,rfl,_⟩:=h
   rfl
 obtain⟨a,ns,z,t,k,v,rfl,hS,aK,nR,qJ,ht,bf,bA,bC,bO,bS,cf,q⟩:=h
 have nd:=rT.nd
 have aZ:=(rM (P:=P) (w:=w) (base:=base) T).mono (k:=27) (by omega)
 have lM:=(Dq (P:=P) (w:=w) (base:=base) T).mono (k:=27) (by omega)
 have dk:=(zo (P:=P) (w:=w) (base:=base) T 24).mono (k:=27) (by omega)
 refine⟨_,(ah (sV (i:=4) (N:=["n","k","script","at"]) (caps:=[3,0,1]) rfl ⟨rfl,rfl,rfl,rfl,by decide +kernel,rfl,rfl,rfl,rfl⟩ (nE rfl T.sG (aa (pv 3) af)) (fun _ _ _ _=>cS) (fun _ _ _ _=>(aq aY (aq bo (pv 0) (ao aZ hr rfl T.bu T.bp.kp T.bt .nil aA (aa (pv 2) (aa (pv 3) af)))) (pv 1))) nd rfl rfl rfl)
  (ah (aw (i:=5) nd rfl (Or.inl rfl) (aq mQ ae (bL nj rfl T.wW qx (aa (cB zb (ao lM hr rfl T.rL T.mR.kp T.rV .nil aA (aa (pv 0) af)) ae (aJ _)) af))))
  (aj (aE (ao dk hr rfl T.fc T.cC.kp T.fe .nil aA (aa (pv 0) (aa (bb (aa (pv 1) (aa ae (aa (pv 5) (aa (aq aY (aq bF (ao aZ hr rfl T.bu T.bp.kp T.bt .nil aA (aa (pv 0) (aa (pv 1) af))) ae) ae) af))))) (aa (pv 2) (aa (pv 4) af))))))))),?_⟩
 walk_at "rd"
 refine⟨by (clear aK nR qJ bf bA bC bO bS cf;lia),by (clear aK nR qJ bf bA bC bO bS;omega),?_⟩
 rw [Int.toNat_natCast]
 refine L6 (fun i ys H'=>∃fr:List Int,fr.length=i∧ys=fr.map V.int∧∀x∈fr,M.tO k x) ⟨[],rfl,rfl,by simp⟩ (by (clear aK nR qJ bf bA bC bO bS;lia)) (fun i ys H' h=>?_) (fun i ys H' hi S' h=>?_) (fun pf ys H1 H2 S1 S2 h n2 e2=>?_)
 · obtain⟨fr,h1,rfl,_⟩:=h
   rw [List.length_map];(clear aK nR qJ bf bA bC bO bS cf;lia)
 · obtain⟨fr,h1,rfl,h3⟩:=h
   walk_at "rd"
   refine⟨a,ns,z,rfl,S'.seq hS,aK,nR,by (clear bO bS cf hi h1 bf bA bC aK nR;omega),_,rfl,by (clear aK nR qJ bf bA bC hi h1 cf bO;omega),S',fr++[((0:Int)+i+cm ns z.toNat) % k],by simp [h1],by rw [List.map_append];rfl,fun x hx=>?_⟩
   rcases List.mem_append.mp hx with hx|hx
   · exact h3 x hx
   · rw [List.mem_singleton.mp hx]
     exact⟨Int.emod_nonneg _ (by (clear aK nR qJ bf bA bC hi h1 cf bO;omega)),Int.emod_lt_of_pos _ (by (clear aK nR qJ bf bA bC hi h1 cf bO;omega))⟩
 obtain⟨fr,EU,rfl,Mn⟩:=h
 have S02:=S1.trans S2
 refine⟨a,ns,rfl,S02.seq hS,aK,fun many H3 bq hm S3 iQ=>?_⟩
 have S03:=S02.trans S3
 refine⟨_,rfl,.inl ⟨by decide,by decide⟩,a,ns,z,rfl,S03.seq hS,aK,nR,by (clear cf n2 EU e2 bq hm iQ bA bC bO bS aK nR bf;omega),_,rfl,⟨by decide,by decide⟩,by decide,by decide,aI.mk fun pp H4 S4 n4 e4=>?_⟩
 obtain⟨ag,cP,IM⟩:∃ag:Nat,(2*(if decide ((many:Int)<11)=true then 1 else 0):Int)=ag∧ag≤2∧nk t*(1+ag)≤31:=by
  by_cases c:many<11
  · refine⟨2,by rw [if_pos (decide_eq_true (by (clear aK nR qJ bf bA bC bO bS cf n2 EU e2 bq hm iQ n4 e4;omega)))];rfl,by decide,?_⟩
    have:nk t≤9:=by unfold nk;(clear aK nR qJ bf bA cf n2 EU e2 bq hm n4 e4 bO bS;lia)
    exact Nat.le_trans (Nat.mul_le_mul_right _ this) (by decide)
  · refine⟨0,by rw [if_neg (by simp;(clear aK nR qJ bf bA bC bO bS cf n2 EU e2 bq hm iQ n4 e4;omega))];rfl,by decide,?_⟩
    unfold nk;(clear n2 EU e2 bq hm iQ n4 e4 c bC bO bS cf aK nR qJ bf;omega)
 rw [cP] at e4
 obtain⟨zc,rfl⟩:∃zc:Nat,z=zc:=⟨z.toNat,by (clear EU e2 bq hm iQ n4 e4 cP IM bC bO bS cf n2 bf bA qJ aK;lia)⟩
 have S04:=S03.trans S4
 have W:av H3 (wo pp H4):=fun c o e=>by
  rw [cE (aL e n4)];exact S4 _ _ e
 have W0:=S03.trans W
 have II:iR t≤63:=by unfold iR;(clear bq hm iQ n4 cP IM nR qJ e4 bS cf n2 EU e2 bC bO aK bf;omega)
 have O1:=qN II (show 1+ag≤3 by (clear aK bf bA bC bO bS cf n2 EU e2 bq hm iQ n4 cP e4 II qJ nR;lia))
 refine⟨a,pp,pf,ns,t,v,fr,k,zc,0,ag,_,rfl,W0.seq hS,aK,ht.same W0,W _ _ (S3 _ _ e2),e4,Mn,bO.elim (fun z=>.inr (by (clear aK bf bA bC bO bS iQ n4 cP IM nR qJ e2 bq hm e4 II O1 cf n2;lia))) .inl,by (clear hm iQ n4 cP IM nR qJ e4 II O1 aK bf bA e2 bq bC bO cf n2;lia),by (clear hm iQ n4 cP IM nR qJ e4 II O1 aK bf bA bC bO bS e2 bq n2;lia),bf,bA,IM.1,by (clear aK bf bA bC bO bS cf n2 EU e2 bq hm iQ n4 cP IM nR e4 II;omega),fun p xs row c' s' JV H' W' np ep D vO Ko jv eN xQ hlen=>?_⟩
 have bq:nk t*(1+(ag - JV))≤nk t*(1+ag):=Nat.mul_le_mul_left _ (by (clear aK bf bA bC bO bS cf n2 EU e2 bq hm iQ n4 cP IM nR qJ e4 II O1 np ep vO Ko jv eN hlen;omega))
 have Yv:iR t*(1+(ag - JV))≤iR t*(1+ag):=Nat.mul_le_mul_left _ (by (clear aK bf bA bC bO bS cf n2 EU e2 hm iQ n4 cP IM nR qJ e4 II O1 np ep vO Ko jv eN hlen bq;omega))
 refine q p xs row H' ((W0.trans W').trans iA) (S04.free np) ep (D.same iA) (fun d hd=>⟨iX (xQ d hd).1 (by (clear aK bf bA bC bO bS cf n2 qJ e4 II O1 np ep vO Ko EU e2 hm iQ Yv n4 cP nR jv hlen;omega)),(xQ d hd).2⟩) (by (clear aK bf bA bC bO bS cf n2 EU e2 hm iQ n4 cP IM nR qJ e4 II ep vO Ko jv np eN bq;lia))
theorem Gn {X:Cx}{K:PySem.W.Frag} (hK:X.K=K):IK X "str.join" (rJoin K):=hK▸oX
noncomputable def ND (n:Nat):Sp:=fun vs H Q _=>∃(t:L2.Tree) (v:V),vs=[v]∧Dt H (dT t) v∧t.dp≤n∧(fD t).length≤50000∧Q (.str ⟨(fD t).toArray⟩) H
theorem D0 (T:Txt K mg):∀n:Nat,bz P w K mg base CX0 (n+1) T.mE T.lN ["tree"] (ND n)
 | 0=>by
  refine T.gw.ok (k:=0) kG (fun vs H Q E h=>?_) (fun bJ A outer s H vs Q E hr h=>?_)
  · obtain⟨t,v,rfl,_⟩:=h
    rfl
  · obtain⟨t,v,rfl,_,h,_⟩:=h
    have:=t.lV
    omega
 | n+1=>by
  refine T.gw.ok (k:=n+1) kG (fun vs H Q E h=>?_) (fun bJ A outer s H vs Q E hr h=>?_)
  · obtain⟨t,v,rfl,_⟩:=h
    rfl
  obtain⟨t,v,rfl,ht,hd,hl,q⟩:=h
  have nd:=kG.nd
  have i4:=D0 T n
  refine⟨_,(ah (aU (aF br (ar bj (pv 0) ae (fun _ _=>rfl)) aD (aJ _)) (aj (aE (ar bj (pv 0) ae (fun _ _=>rfl)))) aH)
  (aj (aE (aq fY (aq fY (aq fY (aq fY (aq fY (ar bj (pv 0) ae (fun _ _=>rfl)) aD) (ao i4 hr rfl T.mU T.gw.kp T.mO .nil aA (aa (ar bj (pv 0) ae (fun _ _=>rfl)) af))) aD) (ao i4 hr rfl T.mU T.gw.kp T.mO .nil aA (aa (ar bj (pv 0) ae (fun _ _=>rfl)) af))) aD)))),?_⟩
  cases t with
  | leaf x=>
   obtain⟨a,rfl,ea⟩:=oS ht
   walk_at "rd"
   refine⟨_,ak ea,_,aP,rfl,?_⟩
   rw [decide_eq_true rfl]
   refine eS ⟨_,ak ea,_,bD,?_⟩
   have:(⟨(fD (.leaf x)).toArray⟩:Str)=x:=oW (by simp [fD])
   rw [this] at q
   exact q
  | knot f l r=>
   obtain⟨a,vl,vr,rfl,ea,vq,vi⟩:=fP ht
   simp only [M.Tr.dp] at hd
   have ln:f.cps.toList.length+(fD l).length+(fD r).length+3≤50000:=by
    have:(fD (.knot f l r)).length=f.cps.toList.length+1+(fD l).length+1+(fD r).length+1:=by simp [fD];(clear hd hl ea;lia)
    (clear hd ea;lia)
   walk_at "rd"
   refine⟨_,ak ea,_,aP,rfl,?_⟩
   rw [decide_eq_false (by simp only [V.str.injEq];decide +kernel)]
   refine d5 ⟨_,ak ea,_,bD,?_⟩
   try (walk_at "rd")
   have zl:∀y:Nat,y≤50000→y≤sizeLine:=fun y hy=>aN (by (clear hd hl ea ln;lia))
   have k1:(Str.ofString "(").cps.toList=[40]:=by decide +kernel
   have k2:(Str.ofString " ").cps.toList=[32]:=by decide +kernel
   have k3:(Str.ofString ")").cps.toList=[41]:=by decide +kernel
   refine⟨zl _ ?_,_,ak ea,_,dH,l,_,rfl,vq,by (clear k1 k2 k3 ea ln hl;lia),by (clear k1 k2 k3 hd hl ea;lia),_,rfl,zl _ ?_,zl _ ?_,_,ak ea,_,gW,r,_,rfl,vi,by (clear k1 k2 k3 ea ln hl;lia),by (clear k1 k2 k3 hd hl ea;lia),_,rfl,zl _ ?_,zl _ ?_,?_⟩
   all_goals try (simp only [iZ,cps_append,k1,k2,k3,yj,List.length_append,List.length_cons,List.length_nil];(clear k1 k2 k3 hd hl ea;lia))
   have:(⟨(fD (.knot f l r)).toArray⟩:Str)=f++Str.ofString "("++⟨(fD l).toArray⟩++Str.ofString " "++⟨(fD r).toArray⟩++Str.ofString ")":=oW (by
    simp only [cps_append,k1,k2,k3,yj,fD];simp)
   rw [this] at q
   exact q
theorem Gv {names deeds:List Str}{k m:Int}{d:L2.au} (h:Cw names deeds k m d) (hk:k≤10000) (hm:m≤10000) (nn:∀x∈names,bw x=true) (ne:∀x∈deeds,bw x=true):zG d:=by
 have Q9:=Bv h
 refine⟨fun z hz=>?_,fun x hx=>?_⟩
 · rcases List.mem_append.mp hz with hz|hz
   · have:=Q9.1 z hz;have a1:=this.1;have a2:=this.2;lia
   · have:=Q9.2 z hz;have a1:=this.1;have a2:=this.2;lia
 · cases d with
   | take y j=>cases hx;exact nn _ h.1
   | join f j k l=>cases hx;exact ne _ h.1
   | put j k=>cases hx
   | fetch j k=>cases hx
theorem Oe {t:L2.Tree}{k m:Int}{d:L2.au} (Q9:d.ok k m) (h:jd t d) (hk:k≤10000) (hm:m≤10000) (nn:∀x∈t.lv,bw x=true) (ne:∀x∈t.kn,bw x=true):zG d:=by
 refine⟨fun z hz=>?_,fun x hx=>?_⟩
 · rcases List.mem_append.mp hz with hz|hz
   · have:=Q9.1 z hz;have a1:=this.1;have a2:=this.2;lia
   · have:=Q9.2 z hz;have a1:=this.1;have a2:=this.2;lia
 · cases d with
   | take y j=>cases hx;exact nn _ h
   | join f j k l=>cases hx;exact ne _ h
   | put j k=>cases hx
   | fetch j k=>cases hx
theorem Bf (c:Int) (n:Nat):∀x∈(List.range n).map (kr c n),bw x=true:=fun x hx=>by
 obtain⟨k,hk,rfl⟩:=List.mem_map.mp hx
 exact Bz (by simpa using hk)
theorem Eb (c:Int) (n:Nat):∀x∈(List.range n).map (kr c n)++[Str.ofString "abcdefgh"],bw x=true:=fun x hx=>by
 rcases List.mem_append.mp hx with hx|hx
 · exact Bf c n x hx
 · rw [List.mem_singleton.mp hx];decide +kernel
noncomputable def JZ (K:PySem.W.Frag):Sp:=fun vs H Q _=>∃(a:Addr) (ns:List Int) (t:L2.Tree) (size k:Nat) (v:V),vs=[.ref a,v,.int size,.int k]∧fQ K H a (ns.map V.int)∧ns.length≤63∧Dt H (dT t) v∧t.dp≤24∧t.lv.length≤32∧t.lv.length=sI ns∧size≤32∧(∀x∈t.lv,bw x=true)∧(∀x∈t.kn,bw x=true)∧(2≤k∨t.eR=true)∧1≤k∧k≤10∧
 ∀p xs (row:List L2.au) H',av H H'→H p=none→H' p=some (.lst xs)→aR H' (row.map cF) xs→(∀d∈row,d.ok k (100:Nat)∧zG d)→row.length≤1300→Q (.ref p) H'
seal lg PS PE PT PA PI eT in
theorem HU (T:Txt K mg):bz P w K mg base CX0 30 T.ko T.kc ["script","tree","size","k"] (JZ K):=by
 refine T.o1.ok (k:=29) oj (fun vs H Q E h=>?_) (fun bJ A outer s H vs Q E hr h=>?_)
 · obtain⟨a,ns,t,size,k,v,rfl,_⟩:=h
   rfl
 obtain⟨a,ns,t,size,k,v,rfl,hS,aK,ht,bf,bA,bC,hsz,CO,sW,bO,bS,cf,q⟩:=h
 have nd:=oj.nd
 have aZ:=(rM (P:=P) (w:=w) (base:=base) T).mono (k:=29) (by omega)
 have fb:=(qj (P:=P) (w:=w) (base:=base) T).mono (k:=29) (by omega)
 have cA:=(uP (P:=P) (w:=w) (base:=base) T).mono (k:=29) (by omega)
 have lT:=(DW (P:=P) (w:=w) (base:=base) T).mono (k:=29) (by omega)
 have Bi:=(Mu (P:=P) (w:=w) (base:=base) T).mono (k:=29) (by omega)
 refine⟨_,(ah (aw (i:=4) nd rfl (Or.inr rfl) (aq eO (ao cA hr rfl T.eh T.cV.kp T.eG .nil aA (aa (ao fb hr rfl T.jc T.gk.kp T.jk .nil aA (aa (pv 0) af)) (aa (pv 2) af))) (bb (aa aD af))))
  (ah (aw (i:=5) nd rfl (Or.inr rfl) (ao cA hr rfl T.eh T.cV.kp T.eG .nil aA (aa (ao aZ hr rfl T.bu T.bp.kp T.bt .nil aA (aa (pv 0) (aa ae af))) (aa ae af))))
  (ah (sV (i:=6) (N:=["n","script","names","deeds","k"]) (caps:=[0,4,5,3]) rfl ⟨rfl,rfl,rfl,rfl,by decide +kernel,rfl,rfl,rfl,rfl⟩ (nE rfl T.sG (aa (aq aY (aq bF (ao aZ hr rfl T.bu T.bp.kp T.bt .nil aA (aa (pv 0) (aa ae af))) ae) ae) af)) (fun _ _ _ _=>cS) (fun _ _ _ _=>(ao lT hr rfl T.rG T.lQ.kp T.rJ .nil aA (aa (pv 1) (aa (aq bo ae (pv 0)) (aa (pv 2) (aa (pv 3) (aa (pv 4) (aa ae af)))))))) nd rfl rfl rfl)
  (aj (aE (aq eO (pv 6) (ao Bi hr rfl T.B9 T.vf.kp T.BV .nil aA (aa (pv 0) (aa ae (aa (pv 1) (aa (pv 3) af))))))))))),?_⟩
 walk_at "rd"
 refine⟨a,ns,rfl,hS,aK,?_⟩
 refine⟨bN ns,size,rfl,hsz,fun pn nv H3 S3 n3 e3 D3=>?_⟩
 have Q6:=D3.strs
 subst Q6
 refine⟨by decide,aI.mk fun pm H4 S4 n4 e4=>⟨pn,rfl,pm,rfl,_,S4 _ _ e3,_,e4,aN (by simp;(clear bS cf n3 e3 n4 e4 aK bf bA bO bC;lia)),aI.mk fun pN H5 S5 n5 e5=>?_⟩⟩
 have S05:=(S3.trans S4).trans S5
 have e5:H5 pN=some (.lst (((List.range size).map (kr (bN ns) size)++[Str.ofString "abcdefgh"]).map V.str)):=by rw [e5,List.map_append];rfl
 have RN:=Eb (bN ns) size
 generalize AE:(List.range size).map (kr (bN ns) size)++[Str.ofString "abcdefgh"]=names at e5 RN
 have bB:names≠[]:=by rw [←AE];simp
 have bK:names.length≤1000:=by rw [←AE];simp;(clear n3 e3 n4 e4 n5 AE e5 bB aK bf bA bC bS cf bO;lia)
 refine⟨a,ns,1,rfl,S05.seq hS,aK,by omega,by omega,?_⟩
 refine⟨_,3,rfl,by decide,fun pD dv H6 S6 n6 e6 D6=>?_⟩
 have S06:=S05.trans S6
 have PK:=D6.strs
 subst PK
 refine⟨a,ns,12,rfl,S06.seq hS,aK,by omega,by omega,_,rfl,⟨by decide,by decide⟩,by decide,by (clear aK bf bA bC hsz bO bS cf n3 e3 n4 e4 n5 AE e5 bB bK n6 e6;lia),by (clear aK bf bA bC hsz bO bS cf n3 e3 n4 e4 n5 AE e5 bB bK n6 e6;lia),?_⟩
 generalize cm ns (12:Int).toNat=cell
 have cH:(cell / 4 % 11).toNat≤10:=by (clear aK bf bA bC hsz bO bS cf n3 e3 n4 e4 n5 AE e5 bB bK n6 e6;lia)
 generalize (cell / 4 % 11).toNat=rl at cH
 refine L6 (fun i ys H'=>∃row:List L2.au,row.length=i∧aR H' (row.map cF) ys∧∀d∈row,d.ok k (100:Nat)∧zG d) ⟨[],rfl,.nil,by simp⟩ (by (clear aK bf bA bC hsz bO bS cf n3 e3 n4 e4 n5 AE e5 bB bK n6 e6;lia)) (fun i ys H' h=>?_) (fun i ys H' hi S' h=>?_) (fun pr rs H7 H8 S7 S8 h n8 e8=>?_)
 · obtain⟨row,h1,h2,_⟩:=h
   have:=h2.length
   rw [List.length_map] at this;(clear aK bf bA bC hsz bO bS cf n3 e3 n4 e4 n5 AE e5 bB bK n6 e6 cH;lia)
 · obtain⟨row,h1,h2,h3⟩:=h
   walk_at "rd"
   refine⟨a,pN,pD,ns,_,k,100,names,_,rfl,(S06.trans S').seq hS,aK,by (clear aK bf bA bC hsz bO bS cf n3 e3 n4 e4 n5 AE e5 bB bK n6 e6 cH hi h1;lia),by (clear aK bf bA bC hsz bO bS cf n3 e3 n4 e4 n5 AE e5 bB bK n6 e6 h1;lia),S' _ _ (S6 _ _ e5),bB,bK,S' _ _ e6,by simp,by (clear e4 n5 AE e5 bB bK n6 e6 cH hi h1 aK bf bA bC hsz bO e3 n4 n3 cf;lia),by (clear e4 n5 AE e5 bB bK n6 e6 cH hi h1 aK bf bA bC hsz bO e3 n4 n3 bS;lia),by omega,by omega,fun d vd HF SF dd BX=>⟨S'.trans SF,row++[d],by simp [h1],?_,?_⟩⟩
   · rw [List.map_append];exact(h2.same SF).append (.one dd)
   · intro e he
     rcases List.mem_append.mp he with he|he
     · exact h3 e he
     · rw [List.mem_singleton.mp he];exact⟨Bv BX,Gv BX (by (clear e4 n5 AE e5 bB bK n6 e6 cH hi h1 aK bf bA bC hsz bO e3 n4 n3 bS;lia)) (by omega) RN (Bf _ _)⟩
 obtain⟨row,xQ,dr,okr⟩:=h
 have dr:=dr.same S8
 have S08:=(S06.trans S7).trans S8
 have gP:rs.length=row.length:=by have:=dr.length;rw [List.length_map] at this;exact this
 refine⟨a,ns,24,t,k,v,rfl,S08.seq hS,aK,by omega,by omega,ht.same S08,bf,bA,bC,bO,bS,cf,fun p2 Fm jP H9 S9 n9 e9 D9 QC HK=>?_⟩
 have lx:Fm.length=jP.length:=by have:=D9.length;rw [List.length_map] at this;exact this
 refine⟨pr,rfl,p2,rfl,_,S9 _ _ e8,_,e9,aN (by (clear aK bf bA bC hsz bO bS cf n3 e3 n4 e4 n5 AE e5 bB bK n6 n8 e8 n9 e9 e6;lia)),aI.mk fun pz HA SA nA eA=>?_⟩
 refine q pz _ (row++jP) HA ((S08.trans S9).trans SA) ((S08.trans S9).free nA) eA ?_ (fun d hd=>?_) (by rw [List.length_append];(clear aK bf bA bC hsz bO bS cf n3 e3 n4 e4 n5 AE e5 bB bK n6 e6 lx nA eA gP n9 n8 e8 e9;lia))
 · rw [List.map_append];exact((dr.same S9).same SA).append (D9.same SA)
 · rcases List.mem_append.mp hd with hd|hd
   · exact okr d hd
   · have:=iX (m':=100) (QC d hd).1 (by omega)
     exact⟨this,Oe this (QC d hd).2 (by (clear bB bK n6 e6 cH n8 e8 xQ gP n9 e9 HK lx nA eA n3 e3 n4 e4 n5 AE e5 aK bf bA bC hsz bO bS;lia)) (by omega) CO sW⟩
theorem Jv (k:Nat) (t:L2.Tree):∀p,((t.wk p).filter (uk k)).length=M.iI k t:=by
 induction t with
 | leaf x=>intro p;simp [M.Tr.wk,M.iI,uk,wQ,M.Tr.eR]
 | knot f l r ihl ihr=>
  intro p
  have e:(uk k (p,M.Tr.knot f l r)=true)↔k≤l.rk∧k≤r.rk:=by
   show (true&&decide ((k:Int)≤((min l.rk r.rk:Nat):Int)))=true↔_
   simp;lia
  simp only [M.Tr.wk,List.filter_cons,List.filter_append,M.iI]
  by_cases c:k≤l.rk∧k≤r.rk
  · rw [if_pos (e.mpr c),if_pos c];simp only [List.length_cons,List.length_append,ihl,ihr]
  · rw [if_neg (fun z=>c (e.mp z)),if_neg c];simp only [List.length_append,ihl,ihr];lia
theorem Ou (row:List L2.au):cnt (Str.ofString "take") row=row.countP M.au.oN∧cnt (Str.ofString "join") row=row.countP M.au.oH∧cnt (Str.ofString "put") row=row.countP M.au.zy∧cnt (Str.ofString "fetch") row=row.countP M.au.pM:=by
 obtain⟨h1,h2,h3,h4,h5,h6⟩:=ww
 unfold cnt
 refine⟨?_,?_,?_,?_⟩<;>(congr 1;funext d;cases d<;>simp [sY,M.au.oN,M.au.oH,M.au.zy,M.au.pM,h1,h2,h3,h4,h5,h6,h1.symm,h2.symm,h3.symm,h4.symm,h5.symm,h6.symm])
theorem Ht {t:L2.Tree}{k:Nat}{row:List L2.au} (hk:2≤k∨t.eR=true) (aX:∀d∈row,d.ok k (100:Nat)) (h:M.held (vm t k row).1 []=true):∀j∈cQ t k row,0≤j:=by
 have hb:M.vw t k 100 row row.length []:=by
  show some []∈((row.take row.length).foldl (M.mark t) (List.replicate k none,List.replicate 100 none)).1
  rw [List.take_length]
  unfold M.held at h
  obtain⟨o,ho,e⟩:=List.any_eq_true.mp h
  have e:o=some []:=by cases o<;>simp_all
  rw [←e];exact ho
 have hm:(jQ t k).length=M.iI k t:=by
  rw [←Jv k t []];exact List.length_map ..
 have hn:=uh t
 have hc:=Ou row
 have hl:t.lv.length≤row.countP M.au.oN∧t.lv.length≤row.countP M.au.oH+1∧M.iI k t≤row.countP M.au.zy∧M.iI k t≤row.countP M.au.pM:=by
  by_cases c:2≤k
  · exact M.FV c aX hb
  · have hL:t.eR=true:=hk.resolve_left c
    have h0:t.sub []=some t:=by cases t<;>rfl
    obtain⟨d⟩:=M.drv aX t [] row.length h0 (Nat.le_refl _) hb
    obtain⟨I,J,a1,a2,a3,a4,a5,a6⟩:=M.Lh d h0
    have c1:=M.jJ M.au.oN row I a1 fun i hi=>by
     obtain⟨q,_,_,d,e,g⟩:=a5 i hi
     exact⟨d,e,g⟩
    cases t with
    | leaf x=>simp only [M.iI,M.Tr.lv,List.length_singleton] at *;(clear hk h hm hn hL h0 hc c a4;lia)
    | knot f l r=>simp [M.Tr.eR] at hL
 intro j hj
 simp only [cQ,List.mem_cons,List.not_mem_nil,or_false] at hj
 rcases hj with rfl|rfl|rfl|rfl<;>(clear hk h;lia)
theorem CT (t:L2.Tree):∀(row:List L2.au) (st:MS) (n:Nat),n≤row.length→(g9 t st row)[n]? = some ((row.take n).foldl (M.mark t) st)
 | [],st,n,h=>by
  have:n=0:=by simpa using h
  subst this;rfl
 | d::row,st,0,_=>rfl
 | d::row,st,n+1,h=>by
  rw [g9,List.getElem?_cons_succ,CT t row _ n (by simpa using h),List.take_succ_cons,List.foldl_cons]
noncomputable def DY (K:PySem.W.Frag):Sp:=fun vs H Q _=>∃(a:Addr) (ns:List Int),vs=[.ref a]∧fQ K H a (ns.map V.int)∧ns.length≤63∧∀H',Q (.bl true) H'
seal lg PS PE PT PA PI eT in
theorem M9 (T:Txt K mg) (R:FG P w K mg):bz P w K mg base (CXE P w) 60 T.DT T.zL ["script"] (DY K):=by
 refine T.RA.Uc (k:=59) Ih (fun vs H Q E h=>?_) (fun bJ A outer s H vs Q E hr h L=>?_)
 · obtain⟨a,ns,rfl,_⟩:=h
   rfl
 obtain⟨a,ns,rfl,hS,aK,q⟩:=h
 have nd:=Ih.nd
 have aZ:=(rM (P:=P) (w:=w) (base:=base) T).mono (k:=59) (by omega)
 have lM:=(Dq (P:=P) (w:=w) (base:=base) T).mono (k:=59) (by omega)
 have fb:=(qj (P:=P) (w:=w) (base:=base) T).mono (k:=59) (by omega)
 have cA:=(uP (P:=P) (w:=w) (base:=base) T).mono (k:=59) (by omega)
 have zp:=(JQ (P:=P) (w:=w) (base:=base) T).mono (k:=59) (by omega)
 have yk:=(HU (P:=P) (w:=w) (base:=base) T).mono (k:=59) (by omega)
 have lT:=(DW (P:=P) (w:=w) (base:=base) T).mono (k:=59) (by omega)
 have gY:=(Av (P:=P) (w:=w) (base:=base) T 24).mono (k:=59) (by omega)
 have g8:=(zx (P:=P) (w:=w) (base:=base) T 24).mono (k:=59) (by omega)
 have vE:=(HI (P:=P) (w:=w) (base:=base) T).mono (k:=59) (by omega)
 have i4:=(D0 (P:=P) (w:=w) (base:=base) T 24).mono (k:=59) (by omega)
 have KY:=(G1 (P:=P) (w:=w) (base:=base) T R).mono (k:=59) (by omega)
 refine⟨_,(ah (aw (i:=1) nd rfl (Or.inl rfl) (ao lM hr rfl T.rL T.mR.kp T.rV .nil aA (aa (pv 0) af)))
  (ah (aw (i:=2) nd rfl (Or.inl rfl) (ao zp hr rfl T.yU T.rS.kp T.zU .nil aA (aa (pv 0) (aa ae (aa (pv 1) af)))))
  (ah (aw (i:=3) nd rfl (Or.inr rfl) (aq bo ae (aq aY (ao aZ hr rfl T.bu T.bp.kp T.bt .nil aA (aa (pv 0) (aa ae af))) ae)))
  (ah (aU (aF br (pv 1) ae (aJ _)) (aj (aw (i:=3) nd rfl (Or.inr rfl) (aq bo ae (aq aY (ao aZ hr rfl T.bu T.bp.kp T.bt .nil aA (aa (pv 0) (aa ae af))) ae)))) aH)
  (ah (aw (i:=4) nd rfl (Or.inl rfl) (aq eO (ao cA hr rfl T.eh T.cV.kp T.eG .nil aA (aa (ao fb hr rfl T.jc T.gk.kp T.jk .nil aA (aa (pv 0) af)) (aa (pv 1) af))) (bb (aa aD af))))
  (ah (aw (i:=5) nd rfl (Or.inl rfl) (ao cA hr rfl T.eh T.cV.kp T.eG .nil aA (aa (ao aZ hr rfl T.bu T.bp.kp T.bt .nil aA (aa (pv 0) (aa ae af))) (aa ae af))))
  (ah (aw (i:=6) nd rfl (Or.inl rfl) (ao yk hr rfl T.xU T.o1.kp T.xZ .nil aA (aa (pv 0) (aa (pv 2) (aa (pv 1) (aa (pv 3) af))))))
  (ah (gL PassesOwn.leaving rfl (nE rfl T.sG (aa (aq aY (aq bF (ao aZ hr rfl T.bu T.bp.kp T.bt .nil aA (aa (pv 0) (aa ae af))) ae) ae) af)) (bG (i:=7) nd rfl (Or.inl rfl)) (aj (fN (jR PySem.F.plainAttrs_list PySem.F.slot_list_append PySem.F.type_list_append jN (pv 6) (aa (ao lT hr rfl T.rG T.lQ.kp T.rJ .nil aA (aa (pv 0) (aa (aq bo ae (pv 7)) (aa (pv 4) (aa (pv 5) (aa (pv 3) (aa ae af))))))) af)))))
  (ah (aU (aF br (aq aY (ao aZ hr rfl T.bu T.bp.kp T.bt .nil aA (aa (pv 0) (aa ae af))) ae) ae (aJ _)) (aj (aw (i:=6) nd rfl (Or.inl rfl) (fO Iz (pv 6) m8 (ff (aq aY (aq bF (ao aZ hr rfl T.bu T.bp.kp T.bt .nil aA (aa (pv 0) (aa ae af))) ae) (aq bo (aO kz rfl T.cJ bM (aa (pv 6) af)) ae)))))) aH)
  (ah (aw (i:=8) nd rfl (Or.inl rfl) (ao gY hr rfl T.kf T.fJ.kp T.ku .nil aA (aa (pv 2) (aa (aV af) af))))
  (ah (NY (i:=9) (j:=10) rfl nd rfl rfl (by decide) rfl rfl (aa (aq ox (bb (aa jb af)) (pv 3)) (aa (aq ox (bb (aa jb af)) ae) af)) rfl)
  (ah (gL PassesOwn.leaving rfl (wb (pv 6)) (bG (i:=11) nd rfl (Or.inl rfl)) (aj (gh (ao vE hr rfl T.vC T.oh.kp T.vJ .nil aA (aa (pv 8) (aa (pv 11) (aa (pv 9) (aa (pv 10) af))))) (ur rfl (dg (bG (i:=9) nd rfl (Or.inl rfl)) (dg (bG (i:=10) nd rfl (Or.inl rfl)) ph))))))
  (ah (sV (i:=12) (N:=["one"]) (caps:=[]) rfl ⟨rfl,rfl,rfl,rfl,by decide +kernel,rfl,rfl,rfl,rfl⟩ (wb (ao g8 hr rfl T.kF T.fL.kp T.kq .nil aA (aa (pv 2) (aa (aV af) af)))) (fun _ _ _ _=>pj (cL (ar bj (pv 0) ae (fun _ _=>rfl)))) (fun _ _ _ _=>(pv 0)) nd rfl rfl rfl)
  (ah (aw (i:=13) nd rfl (Or.inl rfl) (aO kz rfl T.cJ bM (aa (dI (N:=["one","k"]) (caps:=[3]) rfl ⟨rfl,rfl,rfl,rfl,by decide +kernel,rfl,rfl,rfl,rfl⟩ (wb (pv 12)) (fun _ _ _ _=>pj (aF CV (ar bj (pv 0) ae (fun _ _=>rfl)) (pv 1) (aJ _))) (fun _ _ _ _=>(pv 0))) af)))
  (ah (aw (i:=14) nd rfl (Or.inl rfl) (bb af))
  (ah (gL PassesOwn.leaving rfl (wb (bb (aa (aV (aa aD (aa (aq bo (aO kz rfl T.cJ bM (aa (pv 12) af)) ae) af))) (aa (aV (aa aD (aa (aO kz rfl T.cJ bM (aa (pv 12) af)) af))) (aa (aV (aa aD (aa (pv 13) af))) (aa (aV (aa aD (aa (pv 13) af))) af)))))) (ur rfl (dg (bG (i:=15) nd rfl (Or.inr rfl)) (dg (bG (i:=16) nd rfl (Or.inl rfl)) ph))) (aj (fN (jR PySem.F.plainAttrs_list PySem.F.slot_list_append PySem.F.type_list_append jN (pv 14) (aa (aq fK (aO kz rfl T.cJ bM (aa (dI (N:=["deed","word"]) (caps:=[15]) rfl ⟨rfl,rfl,rfl,rfl,by decide +kernel,rfl,rfl,rfl,rfl⟩ (wb (pv 6)) (fun _ _ _ _=>pj (aF br (ar bj (pv 0) ae (fun _ _=>rfl)) (pv 1) (aJ _))) (fun _ _ _ _=>(pv 0))) af)) (pv 16)) af)))))
  (ah (aw (i:=17) nd rfl (Or.inl rfl) (ao KY hr rfl T.Ki T.Ee.kp T.KR .nil (LC L) (aa (ao i4 hr rfl T.mU T.gw.kp T.mO .nil aA (aa (pv 2) af)) (aa (pv 3) (aa (jR PySem.F.plainAttrs_str PySem.F.slot_str_join PySem.F.type_str_join oX aD (aa (dI (N:=["deed"]) (caps:=[]) rfl ⟨rfl,rfl,rfl,rfl,by decide +kernel,rfl,rfl,rfl,rfl⟩ (wb (pv 6)) (fun _ _ _ _=>cS) (fun _ _ _ _=>by exact(G9 (K:=K) rfl PySem.F.plainAttrs_str PySem.F.slot_str_join PySem.F.type_str_join (Gn rfl) aD (aa (dI (N:=["one"]) (caps:=[]) rfl ⟨rfl,rfl,rfl,rfl,by decide +kernel,rfl,rfl,rfl,rfl⟩ (aeq (K:=K) rfl (pv 0)) (fun _ _ _ _=>cS) (fun _ _ _ _=>(bL qZ rfl T.wD qD (aa (pv 0) af)))) af)))) af)) af)))))
  (ah (aU (aF (EN hr) (aV af) (pv 9) (by with_unfolding_all rfl)) (aj (aE (mF (aO uT rfl T.km ji (aa (pv 17) (aa (yn (v:=.ty "str") rfl T.wD qD rfl) af))) (jW (cB br (pv 17) aD (aJ _)))))) aH)
  (ah (aU (aF (xg hr) (pv 14) (bb (aa ae (aa ae (aa ae (aa ae af))))) (aJ _)) (aj (aE (mF (aO uT rfl T.km ji (aa (pv 17) (aa (yn (v:=.ty "str") rfl T.wD qD rfl) af))) (jW (cB br (pv 17) aD (aJ _)))))) aH)
  (ah (aw (i:=18) nd rfl (Or.inl rfl) (aq fY aD (jR PySem.F.plainAttrs_str PySem.F.slot_str_join PySem.F.type_str_join oX aD (aa (dI (N:=["n"]) (caps:=[]) rfl ⟨rfl,rfl,rfl,rfl,by decide +kernel,rfl,rfl,rfl,rfl⟩ (wb (pv 14)) (fun _ _ _ _=>cS) (fun _ _ _ _=>(bL qZ rfl T.wD qD (aa (pv 0) af)))) af))))
  (aj (aE (mF (aO uT rfl T.km ji (aa (pv 17) (aa (yn (v:=.ty "str") rfl T.wD qD rfl) af))) (mF (cB br (pv 17) (pv 18) (aJ _)) (jW (cB CV (aO (vQ rfl) rfl T.Hy Bp (aa (pv 14) af)) ae (aJ _))))))))))))))))))))))))))),?_⟩
 refine vV fun C hC=>?_
 walk_at "rd"
 refine⟨a,ns,rfl,hS,aK,fun many H1 bq hm S1 bC=>?_⟩
 refine⟨a,ns,1,many,rfl,S1.seq hS,aK,by decide,bq,hm,fun t c c' v H2 S2 ht tr cc=>?_⟩
 have hd:=tr.dp
 have hlen:=tr.len
 have S02:=S1.trans S2
 refine⟨a,ns,12,rfl,S02.seq hS,aK,by omega,by omega,_,rfl,by decide,?_⟩
 generalize cm ns (12:Int).toNat=cell
 obtain⟨k0,dX⟩:∃k:Nat,(2+cell % 4:Int)=k:=⟨(2+cell % 4).toNat,by (clear aK hC bq hm bC cc hd hlen;lia)⟩
 rw [dX]
 rw [hC]
 clear hC C
 refine gU fun C hC=>?_
 have tail:∀k:Nat,(2≤k∨t.eR=true)→1≤k→k≤5→C [some (V.ref a),some (V.int many),some v,some (V.int k),none,none,none,none,none,none,none,none,none,none,none,none,none,none,none] H2:=by
  intro k bO bS fH
  rw [hC]
  clear hC C
  refine vV fun C hC=>?_
  walk_at "rd"
  refine⟨a,ns,rfl,S02.seq hS,aK,?_⟩
  refine⟨bN ns,many,rfl,hm,fun pn nv H3 S3 n3 e3 D3=>?_⟩
  have Q6:=D3.strs
  subst Q6
  refine⟨by decide,aI.mk fun pm H4 S4 n4 e4=>⟨pn,rfl,pm,rfl,_,S4 _ _ e3,_,e4,aN (by simp;(clear bO bS fH hC n3 e3 n4 e4 cc hd hlen dX aK bq bC;lia)),aI.mk fun pN H5 S5 n5 e5=>?_⟩⟩
  have S25:=(S3.trans S4).trans S5
  have e5:H5 pN=some (.lst (((List.range many).map (kr (bN ns) many)++[Str.ofString "abcdefgh"]).map V.str)):=by rw [e5,List.map_append];rfl
  have RN:=Eb (bN ns) many
  have bB:(List.range many).map (kr (bN ns) many)++[Str.ofString "abcdefgh"]≠[]:=by simp
  have bK:((List.range many).map (kr (bN ns) many)++[Str.ofString "abcdefgh"]).length≤1000:=by simp;(clear fH hC n3 e3 n4 e4 n5 e5 bB hd hlen dX bO bS bC cc aK bq;lia)
  generalize (List.range many).map (kr (bN ns) many)++[Str.ofString "abcdefgh"]=names at e5 RN bB bK
  refine⟨a,ns,1,rfl,(S02.trans S25).seq hS,aK,by omega,by omega,?_⟩
  refine⟨_,3,rfl,by decide,fun pD dv H6 S6 n6 e6 D6=>?_⟩
  have S26:=S25.trans S6
  have PK:=D6.strs
  subst PK
  have Qr:=Bf (cm ns (1:Int).toNat) 3
  have bZ:((List.range 3).map (kr (cm ns (1:Int).toNat) 3)).length=3:=by simp
  generalize (List.range 3).map (kr (cm ns (1:Int).toNat) 3)=deeds at e6 Qr bZ
  have CO:=tr.Y8
  have sW:=tr.Zl
  refine⟨a,ns,t,many,k,v,rfl,(S02.trans S26).seq hS,aK,ht.same S26,hd,by (clear n3 e3 n4 e4 n5 e5 bB bK n6 e6 bZ bC cc hd bS fH hC aK bq dX bO;lia),by (clear n3 e3 n4 e4 n5 e5 bB bK n6 e6 bZ aK bq hm bS fH hC dX bO cc hd;lia),by omega,CO,sW,bO,bS,by (clear n3 e3 n4 e4 n5 e5 bB bK n6 e6 bZ aK bq hm bC cc hd hlen dX bO hC bS;lia),fun pr rs0 acz H7 S7 nA eA DA Mo gA=>?_⟩
  rw [hC]
  clear hC C
  refine gU fun C hC=>?_
  walk_at "rd"
  have S27:=S26.trans S7
  refine⟨a,ns,12,rfl,(S02.trans S27).seq hS,aK,by (clear aK bq hm bC cc hd hlen dX bO bS fH n3 e3 n4 e4 n5 e5 bB bK n6 e6 bZ nA eA gA hC;omega),by (clear aK bq hm bC cc hd hlen dX bO bS fH n3 e3 n4 e4 n5 e5 bB bK n6 e6 bZ nA eA gA hC;omega),_,rfl,⟨by decide,by decide⟩,by decide,by (clear aK bq hm bC cc hd hlen dX bO bS fH n3 e3 n4 e4 n5 e5 bB bK n6 e6 bZ nA eA gA hC;lia),by (clear aK bq hm bC cc hd hlen dX bO bS fH n3 e3 n4 e4 n5 e5 bB bK n6 e6 bZ nA eA gA hC;lia),?_⟩
  generalize cm ns (12:Int).toNat=cell2
  have cH:(cell2 / 44 % 9).toNat≤8:=by (clear aK bq hm bC cc hd hlen dX bO bS fH n3 e3 n4 e4 n5 e5 bB bK n6 e6 bZ nA eA gA hC;lia)
  generalize (cell2 / 44 % 9).toNat=rl at cH
  have W67:av H6 (wo pr H7):=fun c o e=>by
   rw [cE (aL e nA)];exact S7 _ _ e
  have W27:=S26.trans W67
  obtain⟨Pw,PL⟩:∃Pw:Nat→St→Hp→Prop,∀i σ H'',Pw i σ H''↔av (wo pr H7) H''∧(∃(row:List L2.au) (rs:List V),row.length≤1300+i∧H'' pr=some (.lst rs)∧aR H'' (row.map cF) rs∧∀d∈row,d.ok k (100:Nat)∧zG d)∧∃o7:Option V,σ=[some (V.ref a),some (V.int many),some v,some (V.int k),some (V.ref pN),some (V.ref pD),some (V.ref pr),o7,none,none,none,none,none,none,none,none,none,none,none]:=⟨_,fun _ _ _=>Iff.rfl⟩
  refine forR Pw ((PL _ _ _).mpr ⟨iA,⟨acz,rs0,by omega,eA,DA,Mo⟩,none,rfl⟩) ?_ ?_
  · intro i σ K0 hi h
    obtain⟨V1,⟨row,rs,hl,er,dr,aX⟩,o7,rfl⟩:=(PL _ _ _).mp h
    walk_at "rd"
    refine⟨lJ er,?_⟩
    refine⟨a,pN,pD,ns,_,k,100,names,deeds,rfl,((S02.trans W27).trans V1).seq hS,aK,by (clear aK bq hm bC cc hd hlen dX bO bS fH n3 e3 n4 e4 n5 e5 bB bK n6 e6 bZ nA eA gA hC cH hi hl er;lia),by (clear aK bq hm bC cc hd hlen dX bO bS fH n3 e3 n4 e4 n5 e5 bB bK n6 e6 bZ nA eA gA er hC;lia),V1 _ _ (W67 _ _ (S6 _ _ e5)),bB,bK,V1 _ _ (W67 _ _ e6),bZ,by (clear n5 e5 bB bK n6 e6 bZ nA eA gA hC cH hi hl er aK bq hm bC cc hd hlen dX e3 n4 e4 fH n3 bO;lia),by (clear n5 e5 bB bK n6 e6 bZ nA eA gA hC cH hi hl er aK bq hm bC cc hd hlen dX e3 n4 e4 bO bS n3;lia),by (clear aK bq hm bC cc hd hlen dX bO bS fH n3 e3 n4 e4 n5 e5 bB bK n6 e6 bZ nA eA gA hC cH hi hl er;omega),by (clear aK bq hm bC cc hd hlen dX bO bS fH n3 e3 n4 e4 n5 e5 bB bK n6 e6 bZ nA eA gA hC cH hi hl er;omega),fun d vd K1 W1 dd BX=>?_⟩
    have gP:rs.length=row.length:=by have:=dr.length;rw [List.length_map] at this;exact this
    refine⟨_,W1 _ _ er,cb (by (clear aK bq hm bC cc hd hlen dX bO bS fH n3 e3 n4 e4 n5 e5 bB bK n6 e6 bZ nA eA gA hC er;lia)),gF.mk fun K2 k2 f2=>(PL _ _ _).mpr ⟨fun c o e=>?_,⟨row++[d],_,by rw [List.length_append];simp;(clear aK bq hm bC cc hd hlen dX bO bS fH n3 e3 n4 e4 n5 e5 bB bK n6 e6 bZ nA eA gA hC cH hi gP f2 er;lia),f2,?_,fun e he=>?_⟩,_,rfl⟩⟩
    · rw [k2 c (C9 e)];exact W1 _ _ (V1 _ _ e)
    · rw [List.map_append]
      exact((dr.same W1).append (.one dd)).qg (W1 _ _ er) k2 (by rw [←List.map_append];exact i6 _ G5 _)
    · rcases List.mem_append.mp he with he|he
      · exact aX e he
      · rw [List.mem_singleton.mp he];exact⟨Bv BX,Gv BX (by (clear e5 bB bK n6 e6 bZ nA eA gA hC cH hi hl er gP f2 aK bq hm bC cc hd hlen dX e3 n4 e4 n5 bO bS n3;lia)) (by (clear aK bq hm bC cc hd hlen dX bO bS fH n3 e3 n4 e4 n5 e5 bB bK n6 e6 bZ nA eA gA hC cH hi hl er gP f2;omega)) RN Qr⟩
  intro σ K0 h
  obtain⟨V1,⟨row,rs,hl,er,dr,aX⟩,o7,rfl⟩:=(PL _ _ _).mp h
  clear PL
  have V2:=W27.trans V1
  dsimp only
  rw [hC]
  clear hC C
  have gP:rs.length=row.length:=by have:=dr.length;rw [List.length_map] at this;exact this
  have hS0:=(S02.trans V2).seq hS
  have ht0:=ht.same V2
  have hl:row.length≤1308:=by (clear aK bq hm bC cc hd hlen dX bO bS fH n3 e3 n4 e4 n5 e5 bB bK n6 e6 bZ nA er gP eA gA;lia)
  clear V1 V2 W27 W67 DA Mo gA eA S27 e6 e5 S26 S25 e3 e4 S3 S4 S5 S6 S7 nA D3 D6 n3 n4 n5 n6
  refine gU fun C hC=>?_
  have L4:∀(pr:Addr) (rs:List V) (row:List L2.au) (H2:Hp),av K0 H2→H2 pr=some (.lst rs)→aR H2 (row.map cF) rs→(∀d∈row,d.ok k (100:Nat)∧zG d)→row.length≤1308→
   C [some (V.ref a),some (V.int many),some v,some (V.int k),some (V.ref pN),some (V.ref pD),some (V.ref pr),o7,none,none,none,none,none,none,none,none,none,none,none] H2:=by
   intro pr rs row H2 S2 er dr aX hl
   rw [hC]
   clear hC C
   have gP:rs.length=row.length:=by have:=dr.length;rw [List.length_map] at this;exact this
   refine y6 fun C hC=>?_
   walk_at "rd"
   refine⟨Nat.zero_le _,aI.mk fun pt HC SC nC eC=>?_⟩
   refine⟨t,[],v,.ref pt,rfl,(ht0.same S2).same SC,gz eC,hd,by (clear e5 bB bK bZ cH er hl gP hC nC eC bC cc hd bS fH aK bq dX bO;lia),by simp,fun pp ps HL V2 u2 w2 DP=>?_⟩
   have rk:[V.non].length*(k:Int).toNat≤sizeLine:=aN (by simp;(clear bB bK bZ cH er hl gP hC nC eC u2 w2 aK bq hm bC cc hd hlen dX bO e5 bS;lia))
   refine⟨by decide,aI.mk fun x1 J1 R1 m1 Mx=>⟨x1,rfl,_,Mx,by (clear aK bq hm bC cc hd hlen dX bO bS fH e5 bB bK bZ cH er hl gP hC nC eC u2 w2 rk m1 Mx;lia),by (clear bZ cH er hl gP hC nC eC u2 w2 rk m1 Mx aK bq hm bC cc hd hlen e5 bB bK dX bO bS;omega),rk,aI.mk fun b0 J2 R2 m2 Mz=>⟨by decide,aI.mk fun x3 J3 R3 m3 RD=>⟨x3,rfl,_,RD,by decide,by decide,by decide,aI.mk fun s0 J4 R4 m4 OL=>?_⟩⟩⟩⟩
   rw [vg] at Mz OL
   rw [Int.toNat_natCast] at Mz
   refine⟨_,_,⟨rfl,rfl⟩,?_⟩
   have VJ:=((R1.trans R2).trans R3).trans R4
   have SJ:=((S2.trans SC).trans V2).trans VJ
   have Sq:=(SC.trans V2).trans VJ
   have OX:=Sq _ _ er
   have drJ:=dr.same Sq
   have PN:=VJ _ _ w2
   have DPJ:=DP.same VJ
   have Th:=tr.nodup hm
   rw [hC]
   clear hC C
   refine gU fun C hC=>?_
   walk_at "rd"
   obtain⟨Pv,fu⟩:∃Pv:Nat→St→Hp→Prop,∀i σ H',Pv i σ H'↔av J4 H'∧(∃(b s:Addr) (ws us:List V),H' b=some (.lst ws)∧H' s=some (.lst us)∧aR H' (((row.take i).foldl (M.mark t) (jS k 100)).1.map dO) ws∧aR H' (((row.take i).foldl (M.mark t) (jS k 100)).2.map dO) us∧
    ∃RV:Option V,σ=[some (V.ref a),some (V.int many),some v,some (V.int k),some (V.ref pN),some (V.ref pD),some (V.ref pr),o7,some (.ref pp),some (.ref b),some (.ref s),RV,none,none,none,none,none,none,none]):=⟨_,fun _ _ _=>Iff.rfl⟩
   refine WalkL.Df OX Pv ((fu _ _ _).mpr ⟨av.refl _,b0,s0,_,_,(R3.trans R4) _ _ Mz,OL,?_,?_,none,rfl⟩) (fun i σ H' _ h=>((fu _ _ _).mp h).1 _ _ OX) ?_ ?_
   · simp only [List.take_zero,List.foldl_nil,jS,List.map_replicate];exact nG _ _ (cT.mpr rfl) k
   · simp only [List.take_zero,List.foldl_nil,jS,List.map_replicate];exact nG _ _ (cT.mpr rfl) 100
   · intro i y σ H' ey h
     obtain⟨U1,b,s1,ws,us,eb,es,db,ds,RV,rfl⟩:=(fu _ _ _).mp h
     have hi:i<row.length:=by have:=(List.getElem?_eq_some_iff.mp ey).1;(clear aK bq hm bC cc hd hlen dX bO bS eC u2 w2 rk m1 Mx m2 Mz m3 RD fH e5 bB bK bZ m4 OL OX PN hC cH er hl ey eb nC es;lia)
     have e0:row[i]? = some row[i]:=List.getElem?_eq_getElem hi
     have BX:=(aX _ (List.getElem_mem hi)).1
     generalize row[i]=d at e0 BX
     obtain⟨y0,K8,Z8⟩:=aR.dD drJ e0
     rw [ey] at K8
     cases K8
     have IP:((row.take i).foldl (M.mark t) (jS k 100)).1.length=k∧((row.take i).foldl (M.mark t) (jS k 100)).2.length=100:=by
      have h1:=CT t row (jS k 100) i (by (clear aK bq hm bC cc hd hlen dX bO bS fH e5 bB bK bZ cH er hl gP nC eC u2 w2 rk m1 Mx m2 Mz m3 RD m4 OL OX PN hC ey eb es e0;lia))
      have:=LR t row _ _ (List.mem_of_getElem? h1)
      simpa [jS] using this
     walk_at "rd"
     have en:(row.take (i+1)).foldl (M.mark t) (jS k 100)=M.mark t ((row.take i).foldl (M.mark t) (jS k 100)) d:=by
      rw [List.take_add_one,e0,List.foldl_append];rfl
     generalize (row.take i).foldl (M.mark t) (jS k 100)=st at *
     refine⟨t,d,st,pp,ps,y,b,s1,ws,us,rfl,Th,hd,by (clear u2 w2 rk m1 Mx m2 Mz m3 RD m4 OL OX PN hC ey eb es hi e0 IP en e5 bB bK bZ cH er hl gP nC eC bC cc hd bS fH aK bq dX bO;lia),U1 _ _ PN,DPJ.same U1,Z8.same U1,eb,es,db,ds,by rw [IP.1,IP.2];exact BX,?_⟩
     intro r1 r2 r3 xs zs K2 W2 g2 n2 n3 agt g3 g4 d3 d4
     refine⟨r1,rfl,_,jE.of g2,rfl,_,_,rfl,_,_,rfl,rfl,(fu _ _ _).mpr ⟨U1.trans W2,r2,r3,xs,zs,g3,g4,?_,?_,_,rfl⟩⟩
     · rw [en];exact d3
     · rw [en];exact d4
   intro σ H' h
   obtain⟨U1,b,s1,ws,us,eb,es,db,ds,RV,rfl⟩:=(fu _ _ _).mp h
   clear fu
   rw [gP,List.take_length] at db ds
   have db:aR H' ((vm t k row).1.map dO) ws:=db
   have X1:=Sq.trans U1
   have Wz:=(ht0.same S2).same X1
   have N2:=X1 _ _ er
   have dr1:=dr.same X1
   clear Sq OX drJ PN DPJ X1 U1 VJ SJ Mx Mz RD OL R1 R2 R3 R4 DP w2 V2 SC eC
   dsimp only
   rw [hC]
   clear hC C
   refine y6 fun C hC=>?_
   walk_at "rd"
   refine⟨Nat.zero_le _,aI.mk fun p3 H3 S3 n3 e3=>?_⟩
   refine⟨t,[],v,.ref p3,rfl,Wz.same S3,gz e3,hd,by (clear er hl gP nC u2 rk m1 m2 m3 m4 eb es N2 hC n3 e3 bO bS fH e5 bB bK bZ cH aK bq cc hd bC dX;lia),by simp,fun p4 ys H4 S4 n4 e4 D4=>?_⟩
   have gK:=t.kD []
   have l4:ys.length=(t.wk []).length:=by have:=D4.length;simpa using this
   refine WalkL.comp e4 (fun i us H'=>aR H' ((((t.wk []).take i).filter fun q=>wQ q.2).map dR) us) .nil (by (clear bS fH e5 bB bK bZ cH er hl gP nC u2 rk m1 m2 m3 m4 eb N2 hC n3 e3 n4 bC cc hd aK bq dX bO es e4;lia)) (fun i us H' h=>?_) (fun i x us H' ex S' h=>?_) (fun p5 us H5 H6 S5 S6 h n6 e6=>?_)
   · have h1:=h.length
     rw [List.length_map] at h1
     rw [h1]
     exact Nat.le_trans (List.length_filter_le ..) (List.length_take_le ..)
   · have hi:i<(t.wk []).length:=by have:=(List.getElem?_eq_some_iff.mp ex).1;(clear aK bq hm bC cc hd hlen dX bO bS fH e5 bB bK bZ cH er hl gP nC u2 rk m1 m2 m3 m4 eb es N2 hC n3 e3 n4 e4 gK ex;lia)
     obtain⟨v',kY,sy⟩:=aR.dD (D4.same S') (List.getElem?_eq_getElem hi)
     rw [ex] at kY;cases kY
     have dv0:=sy
     obtain⟨b',v1,rfl,Ec,h1⟩:=Dr sy
     rw [List.take_add_one,List.getElem?_eq_getElem hi,List.filter_append]
     simp only [Option.toList_some,List.filter_cons,List.filter_nil]
     walk_at "rd"
     refine⟨_,ak Ec,_,dH,_,rfl,cj (fun d=>?_) (fun d=>?_)⟩
     · rw [if_pos d,List.map_append];exact⟨S',h.append (.one dv0)⟩
     · rw [if_neg d,List.append_nil];exact⟨S',h⟩
   rw [l4,List.take_length] at h
   have DK:=h.same S6
   have hK:us.length=nK t:=by have:=h.length;rw [List.length_map] at this;exact this
   have hP:((((t.wk []).filter fun q=>wQ q.2)).filter fun q=>decide ((k:Int)≤(OE q.2:Int))).length=(jQ t k).length:=by
    rw [List.filter_filter]
    show _=(((t.wk []).filter (uk k)).map (·.1)).length
    rw [List.length_map]
    congr 2
    funext q
    exact Bool.and_comm _ _
   have sk:((t.wk []).filter fun q=>wQ q.2).length=us.length:=hK.symm
   generalize (t.wk []).filter (fun q=>wQ q.2)=kn at DK hP sk
   have nk:=uh t
   refine WalkL.comp e6 (fun i ws H'=>ws.length=((kn.take i).filter fun q=>decide ((k:Int)≤(OE q.2:Int))).length) rfl (by (clear e5 bB bK bZ cH er hl gP nC u2 rk m1 m2 m3 m4 eb es N2 hC n3 e3 n4 bC cc hd bS fH e4 gK l4 n6 dX bO hP sk aK e6;lia)) (fun i us H' h=>by rw [h];exact Nat.le_trans (List.length_filter_le ..) (List.length_take_le ..)) (fun i x Qt H' ex S' h=>?_) (fun p7 Qt H7 H8 S7 S8 h8 n8 e8=>?_)
   · have hi:i<kn.length:=by have:=(List.getElem?_eq_some_iff.mp ex).1;(clear aK bq hm bC cc hd hlen dX bO bS fH e5 bB bK bZ cH er hl gP nC u2 rk m1 m2 m3 m4 eb es N2 hC n3 e3 l4 n6 e6 nk ex h n4 e4 gK hK hP;lia)
     obtain⟨v',kY,sy⟩:=aR.dD (DK.same S') (List.getElem?_eq_getElem hi)
     rw [ex] at kY;cases kY
     obtain⟨b',v1,rfl,Ec,h1⟩:=Dr sy
     rw [List.take_add_one,List.getElem?_eq_getElem hi,List.filter_append]
     simp only [Option.toList_some,List.filter_cons,List.filter_nil]
     walk_at "rd"
     refine⟨_,ak Ec,_,gW,_,rfl,?_⟩
     refine cj (fun d=>?_) (fun d=>?_)
     · rw [if_pos d];exact⟨S',by simp [h]⟩
     · rw [if_neg d];exact⟨S',by simp [h]⟩
   rw [←sk,List.take_length,hP] at h8
   have X2:=((((S3.trans S4).trans S5).trans S6).trans S7).trans S8
   refine⟨_,rfl,_,aC e8,?_⟩
   have DL:=(S7.trans S8) _ _ e6
   have R0:=Wz.same X2
   have er2:=X2 _ _ N2
   have dr2:=dr1.same X2
   have Se:=X2 _ _ eb
   have db2:=db.same X2
   rw [hC]
   clear hC C
   refine y6 fun C hC=>?_
   walk_at "rd"
   refine⟨Nat.zero_le _,aI.mk fun pm A1 R1 m1 f1=>⟨_,aC (R1 _ _ DL),by decide,aI.mk fun q1 A2 R2 m2 f2=>⟨_,aC ((R1.trans R2) _ _ DL),by decide,aI.mk fun q2 A3 R3 m3 f3=>⟨by decide,aI.mk fun q3 A4 R4 m4 f4=>⟨by decide,aI.mk fun q4 A5 R5 m5 f5=>⟨by decide,aI.mk fun pw A6 R6 m6 f6=>?_⟩⟩⟩⟩⟩⟩
   have f2:A2 q1=some (.tup [.str (Str.ofString "take"),.int ((nK t+1:Nat):Int)]):=by rw [f2,hK];push_cast;rfl
   rw [hK] at f3
   rw [h8] at f4 f5
   have R26:=(((R2.trans R3).trans R4).trans R5).trans R6
   have R36:=((R3.trans R4).trans R5).trans R6
   have ne:∀{c:Addr}{G:Hp},av A1 G→G c=none→c≠pm:=fun S n z=>by rw [z,S _ _ f1] at n;cases n
   have g1:wo pm A6 q1=some (.tup [.str (Str.ofString "take"),.int ((nK t+1:Nat):Int)]):=by rw [cE (ne (av.refl _) m2)];exact R36 _ _ f2
   have g2:wo pm A6 q2=some (.tup [.str (Str.ofString "join"),.int (nK t)]):=by rw [cE (ne R2 m3)];exact((R4.trans R5).trans R6) _ _ f3
   have g3:wo pm A6 q3=some (.tup [.str (Str.ofString "put"),.int (jQ t k).length]):=by rw [cE (ne (R2.trans R3) m4)];exact(R5.trans R6) _ _ f4
   have g4:wo pm A6 q4=some (.tup [.str (Str.ofString "fetch"),.int (jQ t k).length]):=by rw [cE (ne ((R2.trans R3).trans R4) m5)];exact R6 _ _ f5
   have g6:wo pm A6 pw=some (.lst [.ref q1,.ref q2,.ref q3,.ref q4]):=by rw [cE (ne (((R2.trans R3).trans R4).trans R5) m6)];exact f6
   have X3:av H8 (wo pm A6):=fun c o e=>by rw [cE (aL e m1)];exact(R1.trans R26) _ _ e
   have f1:=R26 _ _ f1
   have sP:=X3 _ _ er2
   have dr3:=dr2.same X3
   have OO:=R0.same X3
   have bW:=X3 _ _ Se
   have db3:=db2.same X3
   clear R26 R36 R1 R2 R3 R4 R5 R6 f2 f3 f4 f5 X3 er2 dr2 R0 Se db2 m2 m3 m4 m5 m6 ne X2 DL e6 e8 e4 D4 DK S3 S4 S5 S6 S7 S8 N2 dr1 Wz
   obtain⟨Pz,OH⟩:∃Pz:Nat→St→Hp→Prop,∀i σ H',Pz i σ H'↔av (wo pm A6) H'∧H' pm=some (.lst (((cQ t k row).take i).map V.int))∧∃Tf Sv:Option V,σ=[some (V.ref a),some (V.int many),some v,some (V.int k),some (V.ref pN),some (V.ref pD),some (V.ref pr),o7,some (.ref pp),some (.ref b),some (.ref s1),RV,some (.ref p5),some (.int Qt.length),some (.ref pm),Tf,Sv,none,none]:=⟨_,fun _ _ _=>Iff.rfl⟩
   refine WalkL.Df f6 Pz ((OH _ _ _).mpr ⟨iA,f1,none,none,rfl⟩) (fun i σ H' _ h=>((OH _ _ _).mp h).1 _ _ g6) ?_ ?_
   · intro i y σ H' ey h
     obtain⟨U1,em,Tf,Sv,rfl⟩:=(OH _ _ _).mp h
     obtain⟨q',x,z,rfl,gq,hz⟩:∃(q:Addr) (x:Str) (z:Int),y = .ref q∧wo pm A6 q=some (.tup [.str x,.int z])∧(cQ t k row)[i]? = some ((cnt x row:Int) - z):=by
      have hi:i<4:=by have:=(List.getElem?_eq_some_iff.mp ey).1;simpa using this
      rcases (show i=0∨i=1∨i=2∨i=3 by (clear aK bq hm bC cc hd hlen dX bO bS fH e5 bB bK bZ cH er hl gP nC u2 rk m2 m3 m4 eb es n3 e3 n4 gK l4 n6 hK hP sk nk h8 n8 hC m1 f2 f6 g1 g2 g3 g4 g6 f1 sP bW ey em;lia)) with rfl|rfl|rfl|rfl
      · cases ey;exact⟨q1,_,_,rfl,g1,rfl⟩
      · cases ey;exact⟨q2,_,_,rfl,g2,rfl⟩
      · cases ey;exact⟨q3,_,_,rfl,g3,rfl⟩
      · cases ey;exact⟨q4,_,_,rfl,g4,rfl⟩
     walk_at "rd"
     refine⟨_,jE.of (U1 _ _ gq),rfl,_,_,rfl,_,_,rfl,rfl,lJ em,?_⟩
     refine WalkL.comp (U1 _ _ sP) (fun i us H''=>us.length=cnt x (row.take i)) rfl (by (clear e3 n4 gK l4 n6 hK hP sk nk h8 n8 hC m1 f2 f6 g1 g2 g3 g4 g6 f1 sP bW em ey gq hz aK bq hm bC cc hd hlen dX bO bS fH e5 bB bK rk m2 m3 m4 eb es n3 bZ cH u2 er nC;lia)) (fun i us H'' h=>by rw [h];exact Nat.le_trans List.countP_le_length (List.length_take_le ..)) (fun j y us H'' ey S'' h=>?_) (fun p9 us H9 HA S9 SA h nA eA=>?_)
     · have hi:j<row.length:=by have:=(List.getElem?_eq_some_iff.mp ey).1;(clear aK bq hm bC cc hd hlen dX bO bS fH e5 bB bK bZ gK l4 n6 hK hP sk nk h8 n8 hC m1 f2 f6 g1 g2 m3 m4 eb es n3 e3 n4 g3 g4 g6 f1 sP bW em gq hz nC u2 rk m2 ey h er hl;lia)
       obtain⟨v',kY,sy⟩:=aR.dD ((dr3.same U1).same S'') (List.getElem?_eq_getElem hi)
       rw [ey] at kY;cases kY
       obtain⟨ad,rfl,ead⟩:=gr sy
       obtain⟨r',vi⟩:=C3 row[j]
       rw [vi] at ead
       rw [List.take_add_one,List.getElem?_eq_getElem hi,Option.toList_some,KU,cnt_cons,cnt_nil,Nat.zero_add]
       walk_at "rd"
       refine⟨_,ak ead,_,aP,rfl,cj (fun d=>?_) (fun d=>?_)⟩
       · have d:=V.str.inj (of_decide_eq_true d)
         rw [if_pos d];exact⟨S'',by simp [h]⟩
       · have d:¬sY row[j]=x:=fun z=>d (by rw [z];exact decide_eq_true rfl)
         rw [if_neg d];exact⟨S'',by simp [h]⟩
     · rw [gP,List.take_length] at h
       have S9A:=S9.trans SA
       refine⟨p9,rfl,_,aC eA,z,rfl,_,S9A _ _ em,cb (by simp [cQ];(clear aK bq hm bC cc hd hlen dX bO bS fH e5 bB bK bZ cH er hl gP nC u2 rk m2 m3 m4 eb es n3 e3 n4 gK l4 n6 hK hP sk nk h8 n8 hC m1 f2 f6 g1 g2 g3 g4 g6 f1 sP bW em ey gq hz h nA eA;lia)),gF.mk fun HB kB eB=>(OH _ _ _).mpr ⟨fun c o e=>?_,?_,_,_,rfl⟩⟩
       · rw [kB c (C9 e)];exact S9A _ _ (U1 _ _ e)
       · rw [eB,List.take_add_one,hz,h,List.map_append];rfl
   intro σ H' h
   obtain⟨U1,em,Tf,Sv,rfl⟩:=(OH _ _ _).mp h
   clear OH
   have em:H' pm=some (.lst ((cQ t k row).map V.int)):=em
   dsimp only
   rw [hC]
   clear hC C
   refine gU fun C hC=>?_
   have tail3:∀(z:Str) (H2:Hp),av H' H2→(M.held (vm t k row).1 []=false→z=Str.ofString "not held")→(M.held (vm t k row).1 []=true→(cQ t k row).any (fun j=>j != 0)=false→z=Str.ofString "least")→
    (M.held (vm t k row).1 []=true→(cQ t k row).any (fun j=>j != 0)=true→z=Str.ofString "held "++Txt.join (Str.ofString " ") ((cQ t k row).map cu))→
    C [some (V.ref a),some (V.int many),some v,some (V.int k),some (V.ref pN),some (V.ref pD),some (V.ref pr),o7,some (.ref pp),some (.ref b),some (.ref s1),RV,some (.ref p5),some (.int Qt.length),some (.ref pm),Tf,Sv,some (.str z),none] H2:=by
    intro z H2 S2 c1 c2 c3
    rw [hC]
    clear hC C
    walk_at "rd"
    have U2:=U1.trans S2
    have Mf:=S2 _ _ em
    refine⟨Nat.zero_le _,aI.mk fun p6 H6 S6 n6 e6=>⟨_,.inl (S6 _ _ (U2 _ _ bW)),_,db3.same (U2.trans S6),dP [],gz e6,Nat.le_trans (Nt _) (by decide),?_⟩⟩
    rw [Pj]
    have pos:=Ht bO (fun d hd=>(aX d hd).1)
    generalize M.held (vm t k row).1 []=hb at *
    cases hb with
    | false=>
     refine eS ⟨_,_,⟨rfl,rfl⟩,"str",.str _,by decide,?_⟩
     rw [show Cy "str" "str"=true by decide,decide_eq_true (c1 rfl)]
     exact eS (q _)
    | true=>
     have pos:=pos rfl
     have bd:∀j∈cQ t k row,j.natAbs<10000:=Dg (by (clear e3 n4 gK l4 hK hP sk nk h8 n8 m1 f2 f6 g1 g2 g3 g4 g6 f1 sP bW em Mf n6 e6 c1 c2 c3 bZ cH er hl gP nC u2 rk m2 m3 m4 eb es n3 dX bO bS fH e5 bB bK aK bq cc hd bC;lia)) (by (clear e3 n4 gK l4 hK hP sk nk h8 n8 m1 f2 f6 g1 g2 g3 g4 g6 f1 sP bW em Mf n6 e6 c1 c2 c3 aK bq hm bC cc hd hlen dX bO bS fH e5 bB bK rk m2 m3 m4 eb es n3 gP nC u2 bZ cH er;lia))
     obtain⟨x1,x2,x3,x4,Sx⟩:∃x1 x2 x3 x4:Int,cQ t k row=[x1,x2,x3,x4]:=⟨_,_,_,_,rfl⟩
     rw [Sx] at Mf pos bd c2 c3
     have four:∀{h:Hp}{a b c d:Int},aR h [.int a,.int b,.int c,.int d] [.int a,.int b,.int c,.int d]:=.cons (aQ.mpr rfl) (.cons (aQ.mpr rfl) (.cons (aQ.mpr rfl) (.cons (aQ.mpr rfl) .nil)))
     refine d5 ⟨by decide,aI.mk fun p7 H7 S7 n7 e7=>⟨_,Dt.lst (S7 _ _ (S6 _ _ Mf)) four,_,Dt.lst e7 four,by simp [D.dp,D.qa],?_⟩⟩
     have ee:D.eq (.lst [.int x1,.int x2,.int x3,.int x4]) (.lst [.int 0,.int 0,.int 0,.int 0]) = !([x1,x2,x3,x4].any fun j=>j != 0):=by
      rw [Bool.eq_iff_iff];simp [D.eq,D.eqs]
     rw [ee]
     cases ha:[x1,x2,x3,x4].any fun j=>j != 0 with
     | false=>
      refine eS ⟨_,_,⟨rfl,rfl⟩,"str",.str _,by decide,?_⟩
      rw [show Cy "str" "str"=true by decide,decide_eq_true (c2 rfl ha)]
      exact eS (q _)
     | true=>
      refine d5 ?_
      have ez:=c3 rfl ha
      have Qp:=S7 _ _ (S6 _ _ Mf)
      refine WalkL.comp Qp (fun i ys H'=>ys=(([x1,x2,x3,x4].take i).map cu).map V.str) rfl (show 4≤100000 by decide) (fun i ys H' h=>by rw [h];simp;(clear aK bq hm bC cc hd hlen dX bO bS fH e5 bB bK bZ cH er hl gP nC u2 rk m2 m3 m4 eb es n3 e3 n4 gK l4 hK hP sk nk h8 n8 m1 f2 f6 g1 g2 g3 g4 g6 f1 sP bW em n6 e6 c1 c3 c2 Mf Sx n7 e7 ee ha ez Qp h;lia)) (fun i x ys H' ex S' h=>?_) (fun p9 ys H9 HA S9 SA h nA eA=>?_)
      · have ex:([x1,x2,x3,x4].map V.int)[i]? = some x:=ex
        rw [List.getElem?_map] at ex
        obtain⟨j,ej,rfl⟩:=Option.map_eq_some_iff.mp ex
        walk_at "rd"
        refine .inr ⟨SS (bd j (List.mem_of_getElem? ej)),S',?_⟩
        rw [h,List.take_add_one,ej];simp
      · have h:ys=([x1,x2,x3,x4].map cu).map V.str:=h
        rw [h] at eA
        obtain⟨y7,jl⟩:=Dm (l:=[x1,x2,x3,x4]) rfl bd
        have e1:(Str.ofString " ").length=1:=by decide +kernel
        have e5:(Str.ofString "held ").length=5:=by decide +kernel
        refine⟨p9,rfl,[x1,x2,x3,x4].map cu,.inl (fQ.of eA),by rw [e1];have:([x1,x2,x3,x4].map cu).length=4:=rfl;(clear aK bq hm bC cc hd hlen dX bO bS fH bB bK bZ cH er hl gP nC u2 rk m2 m3 m4 eb es n3 e3 n4 gK l4 hK hP sk nk h8 n8 m1 f2 f6 g1 g2 g3 g4 g6 f1 sP bW em n6 e6 c1 c3 c2 Mf Sx n7 e7 ee ha ez Qp jl e1 nA eA h e5;lia),by rw [e5];exact aN (by (clear aK bq hm bC cc hd hlen dX bO bS fH bB bK bZ cH er hl gP nC u2 rk m2 m3 m4 eb es n3 e3 n4 gK l4 hK hP sk nk h8 n8 m1 f2 f6 g1 g2 g3 g4 g6 f1 sP bW em n6 e6 c1 c3 c2 Mf Sx n7 e7 ee ha ez Qp e1 e5 nA eA h y7;lia)),_,_,⟨rfl,rfl⟩,"str",.str _,by decide,?_⟩
        rw [show Cy "str" "str"=true by decide,decide_eq_true ez]
        refine eS (eS ⟨[x1,x2,x3,x4],aC (S9.trans SA _ _ Qp),by simp,fun m hm _=>?_⟩)
        rw [decide_eq_true (pos m hm)]
        exact q _
   walk_at "rd"
   have tl:=JR t (fun x h=>L2.iu (CO x h)) (fun x h=>L2.iu (sW x h))
   have qG:(fD t).length≤50000:=by (clear bZ cH er hl gP nC u2 rk m2 m3 m4 eb es n3 e3 n4 gK l4 n6 hK hP sk nk h8 n8 m1 f2 f6 dX bO bS fH e5 bB bK g1 g2 g3 g4 g6 f1 sP aK bq cc hd em hC bC bW;lia)
   refine⟨t,v,rfl,OO.same U1,hd,qG,?_⟩
   try (walk_at "rd")
   refine WalkL.comp (U1 _ _ sP) (fun i ys H'=>ys=((row.take i).map de).map V.str) rfl (by (clear n3 e3 n4 gK l4 n6 hK hP sk nk h8 n8 m1 f2 f6 g1 g2 g3 g4 g6 f1 sP bW em hC tl qG aK bq hm bC cc hd hlen dX bO bS fH e5 bB bK rk m2 m3 m4 eb es bZ cH u2 er nC;lia)) (fun i ys H' h=>by rw [h];simp;(clear aK bq hm bC cc hd hlen dX bO bS fH e5 bB bK bZ cH er hl gP nC u2 rk m2 m3 m4 eb es n3 e3 n4 gK l4 n6 hK hP sk nk h8 n8 m1 f2 f6 g1 g2 g3 g4 g6 f1 sP bW em hC tl qG h;lia)) (fun i x ys H'' ex S' h=>?_) (fun p ys H9 HA S9 SA h nA eA=>?_)
   · have hi:i<row.length:=by have:=(List.getElem?_eq_some_iff.mp ex).1;(clear aK bq hm bC cc hd hlen dX bO bS fH e5 bB bK bZ gK l4 n6 hK hP sk nk h8 n8 m1 f2 f6 g1 g2 g3 m3 m4 eb es n3 e3 n4 g4 g6 f1 sP bW em hC tl qG nC u2 rk m2 ex h er hl;lia)
     have e0:row[i]? = some row[i]:=List.getElem?_eq_getElem hi
     obtain⟨y,hy,dy⟩:=aR.dD (dr3.same U1) e0
     rw [ex] at hy;cases hy
     have BX:=(aX _ (List.getElem_mem hi)).2
     generalize row[i]=d at e0 dy BX
     obtain⟨b',rfl,Ec⟩:=gr (dy.same S')
     have UB:(bP d).length≤5:=by cases d<;>simp [bP]
     walk_at "rd"
     refine nW.comp Ec (fun i ys H'=>ys=((bP d).take i).map fun v=>V.str (yz v)) rfl (by (clear aK bq hm bC cc hd hlen dX bO bS fH e5 bB bK bZ cH er hl gP nC u2 rk m2 m3 m4 eb es n3 e3 n4 gK l4 n6 hK hP sk nk h8 n8 m1 f2 f6 g1 g2 g3 g4 g6 f1 sP bW em hC tl qG h hi e0 Ec ex;lia)) (fun i ys H' h=>by rw [h];simp;(clear aK bq hm bC cc hd hlen dX bO bS fH e5 bB bK bZ cH er hl gP nC u2 rk m2 m3 m4 eb es n3 e3 n4 gK l4 n6 hK hP sk nk h8 n8 m1 f2 f6 g1 g2 g3 g4 g6 f1 sP bW em hC tl qG hi e0 Ec ex UB h;lia)) (fun i x ys H3 ex S3 h=>?_) (fun p ys' H3 H4 S3 S4 h3 n4 e4=>?_)
     · have GX:((bP d).take (i+1)).map (fun v=>V.str (yz v))=ys++[V.str (yz x)]:=by rw [List.take_add_one,ex,h];simp
       walk_at "rd"
       rcases EG d x (List.mem_of_getElem? ex) with ⟨z,rfl⟩|⟨k,hk,rfl⟩
       · exact .inl ⟨z,rfl,S3,GX.symm⟩
       · have:=BX.1 k hk
         exact .inr ⟨k,rfl,SS (by (clear aK bq hm bC cc hd hlen dX bO bS fH e5 bB bK bZ cH er hl gP nC u2 rk m2 m3 m4 eb es n3 e3 n4 gK l4 n6 hK hP sk nk h8 n8 m1 f2 f6 g1 g2 g3 g4 g6 f1 sP bW em hC tl qG hi e0 Ec UB h ex GX;lia)),S3,GX.symm⟩
     · rw [List.take_length] at h3
       have e:ys'=(bV d).map V.str:=by rw [h3,←words_of d,List.map_map];rfl
       rw [e] at e4
       have hw:=xG BX
       have l5:=(rj d).2
       have s8:=yP (bV d) fun z hz=>(hw z hz).1
       refine⟨p,rfl,bV d,.inl (fQ.of e4),?_,(S'.trans S3).trans S4,?_⟩
       · have:(Str.ofString " ").length=1:=by decide +kernel
         rw [this];(clear aK bq hm bC cc hd hlen dX bO bS fH e5 bB bK bZ cH er hl gP nC u2 rk m2 m3 m4 eb es n3 e3 gK l4 n6 hK hP sk nk h8 n8 m1 f2 f6 g1 g2 g3 g4 g6 f1 sP bW em hC tl qG h hi e0 Ec ex UB h3 n4 e4 this e;lia)
       · rw [h,List.take_add_one,e0];simp [de]
   · rw [gP,List.take_length] at h
     rw [h] at eA
     have h2:∀r:List L2.au,(∀d∈r,zG d)→((r.map de).map fun x=>x.length).sum≤50*r.length:=by
      intro r
      induction r with
      | nil=>intro _;simp
      | cons d r ih=>
       intro h
       have a1:=(nr (h d (by simp))).1
       have a2:=ih fun d hd=>h d (by simp [hd])
       simp only [List.map_cons,List.sum_cons,List.length_cons] at a2 ⊢
       (clear aK bq hm bC cc hd hlen dX bO bS fH e5 bB bK bZ cH er hl gP nC u2 rk m2 m3 m4 eb es n3 e3 n4 gK l4 n6 hK hP sk nk h8 n8 m1 f2 f6 g1 g2 g3 g4 g6 f1 sP bW em hC tl qG nA eA ih;lia)
     have h3:=h2 row fun d hd=>(aX d hd).2
     have S9A:=S9.trans SA
     refine⟨p,rfl,row.map de,.inl (fQ.of eA),?_,?_⟩
     · have:(Str.ofString "; ").length=2:=by decide +kernel
       rw [this,List.length_map]
       (clear aK bq hm bC cc hd hlen dX bO bS fH e5 bB bK bZ gK l4 n6 hK hP sk nk h8 n8 m1 f2 f6 g1 g2 g3 g6 f1 sP bW em hC tl qG nC u2 rk m2 m3 m4 eb es n3 e3 n4 g4 this cH er h nA gP eA;lia)
     refine⟨⟨(fD t).toArray⟩,t,k,row,rfl,by rw [iZ,yj];omega,yj _,hd,by (clear n4 gK l4 n6 hK hP sk nk h8 n8 m1 f2 f6 g1 g2 g3 g4 g6 f1 sP bW em hC tl qG h nA eA h3 cH er hl gP nC u2 rk m2 m3 m4 eb es n3 e3 bO bS fH e5 bB bK bZ aK bq cc hd bC dX;lia),CO,sW,Th,?_,by (clear n4 gK l4 n6 hK hP sk nk h8 n8 m1 f2 f6 g1 g2 g3 g4 g6 f1 sP bW em hC tl qG h nA eA h3 cH er hl gP nC u2 rk m2 m3 m4 eb es n3 e3 aK bq hm bC cc hd hlen dX bB bK bZ bO bS e5;lia),by (clear n4 gK l4 n6 hK hP sk nk h8 n8 m1 f2 f6 g1 g2 g3 g4 g6 f1 sP bW em hC tl qG h nA eA h3 aK bq hm bC cc hd hlen dX bO bS fH e5 bB bK bZ m3 m4 eb es n3 e3 nC u2 rk m2 er gP;lia),fun d hd=>(aX d hd).2,fun d hd=>(aX d hd).1,fun hh H2 S2=>?_,fun hh ha H2 S2=>?_,fun hh ha H2 S2=>?_⟩
     · exact bO.elim .inl fun z=>.inr ⟨z,bS⟩
     · exact tail3 _ H2 (S9A.trans S2) (fun _=>rfl) (fun z=>by rw [hh] at z;cases z) (fun z=>by rw [hh] at z;cases z)
     · exact tail3 _ H2 (S9A.trans S2) (fun z=>by rw [hh] at z;cases z) (fun _ _=>rfl) (fun _ z=>by rw [ha] at z;cases z)
     · exact tail3 _ H2 (S9A.trans S2) (fun z=>by rw [hh] at z;cases z) (fun _ z=>by rw [ha] at z;cases z) (fun _ _=>rfl)
  walk_at "rd"
  refine⟨a,ns,23,rfl,hS0,aK,by (clear aK bq hm bC cc hd hlen dX bO bS fH e5 bB bK bZ cH er gP hl hC;omega),by (clear aK bq hm bC cc hd hlen dX bO bS fH e5 bB bK bZ cH er gP hl hC;omega),_,rfl,by decide,?_⟩
  refine cj (fun g=>?_) (fun g=>L4 pr rs row K0 (av.refl _) er dr aX hl)
  refine⟨a,ns,23,rfl,hS0,aK,by (clear aK bq hm bC cc hd hlen dX bO bS fH e5 bB bK bZ cH er gP hl hC g;omega),by (clear aK bq hm bC cc hd hlen dX bO bS fH e5 bB bK bZ cH er gP hl hC g;omega),_,rfl,⟨by decide,by decide⟩,?_⟩
  generalize cm ns (23:Int).toNat=LI
  refine⟨_,aC er,by (clear aK bq hm bC cc hd hlen dX bO bS fH e5 bB bK bZ cH er gP hl hC g;lia),_,er,?_⟩
  obtain⟨at',lG,hle⟩:∃n:Nat,LI / 3 % (((rs.length:Nat):Int)+1)=n∧n≤rs.length:=by
   have h1:=Int.emod_nonneg (LI / 3) (show (((rs.length:Nat):Int)+1)≠0 by (clear aK bq hm bC cc hd hlen dX bO bS fH e5 bB bK bZ cH er gP hl hC g;lia))
   have h2:=Int.emod_lt_of_pos (LI / 3) (show 0<(((rs.length:Nat):Int)+1) by (clear aK bq hm bC cc hd hlen dX bO bS fH e5 bB bK bZ cH er gP hl hC g h1;lia))
   exact⟨(LI / 3 % (((rs.length:Nat):Int)+1)).toNat,by (clear aK bq hm bC cc hd hlen dX bO bS fH e5 bB bK bZ cH er gP hl hC g h2;lia),by (clear aK bq hm bC cc hd hlen dX bO bS fH e5 bB bK bZ cH er gP hl hC g h1;lia)⟩
  rw [lG,C7 hle]
  refine aI.mk fun q1 A1 R1 m1 f1=>L4 q1 _ (row.take at') A1 R1 f1 ?_ (fun d hd=>aX d (List.mem_of_mem_take hd)) (by rw [List.length_take];(clear aK bq hm bC cc hd hlen dX bO bS fH e5 bB g lG hle m1 f1 bK bZ cH er hC gP;lia))
  rw [List.map_take]
  exact(dr.same R1).take at'
 have kL:many=1→t.eR=true:=fun z=>by
  cases t with
  | leaf x=>rfl
  | knot f l r=>
   have h1:=uh l
   have h2:=uh r
   have h3:(M.Tr.knot f l r).lv.length=l.lv.length+r.lv.length:=by simp [M.Tr.lv]
   (clear aK bq hm bC cc dX hC hd;lia)
 walk_at "rd"
 refine cj (fun g=>?_) (fun g=>tail k0 (.inl (by (clear aK bq hm bC cc hd kL g hC hlen;lia))) (by (clear aK bq hm bC cc hd kL g hC hlen;lia)) (by (clear aK bq hm bC cc hd kL g hC hlen;lia)))
 have g:many=1:=by have:=of_decide_eq_true g;(clear aK bq hm bC cc hd hlen dX hC kL g;lia)
 refine⟨a,ns,12,rfl,S02.seq hS,aK,by omega,by omega,_,rfl,by decide,?_⟩
 generalize cm ns (12:Int).toNat=cell2
 obtain⟨k1,bS⟩:∃k:Nat,(1+cell2 % 4:Int)=k:=⟨(1+cell2 % 4).toNat,by (clear aK bq hm bC cc hd hlen dX hC kL g;lia)⟩
 rw [bS]
 exact tail k1 (.inr (kL g)) (by (clear aK bq hm bC cc hd hlen dX hC kL g;lia)) (by (clear aK bq hm bC cc hd hlen dX hC kL g;lia))
end
theorem all_mk {l:PySem.W.OpenLaw}{w:World}{K:PySem.W.Frag}{h:Heap}{mg:Str→Option Value}{fa:Addr} (X:K.In h) (G:h.Ns mainGlobals mg)
 {f0:Addr}{od0 an0:Option Addr}{sl0:Array (Option Value)}{oc0 kV0 dc0 pm0 cd0 ct0:Value}
 {f1:Addr}{od1 an1:Option Addr}{sl1:Array (Option Value)}{oc1 kV1 dc1 pm1 cd1 NZ:Value}
 {f2:Addr}{od2 an2:Option Addr}{MF:Array (Option Value)}{oc2 kV2 dc2 pm2 cd2 Qk:Value}
 {f3:Addr}{od3 an3:Option Addr}{sl3:Array (Option Value)}{oc3 kV3 dc3 pm3 cd3 ct3:Value}
 {f4:Addr}{od4 an4:Option Addr}{sl4:Array (Option Value)}{oc4 kV4 dc4 pm4 cd4 ct4:Value}
 {f5:Addr}{od5 an5:Option Addr}{sl5:Array (Option Value)}{oc5 kV5 dc5 pm5 cd5 ct5:Value}
 {f6:Addr}{od6 an6:Option Addr}{sl6:Array (Option Value)}{oc6 kV6 dc6 pm6 cd6 ct6:Value}
 {f7:Addr}{od7 an7:Option Addr}{sl7:Array (Option Value)}{oc7 kV7 dc7 pm7 cd7 ct7:Value}
 {f8:Addr}{od8 an8:Option Addr}{sl8:Array (Option Value)}{oc8 kV8 dc8 pm8 cd8 ct8:Value}
 {f9:Addr}{od9 an9:Option Addr}{sl9:Array (Option Value)}{oc9 kV9 dc9 pm9 cd9 ct9:Value}
 {SV:Addr}{adb VF:Option Addr}{XA:Array (Option Value)}{WI YV adS YF RG YL:Value}
 {Ta:Addr}{ac3 Wi:Option Addr}{abX:Array (Option Value)}{Ze WU acG aa5 Pb VO:Value}
 {TV:Addr}{acn YA:Option Addr}{adF:Array (Option Value)}{adu X9 abk ZQ Qb adn:Value}
 {SH:Addr}{abI aaA:Option Addr}{abm:Array (Option Value)}{abT Xr WV abo Rf adV:Value}
 {TC:Addr}{ZS Zf:Option Addr}{Yd:Array (Option Value)}{acH U8 XJ aat O7 VH:Value}
 {Sl:Addr}{acO abx:Option Addr}{Xb:Array (Option Value)}{aep Xv acZ Vu QD Ua:Value}
 {Tb:Addr}{aaD WA:Option Addr}{ab9:Array (Option Value)}{WO abt YZ acJ O6 Xz:Value}
 {Sn:Addr}{aa3 acf:Option Addr}{XW:Array (Option Value)}{aaf ZR WB VQ QT acS:Value}
 {Te:Addr}{Vs aau:Option Addr}{aaU:Array (Option Value)}{US adC abD ac8 RY ZV:Value}
 {Tt:Addr}{abn ac0:Option Addr}{acs:Array (Option Value)}{UH Vg Xg U5 PR acV:Value}
 {SK:Addr}{aeo adE:Option Addr}{aaL:Array (Option Value)}{Va Wc XH ade Sb Ug:Value}
 {TX:Addr}{VW aan:Option Addr}{Zz:Array (Option Value)}{aao abe Wg UU Pu aaE:Value}
 {SN:Addr}{aac Vo:Option Addr}{VR:Array (Option Value)}{adx aar X4 Yt QO WD:Value}
 {Sr:Addr}{ad6 aaZ:Option Addr}{acN:Array (Option Value)}{aax aet adL Xy Rg Zx:Value}
 {TN:Addr}{aaJ UO:Option Addr}{We:Array (Option Value)}{aaV abY aam aco QH Ws:Value}
 {Td:Addr}{aaR aee:Option Addr}{abQ:Array (Option Value)}{Uh Vi Zy aaF QI acm:Value}
 {Sz:Addr}{YT YX:Option Addr}{acb:Array (Option Value)}{WZ adK UZ aa7 Qy adk:Value}
 {Tq:Addr}{Vt aen:Option Addr}{WC:Array (Option Value)}{aal Vj Vr Um PD XN:Value}
 {TF:Addr}{aaz Xc:Option Addr}{ZU:Array (Option Value)}{WK Yz ad4 Z6 Q7 aa9:Value}
 {Tu:Addr}{adJ Xf:Option Addr}{abh:Array (Option Value)}{Ux aaS ad5 XY Ph Xx:Value}
 {Tn:Addr}{abH VA:Option Addr}{aaY:Array (Option Value)}{aaT UY ZI acW Qz Yk:Value}
 {T3:Addr}{UL ab0:Option Addr}{adv:Array (Option Value)}{aab Uk Uq aaI Pc Ys:Value}
 {SE:Addr}{ZL ac7:Option Addr}{Yc:Array (Option Value)}{aeb YU XB Yj O8 ZE:Value}
 {SO:Addr}{Wx Yb:Option Addr}{T9:Array (Option Value)}{aea acR adU acF P7 Yi:Value}
 {Sg:Addr}{Up aew:Option Addr}{Uo:Array (Option Value)}{adZ XI YI adB Qe aei:Value}
 {Si:Addr}{X5 abV:Option Addr}{ad7:Array (Option Value)}{Wo acr abw XS Pm Xi:Value}
 {TQ:Addr}{aby V7:Option Addr}{abd:Array (Option Value)}{ab5 ZZ UJ acB R8 ad1:Value}
 {SQ:Addr}{ZA T6:Option Addr}{UK:Array (Option Value)}{acT adt Vq Yn Pe abS:Value}
 {TR:Addr}{XT ad9:Option Addr}{WJ:Array (Option Value)}{aaQ WR adg abF RO V9:Value}
 {Tc:Addr}{ZK abA:Option Addr}{Wy:Array (Option Value)}{Za WY YJ aca Q4 aaK:Value}
 {SX:Addr}{acd abZ:Option Addr}{Wv:Array (Option Value)}{acg Ue WS Ud QJ Xl:Value}
 {Sk:Addr}{abB aap:Option Addr}{VG:Array (Option Value)}{UM abv Vy Ww RH Zh:Value}
 {Tx:Addr}{YW YQ:Option Addr}{Uy:Array (Option Value)}{Wt aej acp Z7 P8 Yg:Value}
 {SM:Addr}{aev Wh:Option Addr}{ZP:Array (Option Value)}{aaP VY acY UD Rv Yo:Value}
 {SU:Addr}{T5 ad0:Option Addr}{acw:Array (Option Value)}{Yu Vm Uw W9 Sd Wj:Value}
 {Tv:Addr}{aav Vd:Option Addr}{adj:Array (Option Value)}{abC aaM adY Ui Qg ZF:Value}
 {TZ:Addr}{adw abR:Option Addr}{T8:Array (Option Value)}{abz aae abl VX Rm Zg:Value}
 {To:Addr}{Zt Vn:Option Addr}{Yh:Array (Option Value)}{aaX aaW UI Zd Rj U3:Value}
 {Ss:Addr}{ace adl:Option Addr}{WG:Array (Option Value)}{ab3 aer Y9 aaj Px ac2:Value}
 {QY:Addr}{adX Zr:Option Addr}{Zk:Array (Option Value)}{XC UT ads UW Rh WL:Value}
 {tk0:Tok}
 {tk1:Tok}
 {tk2:Tok}
 {tk3:Tok}
 {tk4:Tok}
 {tk5:Tok}
 {iw:Addr}
 (a0:PySem.W.nsIn K mainGlobals "box_numbers"=some (some (.ref f0))) (l0:K.lookup f0=some ⟨oc0,od0,.func (PySem.W.fnOf "box_numbers" "box_numbers" (aB du) (ax du) (ai du) .none kV0 dc0 pm0 an0 cd0 ct0),sl0⟩) (c0:PySem.W.codeIn K cd0 "box_numbers"=true) (k0:PySem.W.keepIn K (.ref f0)=true)
 (a1:PySem.W.nsIn K mainGlobals "shelf_numbers"=some (some (.ref f1))) (l1:K.lookup f1=some ⟨oc1,od1,.func (PySem.W.fnOf "shelf_numbers" "shelf_numbers" (aB cq) (ax cq) (ai cq) .none kV1 dc1 pm1 an1 cd1 NZ),sl1⟩) (c1:PySem.W.codeIn K cd1 "shelf_numbers"=true) (k1:PySem.W.keepIn K (.ref f1)=true)
 (a2:PySem.W.nsIn K mainGlobals "check_numbers"=some (some (.ref f2))) (l2:K.lookup f2=some ⟨oc2,od2,.func (PySem.W.fnOf "check_numbers" "check_numbers" (aB cn) (ax cn) (ai cn) .none kV2 dc2 pm2 an2 cd2 Qk),MF⟩) (c2:PySem.W.codeIn K cd2 "check_numbers"=true) (k2:PySem.W.keepIn K (.ref f2)=true)
 (a3:PySem.W.nsIn K mainGlobals "check_deed"=some (some (.ref f3))) (l3:K.lookup f3=some ⟨oc3,od3,.func (PySem.W.fnOf "check_deed" "check_deed" (aB eJ) (ax eJ) (ai eJ) .none kV3 dc3 pm3 an3 cd3 ct3),sl3⟩) (c3:PySem.W.codeIn K cd3 "check_deed"=true) (k3:PySem.W.keepIn K (.ref f3)=true)
 (a4:PySem.W.nsIn K mainGlobals "moved_value"=some (some (.ref f4))) (l4:K.lookup f4=some ⟨oc4,od4,.func (PySem.W.fnOf "moved_value" "moved_value" (aB di) (ax di) (ai di) .none kV4 dc4 pm4 an4 cd4 ct4),sl4⟩) (c4:PySem.W.codeIn K cd4 "moved_value"=true) (k4:PySem.W.keepIn K (.ref f4)=true)
 (a5:PySem.W.nsIn K mainGlobals "state_behind"=some (some (.ref f5))) (l5:K.lookup f5=some ⟨oc5,od5,.func (PySem.W.fnOf "state_behind" "state_behind" (aB cO) (ax cO) (ai cO) .none kV5 dc5 pm5 an5 cd5 ct5),sl5⟩) (c5:PySem.W.codeIn K cd5 "state_behind"=true) (k5:PySem.W.keepIn K (.ref f5)=true)
 (a6:PySem.W.nsIn K mainGlobals "is_name"=some (some (.ref f6))) (l6:K.lookup f6=some ⟨oc6,od6,.func (PySem.W.fnOf "is_name" "is_name" (aB ic) (ax ic) (ai ic) .none kV6 dc6 pm6 an6 cd6 ct6),sl6⟩) (c6:PySem.W.codeIn K cd6 "is_name"=true) (k6:PySem.W.keepIn K (.ref f6)=true)
 (a7:PySem.W.nsIn K mainGlobals "is_leaf"=some (some (.ref f7))) (l7:K.lookup f7=some ⟨oc7,od7,.func (PySem.W.fnOf "is_leaf" "is_leaf" (aB ib) (ax ib) (ai ib) .none kV7 dc7 pm7 an7 cd7 ct7),sl7⟩) (c7:PySem.W.codeIn K cd7 "is_leaf"=true) (k7:PySem.W.keepIn K (.ref f7)=true)
 (a8:PySem.W.nsIn K mainGlobals "places"=some (some (.ref f8))) (l8:K.lookup f8=some ⟨oc8,od8,.func (PySem.W.fnOf "places" "places" (aB jM) (ax jM) (ai jM) .none kV8 dc8 pm8 an8 cd8 ct8),sl8⟩) (c8:PySem.W.codeIn K cd8 "places"=true) (k8:PySem.W.keepIn K (.ref f8)=true)
 (a9:PySem.W.nsIn K mainGlobals "leaves"=some (some (.ref f9))) (l9:K.lookup f9=some ⟨oc9,od9,.func (PySem.W.fnOf "leaves" "leaves" (aB jK) (ax jK) (ai jK) .none kV9 dc9 pm9 an9 cd9 ct9),sl9⟩) (c9:PySem.W.codeIn K cd9 "leaves"=true) (k9:PySem.W.keepIn K (.ref f9)=true)
 (UA:PySem.W.nsIn K mainGlobals "part_at"=some (some (.ref SV))) (l10:K.lookup SV=some ⟨WI,adb,.func (PySem.W.fnOf "part_at" "part_at" (aB h9) (ax h9) (ai h9) .none YV adS YF VF RG YL),XA⟩) (Vh:PySem.W.codeIn K RG "part_at"=true) (Wm:PySem.W.keepIn K (.ref SV)=true)
 (XG:PySem.W.nsIn K mainGlobals "place_of"=some (some (.ref Ta))) (Zc:K.lookup Ta=some ⟨Ze,ac3,.func (PySem.W.fnOf "place_of" "place_of" (aB fU) (ax fU) (ai fU) .none WU acG aa5 Wi Pb VO),abX⟩) (Ul:PySem.W.codeIn K Pb "place_of"=true) (Yp:PySem.W.keepIn K (.ref Ta)=true)
 (YR:PySem.W.nsIn K mainGlobals "deeper_than"=some (some (.ref TV))) (l12:K.lookup TV=some ⟨adu,acn,.func (PySem.W.fnOf "deeper_than" "deeper_than" (aB dm) (ax dm) (ai dm) .none X9 abk ZQ YA Qb adn),adF⟩) (Zp:PySem.W.codeIn K Qb "deeper_than"=true) (Uu:PySem.W.keepIn K (.ref TV)=true)
 (a13:PySem.W.nsIn K mainGlobals "check_size"=some (some (.ref SH))) (Xn:K.lookup SH=some ⟨abT,abI,.func (PySem.W.fnOf "check_size" "check_size" (aB eE) (ax eE) (ai eE) .none Xr WV abo aaA Rf adV),abm⟩) (YC:PySem.W.codeIn K Rf "check_size"=true) (k13:PySem.W.keepIn K (.ref SH)=true)
 (WQ:PySem.W.nsIn K mainGlobals "check_names"=some (some (.ref TC))) (ZG:K.lookup TC=some ⟨acH,ZS,.func (PySem.W.fnOf "check_names" "check_names" (aB dA) (ax dA) (ai dA) .none U8 XJ aat Zf O7 VH),Yd⟩) (c14:PySem.W.codeIn K O7 "check_names"=true) (k14:PySem.W.keepIn K (.ref TC)=true)
 (a15:PySem.W.nsIn K mainGlobals "formula"=some (some (.ref Sl))) (l15:K.lookup Sl=some ⟨aep,acO,.func (PySem.W.fnOf "formula" "formula" (aB ij) (ax ij) (ai ij) .none Xv acZ Vu abx QD Ua),Xb⟩) (c15:PySem.W.codeIn K QD "formula"=true) (k15:PySem.W.keepIn K (.ref Sl)=true)
 (a16:PySem.W.nsIn K mainGlobals "fresh"=some (some (.ref Tb))) (l16:K.lookup Tb=some ⟨WO,aaD,.func (PySem.W.fnOf "fresh" "fresh" (aB s_fresh) (ax s_fresh) (ai s_fresh) .none abt YZ acJ WA O6 Xz),ab9⟩) (Z1:PySem.W.codeIn K O6 "fresh"=true) (XR:PySem.W.keepIn K (.ref Tb)=true)
 (a17:PySem.W.nsIn K mainGlobals "knot_over"=some (some (.ref Sn))) (l17:K.lookup Sn=some ⟨aaf,aa3,.func (PySem.W.fnOf "knot_over" "knot_over" (aB fm) (ax fm) (ai fm) .none ZR WB VQ acf QT acS),XW⟩) (VM:PySem.W.codeIn K QT "knot_over"=true) (WX:PySem.W.keepIn K (.ref Sn)=true)
 (Zb:PySem.W.nsIn K mainGlobals "mark_brought"=some (some (.ref Te))) (Xh:K.lookup Te=some ⟨US,Vs,.func (PySem.W.fnOf "mark_brought" "mark_brought" (aB cI) (ax cI) (ai cI) .none adC abD ac8 aau RY ZV),aaU⟩) (c18:PySem.W.codeIn K RY "mark_brought"=true) (k18:PySem.W.keepIn K (.ref Te)=true)
 (a19:PySem.W.nsIn K mainGlobals "marked"=some (some (.ref Tt))) (XE:K.lookup Tt=some ⟨UH,abn,.func (PySem.W.fnOf "marked" "marked" (aB jO) (ax jO) (ai jO) .none Vg Xg U5 ac0 PR acV),acs⟩) (c19:PySem.W.codeIn K PR "marked"=true) (WH:PySem.W.keepIn K (.ref Tt)=true)
 (a20:PySem.W.nsIn K mainGlobals "moments"=some (some (.ref SK))) (l20:K.lookup SK=some ⟨Va,aeo,.func (PySem.W.fnOf "moments" "moments" (aB ip) (ax ip) (ai ip) .none Wc XH ade adE Sb Ug),aaL⟩) (c20:PySem.W.codeIn K Sb "moments"=true) (Uz:PySem.W.keepIn K (.ref SK)=true)
 (Zv:PySem.W.nsIn K mainGlobals "formula_held"=some (some (.ref TX))) (Uj:K.lookup TX=some ⟨aao,VW,.func (PySem.W.fnOf "formula_held" "formula_held" (aB cK) (ax cK) (ai cK) .none abe Wg UU aan Pu aaE),Zz⟩) (Vc:PySem.W.codeIn K Pu "formula_held"=true) (Zs:PySem.W.keepIn K (.ref TX)=true)
 (VP:PySem.W.nsIn K mainGlobals "rank"=some (some (.ref SN))) (Vz:K.lookup SN=some ⟨adx,aac,.func (PySem.W.fnOf "rank" "rank" (aB qX) (ax qX) (ai qX) .none aar X4 Yt Vo QO WD),VR⟩) (c22:PySem.W.codeIn K QO "rank"=true) (k22:PySem.W.keepIn K (.ref SN)=true)
 (a23:PySem.W.nsIn K mainGlobals "puts"=some (some (.ref Sr))) (Z4:K.lookup Sr=some ⟨aax,ad6,.func (PySem.W.fnOf "puts" "puts" (aB qU) (ax qU) (ai qU) .none aet adL Xy aaZ Rg Zx),acN⟩) (LI:PySem.W.codeIn K Rg "puts"=true) (Xq:PySem.W.keepIn K (.ref Sr)=true)
 (T7:PySem.W.nsIn K mainGlobals "must_put"=some (some (.ref TN))) (YS:K.lookup TN=some ⟨aaV,aaJ,.func (PySem.W.fnOf "must_put" "must_put" (aB fZ) (ax fZ) (ai fZ) .none abY aam aco UO QH Ws),We⟩) (c24:PySem.W.codeIn K QH "must_put"=true) (k24:PySem.W.keepIn K (.ref TN)=true)
 (ZX:PySem.W.nsIn K mainGlobals "least"=some (some (.ref Td))) (YD:K.lookup Td=some ⟨Uh,aaR,.func (PySem.W.fnOf "least" "least" (aB nc) (ax nc) (ai nc) .none Vi Zy aaF aee QI acm),abQ⟩) (Vv:PySem.W.codeIn K QI "least"=true) (Wa:PySem.W.keepIn K (.ref Td)=true)
 (VL:PySem.W.nsIn K mainGlobals "is_number"=some (some (.ref Sz))) (U6:K.lookup Sz=some ⟨WZ,YT,.func (PySem.W.fnOf "is_number" "is_number" (aB fk) (ax fk) (ai fk) .none adK UZ aa7 YX Qy adk),acb⟩) (c26:PySem.W.codeIn K Qy "is_number"=true) (UN:PySem.W.keepIn K (.ref Sz)=true)
 (WM:PySem.W.nsIn K mainGlobals "read_part"=some (some (.ref Tq))) (l27:K.lookup Tq=some ⟨aal,Vt,.func (PySem.W.fnOf "read_part" "read_part" (aB fz) (ax fz) (ai fz) .none Vj Vr Um aen PD XN),WC⟩) (c27:PySem.W.codeIn K PD "read_part"=true) (XQ:PySem.W.keepIn K (.ref Tq)=true)
 (a28:PySem.W.nsIn K mainGlobals "read_deed"=some (some (.ref TF))) (l28:K.lookup TF=some ⟨WK,aaz,.func (PySem.W.fnOf "read_deed" "read_deed" (aB fh) (ax fh) (ai fh) .none Yz ad4 Z6 Xc Q7 aa9),ZU⟩) (VC:PySem.W.codeIn K Q7 "read_deed"=true) (VD:PySem.W.keepIn K (.ref TF)=true)
 (U7:PySem.W.nsIn K mainGlobals "read_row"=some (some (.ref Tu))) (Zm:K.lookup Tu=some ⟨Ux,adJ,.func (PySem.W.fnOf "read_row" "read_row" (aB fV) (ax fV) (ai fV) .none aaS ad5 XY Xf Ph Xx),abh⟩) (Wf:PySem.W.codeIn K Ph "read_row"=true) (VE:PySem.W.keepIn K (.ref Tu)=true)
 (XU:PySem.W.nsIn K mainGlobals "name_end"=some (some (.ref Tn))) (Ur:K.lookup Tn=some ⟨aaT,abH,.func (PySem.W.fnOf "name_end" "name_end" (aB gg) (ax gg) (ai gg) .none UY ZI acW VA Qz Yk),aaY⟩) (c30:PySem.W.codeIn K Qz "name_end"=true) (VN:PySem.W.keepIn K (.ref Tn)=true)
 (Xk:PySem.W.nsIn K mainGlobals "past"=some (some (.ref T3))) (l31:K.lookup T3=some ⟨aab,UL,.func (PySem.W.fnOf "past" "past" (aB qY) (ax qY) (ai qY) .none Uk Uq aaI ab0 Pc Ys),adv⟩) (Yl:PySem.W.codeIn K Pc "past"=true) (k31:PySem.W.keepIn K (.ref T3)=true)
 (a32:PySem.W.nsIn K mainGlobals "tree_from"=some (some (.ref SE))) (Vx:K.lookup SE=some ⟨aeb,ZL,.func (PySem.W.fnOf "tree_from" "tree_from" (aB ft) (ax ft) (ai ft) .none YU XB Yj ac7 O8 ZE),Yc⟩) (V8:PySem.W.codeIn K O8 "tree_from"=true) (k32:PySem.W.keepIn K (.ref SE)=true)
 (a33:PySem.W.nsIn K mainGlobals "read"=some (some (.ref SO))) (YM:K.lookup SO=some ⟨aea,Wx,.func (PySem.W.fnOf "read" "read" (aB qh) (ax qh) (ai qh) .none acR adU acF Yb P7 Yi),T9⟩) (c33:PySem.W.codeIn K P7 "read"=true) (Vb:PySem.W.keepIn K (.ref SO)=true)
 (XM:PySem.W.nsIn K mainGlobals "figures"=some (some (.ref Sg))) (Xw:K.lookup Sg=some ⟨adZ,Up,.func (PySem.W.fnOf "figures" "figures" (aB iq) (ax iq) (ai iq) .none XI YI adB aew Qe aei),Uo⟩) (c34:PySem.W.codeIn K Qe "figures"=true) (k34:PySem.W.keepIn K (.ref Sg)=true)
 (Ye:PySem.W.nsIn K mainGlobals "judge"=some (some (.ref Si))) (Yw:K.lookup Si=some ⟨Wo,X5,.func (PySem.W.fnOf "judge" "judge" (aB ni) (ax ni) (ai ni) .none acr abw XS abV Pm Xi),ad7⟩) (Wk:PySem.W.codeIn K Pm "judge"=true) (X0:PySem.W.keepIn K (.ref Si)=true)
 (ZM:PySem.W.nsIn K mainGlobals "_law_at"=some (some (.ref TQ))) (l36:K.lookup TQ=some ⟨ab5,aby,.func (PySem.W.fnOf "_law_at" "_law_at" (aB ie) (ax ie) (ai ie) .none ZZ UJ acB V7 R8 ad1),abd⟩) (c36:PySem.W.codeIn K R8 "_law_at"=true) (WT:PySem.W.keepIn K (.ref TQ)=true)
 (VU:PySem.W.nsIn K mainGlobals "_law_names"=some (some (.ref SQ))) (l37:K.lookup SQ=some ⟨acT,ZA,.func (PySem.W.fnOf "_law_names" "_law_names" (aB eF) (ax eF) (ai eF) .none adt Vq Yn T6 Pe abS),UK⟩) (Z2:PySem.W.codeIn K Pe "_law_names"=true) (ZW:PySem.W.keepIn K (.ref SQ)=true)
 (UE:PySem.W.nsIn K mainGlobals "_law_many"=some (some (.ref TR))) (l38:K.lookup TR=some ⟨aaQ,XT,.func (PySem.W.fnOf "_law_many" "_law_many" (aB fo) (ax fo) (ai fo) .none WR adg abF ad9 RO V9),WJ⟩) (c38:PySem.W.codeIn K RO "_law_many"=true) (Z0:PySem.W.keepIn K (.ref TR)=true)
 (Vf:PySem.W.nsIn K mainGlobals "_law_second"=some (some (.ref Tc))) (WN:K.lookup Tc=some ⟨Za,ZK,.func (PySem.W.fnOf "_law_second" "_law_second" (aB dj) (ax dj) (ai dj) .none WY YJ aca abA Q4 aaK),Wy⟩) (c39:PySem.W.codeIn K Q4 "_law_second"=true) (U0:PySem.W.keepIn K (.ref Tc)=true)
 (Xd:PySem.W.nsIn K mainGlobals "_law_tree"=some (some (.ref SX))) (ZT:K.lookup SX=some ⟨acg,acd,.func (PySem.W.fnOf "_law_tree" "_law_tree" (aB fv) (ax fv) (ai fv) .none Ue WS Ud abZ QJ Xl),Wv⟩) (Xe:PySem.W.codeIn K QJ "_law_tree"=true) (Xj:PySem.W.keepIn K (.ref SX)=true)
 (Xa:PySem.W.nsIn K mainGlobals "_law_ranks"=some (some (.ref Sk))) (l41:K.lookup Sk=some ⟨UM,abB,.func (PySem.W.fnOf "_law_ranks" "_law_ranks" (aB eI) (ax eI) (ai eI) .none abv Vy Ww aap RH Zh),VG⟩) (c41:PySem.W.codeIn K RH "_law_ranks"=true) (Wb:PySem.W.keepIn K (.ref Sk)=true)
 (a42:PySem.W.nsIn K mainGlobals "_law_deed"=some (some (.ref Tx))) (Uv:K.lookup Tx=some ⟨Wt,YW,.func (PySem.W.fnOf "_law_deed" "_law_deed" (aB fw) (ax fw) (ai fw) .none aej acp Z7 YQ P8 Yg),Uy⟩) (c42:PySem.W.codeIn K P8 "_law_deed"=true) (YN:PySem.W.keepIn K (.ref Tx)=true)
 (a43:PySem.W.nsIn K mainGlobals "_law_knots"=some (some (.ref SM))) (l43:K.lookup SM=some ⟨aaP,aev,.func (PySem.W.fnOf "_law_knots" "_law_knots" (aB eM) (ax eM) (ai eM) .none VY acY UD Wh Rv Yo),ZP⟩) (Ve:PySem.W.codeIn K Rv "_law_knots"=true) (WW:PySem.W.keepIn K (.ref SM)=true)
 (ZN:PySem.W.nsIn K mainGlobals "_law_marked"=some (some (.ref SU))) (Zw:K.lookup SU=some ⟨Yu,T5,.func (PySem.W.fnOf "_law_marked" "_law_marked" (aB dB) (ax dB) (ai dB) .none Vm Uw W9 ad0 Sd Wj),acw⟩) (Yy:PySem.W.codeIn K Sd "_law_marked"=true) (Vl:PySem.W.keepIn K (.ref SU)=true)
 (a45:PySem.W.nsIn K mainGlobals "_law_wasted"=some (some (.ref Tv))) (Z5:K.lookup Tv=some ⟨abC,aav,.func (PySem.W.fnOf "_law_wasted" "_law_wasted" (aB dn) (ax dn) (ai dn) .none aaM adY Ui Vd Qg ZF),adj⟩) (VZ:PySem.W.codeIn K Qg "_law_wasted"=true) (UC:PySem.W.keepIn K (.ref Tv)=true)
 (Yq:PySem.W.nsIn K mainGlobals "_law_row"=some (some (.ref TZ))) (Zn:K.lookup TZ=some ⟨abz,adw,.func (PySem.W.fnOf "_law_row" "_law_row" (aB fX) (ax fX) (ai fX) .none aae abl VX abR Rm Zg),T8⟩) (c46:PySem.W.codeIn K Rm "_law_row"=true) (Y0:PySem.W.keepIn K (.ref TZ)=true)
 (a47:PySem.W.nsIn K mainGlobals "_law_drawn"=some (some (.ref To))) (XX:K.lookup To=some ⟨aaX,Zt,.func (PySem.W.fnOf "_law_drawn" "_law_drawn" (aB eg) (ax eg) (ai eg) .none aaW UI Zd Vn Rj U3),Yh⟩) (VT:PySem.W.codeIn K Rj "_law_drawn"=true) (k47:PySem.W.keepIn K (.ref To)=true)
 (VI:PySem.W.nsIn K mainGlobals "_law_text"=some (some (.ref Ss))) (l48:K.lookup Ss=some ⟨ab3,ace,.func (PySem.W.fnOf "_law_text" "_law_text" (aB fy) (ax fy) (ai fy) .none aer Y9 aaj adl Px ac2),WG⟩) (c48:PySem.W.codeIn K Px "_law_text"=true) (k48:PySem.W.keepIn K (.ref Ss)=true)
 (a49:PySem.W.nsIn K mainGlobals "law"=some (some (.ref QY))) (X8:K.lookup QY=some ⟨XC,adX,.func (PySem.W.fnOf "law" "law" (aB wg) (ax wg) (ai wg) .none UT ads UW Zr Rh WL),Zk⟩) (Zq:PySem.W.codeIn K Rh "law"=true) (W8:PySem.W.keepIn K (.ref QY)=true)
 (v0:PySem.W.nsIn K mainGlobals "BOXES_TOLD"=some (some (.int 10000 tk0)))
 (v1:PySem.W.nsIn K mainGlobals "LONGEST_NAME"=some (some (.int 8 tk1)))
 (v2:PySem.W.nsIn K mainGlobals "MOST_DEEP"=some (some (.int 24 tk2)))
 (v3:PySem.W.nsIn K mainGlobals "MOST_FIGURES"=some (some (.int 4 tk3)))
 (v4:PySem.W.nsIn K mainGlobals "MOST_LEAVES"=some (some (.int 32 tk4)))
 (v5:PySem.W.nsIn K mainGlobals "SHELF_PLACES"=some (some (.int 100 tk5)))
 (z0:PySem.W.nsIn K mainGlobals "all"=some none)
 (z1:PySem.W.nsIn K mainGlobals "any"=some none)
 (z2:PySem.W.nsIn K mainGlobals "int"=some none)
 (z3:PySem.W.nsIn K mainGlobals "isinstance"=some none)
 (z4:PySem.W.nsIn K mainGlobals "len"=some none)
 (z5:PySem.W.nsIn K mainGlobals "list"=some none)
 (z6:PySem.W.nsIn K mainGlobals "max"=some none)
 (z7:PySem.W.nsIn K mainGlobals "min"=some none)
 (z8:PySem.W.nsIn K mainGlobals "range"=some none)
 (z9:PySem.W.nsIn K mainGlobals "str"=some none)
 (VB:PySem.W.nsIn K mainGlobals "tuple"=some none)
 (Ym:PySem.W.nsIn K mainGlobals "zip"=some none)
 (qk:PySem.W.nsIn K mainGlobals "TooFew"=some (some (.ref iw)))
 (q8:PySem.W.excIn K iw Pg "ValueError.__new__"=true) {pA WE MI ZY ZD:Addr}{Sm Sh SR TJ:Int}{pq1 pq2 pq3 pq4:Tok}{pe pn1 pn2 pn3 pn4:Nat}{po1 po2 po3 po4:Option Addr}{ps1 ps2 ps3 ps4:Array (Option Value)}{pr0 BM A9 LD Ly Fl K3 Jk pr8 pr9:Tok} (pa:PySem.W.nsIn K mainGlobals "PARTS"=some (some (.ref pA))) (pd:K.lookup pA=some {cls:=.type "dict",dict:=none,data:=.dict #[⟨Sm,.str (Str.ofString "take") pq1,.ref WE⟩,⟨Sh,.str (Str.ofString "join") pq2,.ref MI⟩,⟨SR,.str (Str.ofString "put") pq3,.ref ZY⟩,⟨TJ,.str (Str.ofString "fetch") pq4,.ref ZD⟩] pe,slots:=#[]}) (pk1:K.lookup WE=some ⟨.type "tuple",po1,.seq #[.str (Str.ofString "name") pr0,.str (Str.ofString "number") BM] pn1,ps1⟩) (UX:K.lookup MI=some ⟨.type "tuple",po2,.seq #[.str (Str.ofString "name") A9,.str (Str.ofString "number") LD,.str (Str.ofString "number") Ly,.str (Str.ofString "number") Fl] pn2,ps2⟩) (Xm:K.lookup ZY=some ⟨.type "tuple",po3,.seq #[.str (Str.ofString "number") K3,.str (Str.ofString "number") Jk] pn3,ps3⟩) (Xp:K.lookup ZD=some ⟨.type "tuple",po4,.seq #[.str (Str.ofString "number") pr8,.str (Str.ofString "number") pr9] pn4,ps4⟩) (ack:Sm=hashStr w (Str.ofString "take")) (YY:Sh=hashStr w (Str.ofString "join")) (XZ:SR=hashStr w (Str.ofString "put")) (aa0:TJ=hashStr w (Str.ofString "fetch")) (pz:(pA==sysModules)=false) (hfa:mg "law"=some (.ref fa)) :
 ∃fd:FuncData,(∀(s:Shared) (v:Value),BindsTo s fd ⟨[v],[]⟩ [("script",v)])∧∀base:Heap,K.In base→base.Ns mainGlobals mg→bz l.prog w K mg base (CXE l.prog w) 60 fa fd ["script"] (DY K):=by
 obtain⟨T,e,b⟩:∃T:Txt K mg,T.DT=QY∧(∀(s:Shared) (v:Value),BindsTo s T.zL ⟨[v],[]⟩ [("script",v)]):=by
  have F0:=aT (st:=du) l0 c0 k0
  have b0:=F0.cM (ps:=["deed"]) rfl fun _ _ _ _ _ _ _=>rfl
  have F1:=aT (st:=cq) l1 c1 k1
  have b1:=F1.cM (ps:=["deed"]) rfl fun _ _ _ _ _ _ _=>rfl
  have F2:=aT (st:=cn) l2 c2 k2
  have b2:=F2.mf (ps:=["deed","asked","there"]) rfl fun _ _ _ _ _ _ _ _ _=>rfl
  have F3:=aT (st:=eJ) l3 c3 k3
  have b3:=F3.fg (ps:=["deed","state"]) rfl fun _ _ _ _ _ _ _ _=>rfl
  have F4:=aT (st:=di) l4 c4 k4
  have b4:=F4.fg (ps:=["deed","state"]) rfl fun _ _ _ _ _ _ _ _=>rfl
  have F5:=aT (st:=cO) l5 c5 k5
  have b5:=F5.mf (ps:=["deed","state","value"]) rfl fun _ _ _ _ _ _ _ _ _=>rfl
  have F6:=aT (st:=ic) l6 c6 k6
  have b6:=F6.cM (ps:=["text"]) rfl fun _ _ _ _ _ _ _=>rfl
  have F7:=aT (st:=ib) l7 c7 k7
  have b7:=F7.cM (ps:=["tree"]) rfl fun _ _ _ _ _ _ _=>rfl
  have F8:=aT (st:=jM) l8 c8 k8
  have b8:=F8.cM (ps:=["tree"]) rfl fun _ _ _ _ _ _ _=>rfl
  have F9:=aT (st:=jK) l9 c9 k9
  have b9:=F9.cM (ps:=["tree"]) rfl fun _ _ _ _ _ _ _=>rfl
  have F10:=aT (st:=h9) l10 Vh Wm
  have b10:=F10.fg (ps:=["tree","place"]) rfl fun _ _ _ _ _ _ _ _=>rfl
  have F11:=aT (st:=fU) Zc Ul Yp
  have b11:=F11.fg (ps:=["tree","x"]) rfl fun _ _ _ _ _ _ _ _=>rfl
  have F12:=aT (st:=dm) l12 Zp Uu
  have b12:=F12.fg (ps:=["tree","bound"]) rfl fun _ _ _ _ _ _ _ _=>rfl
  have F13:=aT (st:=eE) Xn YC k13
  have b13:=F13.cM (ps:=["tree"]) rfl fun _ _ _ _ _ _ _=>rfl
  have F14:=aT (st:=dA) ZG c14 k14
  have b14:=F14.cM (ps:=["tree"]) rfl fun _ _ _ _ _ _ _=>rfl
  have F15:=aT (st:=ij) l15 c15 k15
  have b15:=F15.cM (ps:=["tree"]) rfl fun _ _ _ _ _ _ _=>rfl
  have F16:=aT (st:=s_fresh) l16 Z1 XR
  have b16:=F16.fg (ps:=["k","many"]) rfl fun _ _ _ _ _ _ _ _=>rfl
  have F17:=aT (st:=fm) l17 VM WX
  have b17:=F17.qv (ps:=["tree","f","left","right"]) rfl fun _ _ _ _ _ _ _ _ _ _=>rfl
  have F18:=aT (st:=cI) Xh c18 k18
  have b18:=F18.mf (ps:=["tree","deed","state"]) rfl fun _ _ _ _ _ _ _ _ _=>rfl
  have F19:=aT (st:=jO) XE c19 WH
  have b19:=F19.mf (ps:=["tree","deed","state"]) rfl fun _ _ _ _ _ _ _ _ _=>rfl
  have F20:=aT (st:=ip) l20 c20 Uz
  have b20:=F20.qv (ps:=["tree","k","many","row"]) rfl fun _ _ _ _ _ _ _ _ _ _=>rfl
  have F21:=aT (st:=cK) Uj Vc Zs
  have b21:=F21.cM (ps:=["state"]) rfl fun _ _ _ _ _ _ _=>rfl
  have F22:=aT (st:=qX) Vz c22 k22
  have b22:=F22.cM (ps:=["tree"]) rfl fun _ _ _ _ _ _ _=>rfl
  have F23:=aT (st:=qU) Z4 LI Xq
  have b23:=F23.fg (ps:=["tree","k"]) rfl fun _ _ _ _ _ _ _ _=>rfl
  have F24:=aT (st:=fZ) YS c24 k24
  have b24:=F24.fg (ps:=["tree","k"]) rfl fun _ _ _ _ _ _ _ _=>rfl
  have F25:=aT (st:=nc) YD Vv Wa
  have b25:=F25.fg (ps:=["tree","k"]) rfl fun _ _ _ _ _ _ _ _=>rfl
  have F26:=aT (st:=fk) U6 c26 UN
  have b26:=F26.cM (ps:=["word"]) rfl fun _ _ _ _ _ _ _=>rfl
  have F27:=aT (st:=fz) l27 c27 XQ
  have b27:=F27.fg (ps:=["kind","word"]) rfl fun _ _ _ _ _ _ _ _=>rfl
  have F28:=aT (st:=fh) l28 VC VD
  have b28:=F28.cM (ps:=["text"]) rfl fun _ _ _ _ _ _ _=>rfl
  have F29:=aT (st:=fV) Zm Wf VE
  have b29:=F29.cM (ps:=["text"]) rfl fun _ _ _ _ _ _ _=>rfl
  have F30:=aT (st:=gg) Ur c30 VN
  have b30:=F30.fg (ps:=["text","start"]) rfl fun _ _ _ _ _ _ _ _=>rfl
  have F31:=aT (st:=qY) l31 Yl k31
  have b31:=F31.mf (ps:=["text","at","sign"]) rfl fun _ _ _ _ _ _ _ _ _=>rfl
  have F32:=aT (st:=ft) Vx V8 k32
  have b32:=F32.mf (ps:=["text","start","level"]) rfl fun _ _ _ _ _ _ _ _ _=>rfl
  have F33:=aT (st:=qh) YM c33 Vb
  have b33:=F33.cM (ps:=["text"]) rfl fun _ _ _ _ _ _ _=>rfl
  have F34:=aT (st:=iq) Xw c34 k34
  have b34:=F34.cM (ps:=["row"]) rfl fun _ _ _ _ _ _ _=>rfl
  have F35:=aT (st:=ni) Yw Wk X0
  have b35:=F35.mf (ps:=["text","k","rowtext"]) rfl fun _ _ _ _ _ _ _ _ _=>rfl
  have F36:=aT (st:=ie) l36 c36 WT
  have b36:=F36.fg (ps:=["script","k"]) rfl fun _ _ _ _ _ _ _ _=>rfl
  have F37:=aT (st:=eF) l37 Z2 ZW
  have b37:=F37.fg (ps:=["cell","many"]) rfl fun _ _ _ _ _ _ _ _=>rfl
  have F38:=aT (st:=fo) l38 c38 Z0
  have b38:=F38.cM (ps:=["script"]) rfl fun _ _ _ _ _ _ _=>rfl
  have F39:=aT (st:=dj) WN c39 U0
  have b39:=F39.cM (ps:=["script"]) rfl fun _ _ _ _ _ _ _=>rfl
  have F40:=aT (st:=fv) ZT Xe Xj
  have b40:=F40.mf (ps:=["script","at","many"]) rfl fun _ _ _ _ _ _ _ _ _=>rfl
  have F41:=aT (st:=eI) l41 c41 Wb
  have b41:=F41.fg (ps:=["tree","place"]) rfl fun _ _ _ _ _ _ _ _=>rfl
  have F42:=aT (st:=fw) Uv c42 YN
  have b42:=F42.MM (ps:=["script","n","names","deeds","k","many"]) rfl fun _ _ _ _ _ _ _ _ _ _ _ _=>rfl
  have F43:=aT (st:=eM) l43 Ve WW
  have b43:=F43.fg (ps:=["tree","place"]) rfl fun _ _ _ _ _ _ _ _=>rfl
  have F44:=aT (st:=dB) Zw Yy Vl
  have b44:=F44.qv (ps:=["parts","deed","boxes","shelf"]) rfl fun _ _ _ _ _ _ _ _ _ _=>rfl
  have F45:=aT (st:=dn) Z5 VZ UC
  have b45:=F45.qv (ps:=["script","pot","tree","free"]) rfl fun _ _ _ _ _ _ _ _ _ _=>rfl
  have F46:=aT (st:=fX) Zn c46 Y0
  have b46:=F46.qv (ps:=["script","at","tree","k"]) rfl fun _ _ _ _ _ _ _ _ _ _=>rfl
  have F47:=aT (st:=eg) XX VT k47
  have b47:=F47.qv (ps:=["script","tree","size","k"]) rfl fun _ _ _ _ _ _ _ _ _ _=>rfl
  have F48:=aT (st:=fy) l48 c48 k48
  have b48:=F48.cM (ps:=["tree"]) rfl fun _ _ _ _ _ _ _=>rfl
  have F49:=aT (st:=wg) X8 Zq W8
  have b49:=F49.cM (ps:=["script"]) rfl fun _ _ _ _ _ _ _=>rfl
  exact⟨⟨f0,_,F0,PySem.W.mg_of X G a0,b0,f1,_,F1,PySem.W.mg_of X G a1,b1,f2,_,F2,PySem.W.mg_of X G a2,b2,f3,_,F3,PySem.W.mg_of X G a3,b3,f4,_,F4,PySem.W.mg_of X G a4,b4,f5,_,F5,PySem.W.mg_of X G a5,b5,f6,_,F6,PySem.W.mg_of X G a6,b6,f7,_,F7,PySem.W.mg_of X G a7,b7,f8,_,F8,PySem.W.mg_of X G a8,b8,f9,_,F9,PySem.W.mg_of X G a9,b9,SV,_,F10,PySem.W.mg_of X G UA,b10,Ta,_,F11,PySem.W.mg_of X G XG,b11,TV,_,F12,PySem.W.mg_of X G YR,b12,SH,_,F13,PySem.W.mg_of X G a13,b13,TC,_,F14,PySem.W.mg_of X G WQ,b14,Sl,_,F15,PySem.W.mg_of X G a15,b15,Tb,_,F16,PySem.W.mg_of X G a16,b16,Sn,_,F17,PySem.W.mg_of X G a17,b17,Te,_,F18,PySem.W.mg_of X G Zb,b18,Tt,_,F19,PySem.W.mg_of X G a19,b19,SK,_,F20,PySem.W.mg_of X G a20,b20,TX,_,F21,PySem.W.mg_of X G Zv,b21,SN,_,F22,PySem.W.mg_of X G VP,b22,Sr,_,F23,PySem.W.mg_of X G a23,b23,TN,_,F24,PySem.W.mg_of X G T7,b24,Td,_,F25,PySem.W.mg_of X G ZX,b25,Sz,_,F26,PySem.W.mg_of X G VL,b26,Tq,_,F27,PySem.W.mg_of X G WM,b27,TF,_,F28,PySem.W.mg_of X G a28,b28,Tu,_,F29,PySem.W.mg_of X G U7,b29,Tn,_,F30,PySem.W.mg_of X G XU,b30,T3,_,F31,PySem.W.mg_of X G Xk,b31,SE,_,F32,PySem.W.mg_of X G a32,b32,SO,_,F33,PySem.W.mg_of X G a33,b33,Sg,_,F34,PySem.W.mg_of X G XM,b34,Si,_,F35,PySem.W.mg_of X G Ye,b35,TQ,_,F36,PySem.W.mg_of X G ZM,b36,SQ,_,F37,PySem.W.mg_of X G VU,b37,TR,_,F38,PySem.W.mg_of X G UE,b38,Tc,_,F39,PySem.W.mg_of X G Vf,b39,SX,_,F40,PySem.W.mg_of X G Xd,b40,Sk,_,F41,PySem.W.mg_of X G Xa,b41,Tx,_,F42,PySem.W.mg_of X G a42,b42,SM,_,F43,PySem.W.mg_of X G a43,b43,SU,_,F44,PySem.W.mg_of X G ZN,b44,Tv,_,F45,PySem.W.mg_of X G a45,b45,TZ,_,F46,PySem.W.mg_of X G Yq,b46,To,_,F47,PySem.W.mg_of X G a47,b47,Ss,_,F48,PySem.W.mg_of X G VI,b48,QY,_,F49,PySem.W.mg_of X G a49,b49,PySem.W.mg_none_of X G z0,PySem.W.mg_none_of X G z1,PySem.W.mg_none_of X G z2,PySem.W.mg_none_of X G z3,PySem.W.mg_none_of X G z4,PySem.W.mg_none_of X G z5,PySem.W.mg_none_of X G z6,PySem.W.mg_none_of X G z7,PySem.W.mg_none_of X G z8,PySem.W.mg_none_of X G z9,PySem.W.mg_none_of X G VB,PySem.W.mg_none_of X G Ym,tk0,PySem.W.mg_of X G v0,tk1,PySem.W.mg_of X G v1,tk2,PySem.W.mg_of X G v2,tk3,PySem.W.mg_of X G v3,tk4,PySem.W.mg_of X G v4,tk5,PySem.W.mg_of X G v5,iw,PySem.W.mg_of X G qk,q8⟩,rfl,fun s v=>.of_eq rfl⟩
 have e2:=hfa.symm.trans T.QV
 cases e2
 exact⟨T.zL,b,fun base _ _=>M9 T ⟨pA,WE,MI,ZY,ZD,PySem.W.mg_of X G pa,kd4 pz pd ack YY XZ aa0 (by decide +kernel),kt2 pk1,kt4 UX,kt2 Xm,kt2 Xp⟩⟩
theorem walk {l:PySem.W.OpenLaw}{q:Program}{loose:List Str}{XP:(Str→Option Value)→Heap→Prop}{YP:World→Heap→Prop}{d:DefRec}{K:Params→PySem.W.Frag} (hn:l.most=some 63) (Q0:d.params.defaults=[])
 (hY:∀(w:World) (h:Heap),YP w h→(K w.params).In h)
 (F:∀(w:World) (mg:Str→Option Value) (fa:Addr) (h:Heap),(K w.params).In h→h.Ns mainGlobals mg→mg d.name=some (.ref fa)→
   ∃fd:FuncData,(∀(s:Shared) (u:Value),BindsTo s fd ⟨[u],[]⟩ [("script",u)])∧∀base:Heap,(K w.params).In base→base.Ns mainGlobals mg→bz l.prog w (K w.params) mg base (CXE l.prog w) 60 fa fd ["script"] (DY (K w.params))) :
 PySem.W.WalkO q loose XP YP l.row.toRowW d [] (fun f vs=>PySem.call f vs):=
 L2.Jj (n:=63) (k:=60) (x:="script") (CX:=fun w=>(CXE l.prog w)) (sp:=fun w=>DY (K w.params)) hn (by decide) Q0 ⟨rfl,by decide,by decide,rfl⟩ hY F (fun _ _ a ns hl _ hS=>⟨a,ns,rfl,hS,hl,fun _=>rfl⟩) fun _ _ _ _ _ z=>by obtain⟨_,_,_,_,_,_,_,_,_,_,_,z⟩:=z;exact z
noncomputable def hE (P:Params) (s:Str) (t:Nat) (v:Value):DictEntry:=⟨PyData.keyHash P s,.str s t,v⟩
noncomputable def hD (n:Nat) (l:List DictEntry):Obj:=⟨.type "dict",none,.dict l.toArray n,#[]⟩
noncomputable def hF (n:Str) (i:Nat) (m c:Value):Obj:=⟨.type "function",none,.func (PySem.W.fnOf n n (aB (top i)) (ax (top i)) (ai (top i)) .none .none .none m none c .none),#[]⟩
noncomputable def hC (n:Str) (k:Nat) (l a f:Int) (r:Addr) (b:Bool) (g:Int) (u:Addr) (x y z:Value) (h:Nat):Obj:=⟨.type "code",none,.fields #[.str n k,.str n (k+1),.str "/claim/cut.py" (k+2),.int l 0,.int a 0,.int 0 0,.int 0 0,.int f 0,.ref r,.bool b,.int g 0,.ref u,.none,x,y,z,.int h 0,.int l 0,.str "/claim/cut.py" (h+1)],#[]⟩
noncomputable def hK:Params→PySem.W.Frag:=fun P=>(nat_lit 3,hD 73 (hE P "__name__" 165 (.str "law_fewboxes_k63_rows_judged" 644)::hE P "__doc__" 166 .none::hE P "__package__" 167 .none::hE P "__loader__" 168 (.builtin "__main__.__loader__#opaque")::hE P "__spec__" 169 .none::hE P "__annotations__" 170 (.ref 6)::hE P "__builtins__" 171 (.ref 4)::hE P "__file__" 173 (.str "/claim/cut.py" 172)::hE P "__cached__" 174 .none::hE P "FewError" 206 (.ref 24)::hE P "NoName" 222 (.ref 37)::hE P "Twice" 238 (.ref 49)::hE P "TooBig" 254 (.ref 61)::hE P "NoText" 270 (.ref 73)::hE P "TooFew" 286 (.ref 85)::hE P "NoDeed" 302 (.ref 97)::hE P "box_numbers" 311 (.ref 106)::hE P "shelf_numbers" 318 (.ref 113)::hE P "check_numbers" 328 (.ref 120)::hE P "check_deed" 336 (.ref 127)::hE P "moved_value" 344 (.ref 134)::hE P "state_behind" 355 (.ref 141)::hE P "LONGEST_NAME" 359 (.int 8 358)::hE P "MOST_LEAVES" 361 (.int 32 360)::hE P "MOST_DEEP" 363 (.int 24 362)::hE P "is_name" 369 (.ref 146)::hE P "is_leaf" 376 (.ref 153)::hE P "places" 382 (.ref 158)::hE P "leaves" 388 (.ref 163)::hE P "part_at" 398 (.ref 170)::hE P "place_of" 407 (.ref 177)::hE P "deeper_than" 415 (.ref 184)::hE P "check_size" 422 (.ref 191)::hE P "check_names" 433 (.ref 198)::hE P "formula" 440 (.ref 205)::hE P "fresh" 450 (.ref 212)::hE P "knot_over" 461 (.ref 219)::hE P "mark_brought" 470 (.ref 226)::hE P "marked" 479 (.ref 233)::hE P "moments" 491 (.ref 240)::hE P "formula_held" 498 (.ref 247)::hE P "rank" 509 (.ref 254)::hE P "puts" 517 (.ref 261)::hE P "must_put" 523 (.ref 266)::hE P "least" 534 (.ref 273)::hE P "MOST_FIGURES" 538 (.int 4 537)::hE P "PARTS" 557 (.ref 274)::hE P "is_number" 563 (.ref 283)::hE P "read_part" 571 (.ref 290)::hE P "read_deed" 577 (.ref 295)::hE P "read_row" 583 (.ref 300)::hE P "name_end" 594 (.ref 307)::hE P "past" 603 (.ref 314)::hE P "tree_from" 616 (.ref 321)::hE P "read" 625 (.ref 328)::hE P "SHELF_PLACES" 629 (.int 100 628)::hE P "BOXES_TOLD" 631 (.int 10000 630)::hE P "figures" 637 (.ref 333)::hE P "judge" 643 (.ref 338)::hE P "_law_at" 654 (.ref 345)::hE P "_law_names" 667 (.ref 352)::hE P "_law_many" 675 (.ref 359)::hE P "_law_second" 682 (.ref 366)::hE P "_law_tree" 688 (.ref 371)::hE P "_law_ranks" 699 (.ref 378)::hE P "_law_deed" 713 (.ref 385)::hE P "_law_knots" 721 (.ref 392)::hE P "_law_marked" 736 (.ref 399)::hE P "_law_wasted" 752 (.ref 406)::hE P "_law_row" 758 (.ref 411)::hE P "_law_drawn" 764 (.ref 416)::hE P "_law_text" 771 (.ref 423)::hE P "law" 777 (.ref 428)::[])) ::
 (nat_lit 6,hD 0 ([])) ::
 (nat_lit 24,⟨(.type "type"),none,.cls ⟨"FewError",[(.type "ValueError")],[(.ref 24),(.type "ValueError"),(.type "Exception"),(.type "BaseException"),(.type "object")],23,"FewError",true,[],[(.ref 37),(.ref 49),(.ref 61),(.ref 73),(.ref 85),(.ref 97)],false,none,false⟩,#[some (.ref 15),none,some (.str "FewError" 189),some (.str "FewError" 197),some (.builtin "ValueError.__new__"),some (.bool true)]⟩) ::
 (nat_lit 23,hD 3 (hE P "__module__" 196 (.str "fewboxes.errors" 187)::hE P "__firstlineno__" 200 (.int 2 199)::hE P "__static_attributes__" 201 (.ref 22)::hE P "__weakref__" 203 (.ref 25)::hE P "__doc__" 204 .none::[])) ::
 (nat_lit 37,⟨(.type "type"),none,.cls ⟨"NoName",[(.ref 24)],[(.ref 37),(.ref 24),(.type "ValueError"),(.type "Exception"),(.type "BaseException"),(.type "object")],36,"NoName",true,[],[],false,none,false⟩,#[some (.ref 28),none,some (.str "NoName" 207),some (.str "NoName" 215),some (.builtin "ValueError.__new__"),some (.bool true)]⟩) ::
 (nat_lit 36,hD 2 (hE P "__module__" 214 (.str "fewboxes.errors" 187)::hE P "__firstlineno__" 218 (.int 4 217)::hE P "__static_attributes__" 219 (.ref 35)::hE P "__doc__" 220 .none::[])) ::
 (nat_lit 49,⟨(.type "type"),none,.cls ⟨"Twice",[(.ref 24)],[(.ref 49),(.ref 24),(.type "ValueError"),(.type "Exception"),(.type "BaseException"),(.type "object")],48,"Twice",true,[],[],false,none,false⟩,#[some (.ref 40),none,some (.str "Twice" 223),some (.str "Twice" 231),some (.builtin "ValueError.__new__"),some (.bool true)]⟩) ::
 (nat_lit 48,hD 2 (hE P "__module__" 230 (.str "fewboxes.errors" 187)::hE P "__firstlineno__" 234 (.int 6 233)::hE P "__static_attributes__" 235 (.ref 47)::hE P "__doc__" 236 .none::[])) ::
 (nat_lit 61,⟨(.type "type"),none,.cls ⟨"TooBig",[(.ref 24)],[(.ref 61),(.ref 24),(.type "ValueError"),(.type "Exception"),(.type "BaseException"),(.type "object")],60,"TooBig",true,[],[],false,none,false⟩,#[some (.ref 52),none,some (.str "TooBig" 239),some (.str "TooBig" 247),some (.builtin "ValueError.__new__"),some (.bool true)]⟩) ::
 (nat_lit 60,hD 2 (hE P "__module__" 246 (.str "fewboxes.errors" 187)::hE P "__firstlineno__" 250 (.int 8 249)::hE P "__static_attributes__" 251 (.ref 59)::hE P "__doc__" 252 .none::[])) ::
 (nat_lit 73,⟨(.type "type"),none,.cls ⟨"NoText",[(.ref 24)],[(.ref 73),(.ref 24),(.type "ValueError"),(.type "Exception"),(.type "BaseException"),(.type "object")],72,"NoText",true,[],[],false,none,false⟩,#[some (.ref 64),none,some (.str "NoText" 255),some (.str "NoText" 263),some (.builtin "ValueError.__new__"),some (.bool true)]⟩) ::
 (nat_lit 72,hD 2 (hE P "__module__" 262 (.str "fewboxes.errors" 187)::hE P "__firstlineno__" 266 (.int 10 265)::hE P "__static_attributes__" 267 (.ref 71)::hE P "__doc__" 268 .none::[])) ::
 (nat_lit 85,⟨(.type "type"),none,.cls ⟨"TooFew",[(.ref 24)],[(.ref 85),(.ref 24),(.type "ValueError"),(.type "Exception"),(.type "BaseException"),(.type "object")],84,"TooFew",true,[],[],false,none,false⟩,#[some (.ref 76),none,some (.str "TooFew" 271),some (.str "TooFew" 279),some (.builtin "ValueError.__new__"),some (.bool true)]⟩) ::
 (nat_lit 84,hD 2 (hE P "__module__" 278 (.str "fewboxes.errors" 187)::hE P "__firstlineno__" 282 (.int 12 281)::hE P "__static_attributes__" 283 (.ref 83)::hE P "__doc__" 284 .none::[])) ::
 (nat_lit 97,⟨(.type "type"),none,.cls ⟨"NoDeed",[(.ref 24)],[(.ref 97),(.ref 24),(.type "ValueError"),(.type "Exception"),(.type "BaseException"),(.type "object")],96,"NoDeed",true,[],[],false,none,false⟩,#[some (.ref 88),none,some (.str "NoDeed" 287),some (.str "NoDeed" 295),some (.builtin "ValueError.__new__"),some (.bool true)]⟩) ::
 (nat_lit 96,hD 2 (hE P "__module__" 294 (.str "fewboxes.errors" 187)::hE P "__firstlineno__" 298 (.int 14 297)::hE P "__static_attributes__" 299 (.ref 95)::hE P "__doc__" 300 .none::[])) ::
 (nat_lit 106,hF "box_numbers" 9 (.str "fewboxes.machine" 303) (.ref 105)) ::
 (nat_lit 105,hC "box_numbers" 305 17 1 3 100 true 181 101 (.ref 102) (.ref 103) (.ref 104) 309) ::
 (nat_lit 113,hF "shelf_numbers" 10 (.str "fewboxes.machine" 303) (.ref 112)) ::
 (nat_lit 112,hC "shelf_numbers" 312 23 1 3 107 true 181 108 (.ref 109) (.ref 110) (.ref 111) 316) ::
 (nat_lit 120,hF "check_numbers" 11 (.str "fewboxes.machine" 303) (.ref 119)) ::
 (nat_lit 119,hC "check_numbers" 319 29 3 3 114 true 181 115 (.ref 116) (.ref 117) (.ref 118) 326) ::
 (nat_lit 127,hF "check_deed" 12 (.str "fewboxes.machine" 303) (.ref 126)) ::
 (nat_lit 126,hC "check_deed" 329 33 2 3 121 true 181 122 (.ref 123) (.ref 124) (.ref 125) 334) ::
 (nat_lit 134,hF "moved_value" 13 (.str "fewboxes.machine" 303) (.ref 133)) ::
 (nat_lit 133,hC "moved_value" 337 36 2 3 128 true 181 129 (.ref 130) (.ref 131) (.ref 132) 342) ::
 (nat_lit 141,hF "state_behind" 14 (.str "fewboxes.machine" 303) (.ref 140)) ::
 (nat_lit 140,hC "state_behind" 345 40 3 3 135 true 181 136 (.ref 137) (.ref 138) (.ref 139) 353) ::
 (nat_lit 146,hF "is_name" 19 (.str "fewboxes.trees" 356) (.ref 145)) ::
 (nat_lit 145,hC "is_name" 364 52 1 3 142 true 181 143 .none .none (.ref 144) 367) ::
 (nat_lit 153,hF "is_leaf" 20 (.str "fewboxes.trees" 356) (.ref 152)) ::
 (nat_lit 152,hC "is_leaf" 370 54 1 3 147 true 181 148 (.ref 149) (.ref 150) (.ref 151) 374) ::
 (nat_lit 158,hF "places" 21 (.str "fewboxes.trees" 356) (.ref 157)) ::
 (nat_lit 157,hC "places" 377 56 1 3 154 true 181 155 .none .none (.ref 156) 380) ::
 (nat_lit 163,hF "leaves" 22 (.str "fewboxes.trees" 356) (.ref 162)) ::
 (nat_lit 162,hC "leaves" 383 63 1 3 159 true 181 160 .none .none (.ref 161) 386) ::
 (nat_lit 170,hF "part_at" 23 (.str "fewboxes.trees" 356) (.ref 169)) ::
 (nat_lit 169,hC "part_at" 389 65 2 3 164 true 181 165 (.ref 166) (.ref 167) (.ref 168) 396) ::
 (nat_lit 177,hF "place_of" 24 (.str "fewboxes.trees" 356) (.ref 176)) ::
 (nat_lit 176,hC "place_of" 399 70 2 3 171 true 181 172 (.ref 173) (.ref 174) (.ref 175) 405) ::
 (nat_lit 184,hF "deeper_than" 25 (.str "fewboxes.trees" 356) (.ref 183)) ::
 (nat_lit 183,hC "deeper_than" 408 75 2 3 178 true 181 179 (.ref 180) (.ref 181) (.ref 182) 413) ::
 (nat_lit 191,hF "check_size" 26 (.str "fewboxes.trees" 356) (.ref 190)) ::
 (nat_lit 190,hC "check_size" 416 81 1 3 185 true 181 186 (.ref 187) (.ref 188) (.ref 189) 420) ::
 (nat_lit 198,hF "check_names" 27 (.str "fewboxes.trees" 356) (.ref 197)) ::
 (nat_lit 197,hC "check_names" 423 86 1 3 192 true 181 193 (.ref 194) (.ref 195) (.ref 196) 431) ::
 (nat_lit 205,hF "formula" 28 (.str "fewboxes.trees" 356) (.ref 204)) ::
 (nat_lit 204,hC "formula" 434 97 1 3 199 true 181 200 (.ref 201) (.ref 202) (.ref 203) 438) ::
 (nat_lit 212,hF "fresh" 30 (.str "fewboxes.marks" 441) (.ref 211)) ::
 (nat_lit 211,hC "fresh" 443 102 2 3 206 true 181 207 (.ref 208) (.ref 209) (.ref 210) 448) ::
 (nat_lit 219,hF "knot_over" 31 (.str "fewboxes.marks" 441) (.ref 218)) ::
 (nat_lit 218,hC "knot_over" 451 104 4 3 213 true 181 214 (.ref 215) (.ref 216) (.ref 217) 459) ::
 (nat_lit 226,hF "mark_brought" 32 (.str "fewboxes.marks" 441) (.ref 225)) ::
 (nat_lit 225,hC "mark_brought" 462 111 3 3 220 true 181 221 (.ref 222) (.ref 223) (.ref 224) 468) ::
 (nat_lit 233,hF "marked" 33 (.str "fewboxes.marks" 441) (.ref 232)) ::
 (nat_lit 232,hC "marked" 471 117 3 3 227 true 181 228 (.ref 229) (.ref 230) (.ref 231) 477) ::
 (nat_lit 240,hF "moments" 34 (.str "fewboxes.marks" 441) (.ref 239)) ::
 (nat_lit 239,hC "moments" 480 120 4 3 234 true 181 235 (.ref 236) (.ref 237) (.ref 238) 489) ::
 (nat_lit 247,hF "formula_held" 35 (.str "fewboxes.marks" 441) (.ref 246)) ::
 (nat_lit 246,hC "formula_held" 492 125 1 3 241 true 181 242 (.ref 243) (.ref 244) (.ref 245) 496) ::
 (nat_lit 254,hF "rank" 37 (.str "fewboxes.ranks" 499) (.ref 253)) ::
 (nat_lit 253,hC "rank" 501 128 1 3 248 true 181 249 (.ref 250) (.ref 251) (.ref 252) 507) ::
 (nat_lit 261,hF "puts" 38 (.str "fewboxes.ranks" 499) (.ref 260)) ::
 (nat_lit 260,hC "puts" 510 136 2 3 255 true 181 256 (.ref 257) (.ref 258) (.ref 259) 515) ::
 (nat_lit 266,hF "must_put" 39 (.str "fewboxes.ranks" 499) (.ref 265)) ::
 (nat_lit 265,hC "must_put" 518 138 2 3 262 true 181 263 .none .none (.ref 264) 521) ::
 (nat_lit 273,hF "least" 40 (.str "fewboxes.ranks" 499) (.ref 272)) ::
 (nat_lit 272,hC "least" 524 140 2 3 267 true 181 268 (.ref 269) (.ref 270) (.ref 271) 532) ::
 (nat_lit 274,hD 4 (hE P "take" 539 (.ref 275)::hE P "join" 542 (.ref 276)::hE P "put" 547 (.ref 277)::hE P "fetch" 550 (.ref 278)::[])) ::
 (nat_lit 275,⟨(.type "tuple"),none,.seq #[(.str "name" 540),(.str "number" 541)] 0,#[]⟩) ::
 (nat_lit 276,⟨(.type "tuple"),none,.seq #[(.str "name" 543),(.str "number" 544),(.str "number" 545),(.str "number" 546)] 0,#[]⟩) ::
 (nat_lit 277,⟨(.type "tuple"),none,.seq #[(.str "number" 548),(.str "number" 549)] 0,#[]⟩) ::
 (nat_lit 278,⟨(.type "tuple"),none,.seq #[(.str "number" 551),(.str "number" 552)] 0,#[]⟩) ::
 (nat_lit 283,hF "is_number" 44 (.str "fewboxes.rowtexts" 535) (.ref 282)) ::
 (nat_lit 282,hC "is_number" 558 150 1 3 279 true 181 280 .none .none (.ref 281) 561) ::
 (nat_lit 290,hF "read_part" 45 (.str "fewboxes.rowtexts" 535) (.ref 289)) ::
 (nat_lit 289,hC "read_part" 564 154 2 3 284 true 181 285 (.ref 286) (.ref 287) (.ref 288) 569) ::
 (nat_lit 295,hF "read_deed" 46 (.str "fewboxes.rowtexts" 535) (.ref 294)) ::
 (nat_lit 294,hC "read_deed" 572 160 1 3 291 true 181 292 .none .none (.ref 293) 575) ::
 (nat_lit 300,hF "read_row" 47 (.str "fewboxes.rowtexts" 535) (.ref 299)) ::
 (nat_lit 299,hC "read_row" 578 168 1 3 296 true 181 297 .none .none (.ref 298) 581) ::
 (nat_lit 307,hF "name_end" 49 (.str "fewboxes.texts" 584) (.ref 306)) ::
 (nat_lit 306,hC "name_end" 586 173 2 3 301 true 181 302 (.ref 303) (.ref 304) (.ref 305) 592) ::
 (nat_lit 314,hF "past" 50 (.str "fewboxes.texts" 584) (.ref 313)) ::
 (nat_lit 313,hC "past" 595 178 3 3 308 true 181 309 (.ref 310) (.ref 311) (.ref 312) 601) ::
 (nat_lit 321,hF "tree_from" 51 (.str "fewboxes.texts" 584) (.ref 320)) ::
 (nat_lit 320,hC "tree_from" 604 182 3 3 315 true 181 316 (.ref 317) (.ref 318) (.ref 319) 614) ::
 (nat_lit 328,hF "read" 52 (.str "fewboxes.texts" 584) (.ref 327)) ::
 (nat_lit 327,hC "read" 617 192 1 3 322 true 181 323 (.ref 324) (.ref 325) (.ref 326) 623) ::
 (nat_lit 333,hF "figures" 56 (.str "fewboxes.desk" 626) (.ref 332)) ::
 (nat_lit 332,hC "figures" 632 203 1 3 329 true 181 330 .none .none (.ref 331) 635) ::
 (nat_lit 338,hF "judge" 57 (.str "fewboxes.desk" 626) (.ref 337)) ::
 (nat_lit 337,hC "judge" 638 206 3 3 334 true 181 335 .none .none (.ref 336) 641) ::
 (nat_lit 345,hF "_law_at" 59 (.str "law_fewboxes_k63_rows_judged" 644) (.ref 344)) ::
 (nat_lit 344,hC "_law_at" 646 219 2 3 339 true 181 340 (.ref 341) (.ref 342) (.ref 343) 652) ::
 (nat_lit 352,hF "_law_names" 60 (.str "law_fewboxes_k63_rows_judged" 644) (.ref 351)) ::
 (nat_lit 351,hC "_law_names" 655 227 2 3 346 true 181 347 (.ref 348) (.ref 349) (.ref 350) 665) ::
 (nat_lit 359,hF "_law_many" 61 (.str "law_fewboxes_k63_rows_judged" 644) (.ref 358)) ::
 (nat_lit 358,hC "_law_many" 668 240 1 3 353 true 181 354 (.ref 355) (.ref 356) (.ref 357) 673) ::
 (nat_lit 366,hF "_law_second" 62 (.str "law_fewboxes_k63_rows_judged" 644) (.ref 365)) ::
 (nat_lit 365,hC "_law_second" 676 243 1 3 360 true 181 361 (.ref 362) (.ref 363) (.ref 364) 680) ::
 (nat_lit 371,hF "_law_tree" 63 (.str "law_fewboxes_k63_rows_judged" 644) (.ref 370)) ::
 (nat_lit 370,hC "_law_tree" 683 247 3 3 367 true 181 368 .none .none (.ref 369) 686) ::
 (nat_lit 378,hF "_law_ranks" 64 (.str "law_fewboxes_k63_rows_judged" 644) (.ref 377)) ::
 (nat_lit 377,hC "_law_ranks" 689 262 2 3 372 true 181 373 (.ref 374) (.ref 375) (.ref 376) 697) ::
 (nat_lit 385,hF "_law_deed" 65 (.str "law_fewboxes_k63_rows_judged" 644) (.ref 384)) ::
 (nat_lit 384,hC "_law_deed" 700 269 6 3 379 true 181 380 (.ref 381) (.ref 382) (.ref 383) 711) ::
 (nat_lit 392,hF "_law_knots" 66 (.str "law_fewboxes_k63_rows_judged" 644) (.ref 391)) ::
 (nat_lit 391,hC "_law_knots" 714 280 2 3 386 true 181 387 (.ref 388) (.ref 389) (.ref 390) 719) ::
 (nat_lit 399,hF "_law_marked" 67 (.str "law_fewboxes_k63_rows_judged" 644) (.ref 398)) ::
 (nat_lit 398,hC "_law_marked" 722 284 4 3 393 true 181 394 (.ref 395) (.ref 396) (.ref 397) 734) ::
 (nat_lit 406,hF "_law_wasted" 68 (.str "law_fewboxes_k63_rows_judged" 644) (.ref 405)) ::
 (nat_lit 405,hC "_law_wasted" 737 304 4 3 400 true 181 401 (.ref 402) (.ref 403) (.ref 404) 750) ::
 (nat_lit 411,hF "_law_row" 69 (.str "law_fewboxes_k63_rows_judged" 644) (.ref 410)) ::
 (nat_lit 410,hC "_law_row" 753 329 4 3 407 true 181 408 .none .none (.ref 409) 756) ::
 (nat_lit 416,hF "_law_drawn" 70 (.str "law_fewboxes_k63_rows_judged" 644) (.ref 415)) ::
 (nat_lit 415,hC "_law_drawn" 759 333 4 3 412 true 181 413 .none .none (.ref 414) 762) ::
 (nat_lit 423,hF "_law_text" 71 (.str "law_fewboxes_k63_rows_judged" 644) (.ref 422)) ::
 (nat_lit 422,hC "_law_text" 765 338 1 3 417 true 181 418 (.ref 419) (.ref 420) (.ref 421) 769) ::
 (nat_lit 428,hF "law" 72 (.str "law_fewboxes_k63_rows_judged" 644) (.ref 427)) ::
 (nat_lit 427,hC "law" 772 342 1 3 424 true 181 425 .none .none (.ref 426) 775)::[]
noncomputable def hV:Program:={PySem.Challenge.pw_fewboxes_k63_rows_judged with main:={PySem.Challenge.pw_fewboxes_k63_rows_judged.main with body:=top 1::top 2::top 3::top 4::top 5::top 6::top 7::top 9::top 10::top 11::top 12::top 13::top 14::top 16::top 17::top 18::top 19::top 20::top 21::top 22::top 23::top 24::top 25::top 26::top 27::top 28::top 30::top 31::top 32::top 33::top 34::top 35::top 37::top 38::top 39::top 40::top 42::top 43::top 44::top 45::top 46::top 47::top 49::top 50::top 51::top 52::top 54::top 55::top 56::top 57::top 59::top 60::top 61::top 62::top 63::top 64::top 65::top 66::top 67::top 68::top 69::top 70::top 71::top 72::[]}}
noncomputable def hA:List Addr:=3::6::24::23::37::36::49::48::61::60::73::72::85::84::97::96::106::105::113::112::120::119::127::126::134::133::141::140::146::145::153::152::158::157::163::162::170::169::177::176::184::183::191::190::198::197::205::204::212::211::219::218::226::225::233::232::240::239::247::246::254::253::261::260::266::265::273::272::274::275::276::277::278::283::282::290::289::295::294::300::299::307::306::314::313::321::320::328::327::333::332::338::337::345::344::352::351::359::358::366::365::371::370::378::377::385::384::392::391::399::398::406::405::411::410::416::415::423::422::428::427::[]
noncomputable def hT (P:Params):PySem.W.BT:=([PySem.W.boot_o_0 P,PySem.W.boot_o_1 P,PySem.W.boot_o_2 P,PySem.W.boot_o_3 P,PySem.W.boot_o_4 P,PySem.W.boot_o_5 P,PySem.W.boot_o_6 P,PySem.W.boot_o_7 P,PySem.W.boot_o_8 P,PySem.W.boot_o_9 P,PySem.W.boot_o_10 P,⟨(.type "tuple"),none,.seq #[] 0,#[]⟩,⟨.none,none,.fields #[],#[]⟩,hC "<module>" 182 1 0 0 11 false 181 12 .none .none .none 185,⟨(.type "frame"),none,.plain,#[some (.ref 13),some (.ref 3),some (.ref 3),none,some (.str "__main__" 164),none,some (.ref 0)]⟩].foldl (fun (x:PySem.W.BT×Nat) o=>(x.1.ins x.2 o,x.2+1)) (.nil,0)).1
noncomputable def hS (w:World) (os:OsState):PySem.W.SharedT:=⟨hT w.params,15,{},Array.mk [],{},187,os⟩
noncomputable def hN:Env:={scope:=PySem.Challenge.pw_fewboxes_k63_rows_judged.main.scope,locals:=mainNs,globals:=mainNs,cells:=[],code:=(.ref 13),frame:=some 14}
noncomputable abbrev hb:List Stmt:=PySem.W.behindTheImports PySem.Challenge.pw_fewboxes_k63_rows_judged
theorem h1 (w:World) (os:OsState):PySem.W.topGo PySem.W.Fast.tw14364793385576792824 PySem.Challenge.pw_fewboxes_k63_rows_judged w 11 (some (.ref 6)) 12 ⟨PySem.W.boot_heap w.params,Array.mk [],PySem.W.boot_drawn,PySem.W.boot_toks,os⟩ (PySem.W.topStub PySem.Challenge.pw_fewboxes_k63_rows_judged)=some ((hS w os).abs,⟨denote PySem.W.Fast.tw14364793385576792824 (.body hb hN),.body hb hN,⟨0,0,0,0⟩,[PySem.W.topFrame ⟨0,0,0,0⟩]⟩):=by
 kernel_rfl
theorem h2 (w:World) (os:OsState):PySem.W.segRun PySem.W.Fast.tw14364793385576792824 PySem.Challenge.pw_fewboxes_k63_rows_judged w 11 (some (.ref 6)) 1 1 (hS w os).abs (PySem.W.blockOf hb hN (.body hb hN) ⟨0,0,0,0⟩ [PySem.W.topFrame ⟨0,0,0,0⟩])=some (.next,(hS w os).abs,.body hb hN,⟨0,0,0,0⟩):=by
 kernel_rfl
noncomputable def hU (l:List Value):Obj:=⟨.type "tuple",none,.seq l.toArray 0,#[]⟩
noncomputable def hZ (l:List Value):Obj:=⟨.none,none,.fields l.toArray,#[]⟩
noncomputable def hG (n:Str) (i:Nat):Obj:=⟨.none,none,.func ⟨n,n,aB (top i),.stmts (ax (top i)),ai (top i),0,[],.none,.none,.none,.none,none,.none,.none,0⟩,#[]⟩
noncomputable def hT1 (P:Params):PySem.W.BT:=((PySem.W.boot_o_0 P ::
 PySem.W.boot_o_1 P ::
 PySem.W.boot_o_2 P ::
 hD 20 (hE P "__name__" 165 (.str "fewboxes.machine" 303)::hE P "__doc__" 166 .none::hE P "__package__" 167 .none::hE P "__loader__" 168 (.builtin "__main__.__loader__#opaque")::hE P "__spec__" 169 .none::hE P "__annotations__" 170 (.ref 6)::hE P "__builtins__" 171 (.ref 4)::hE P "__file__" 173 (.str "/claim/cut.py" 172)::hE P "__cached__" 174 .none::hE P "FewError" 206 (.ref 24)::hE P "NoName" 222 (.ref 37)::hE P "Twice" 238 (.ref 49)::hE P "TooBig" 254 (.ref 61)::hE P "NoText" 270 (.ref 73)::hE P "TooFew" 286 (.ref 85)::hE P "NoDeed" 302 (.ref 97)::hE P "box_numbers" 311 (.ref 106)::hE P "shelf_numbers" 318 (.ref 113)::hE P "check_numbers" 328 (.ref 120)::hE P "check_deed" 336 (.ref 127)::[]) ::
 PySem.W.boot_o_4 P ::
 PySem.W.boot_o_5 P ::
 PySem.W.boot_o_6 P ::
 PySem.W.boot_o_7 P ::
 PySem.W.boot_o_8 P ::
 PySem.W.boot_o_9 P ::
 PySem.W.boot_o_10 P ::
 hU [] ::
 hZ [(.int 2 0),(.int 0 0),(.ref 20),(.int 4 0),(.int 0 0),(.ref 33),(.int 6 0),(.int 0 0),(.ref 45),(.int 8 0),(.int 0 0),(.ref 57),(.int 10 0),(.int 0 0),(.ref 69),(.int 12 0),(.int 0 0),(.ref 81),(.int 14 0),(.int 0 0),(.ref 93),(.int 17 0),(.int 0 0),(.ref 105),(.int 23 0),(.int 0 0),(.ref 112),(.int 29 0),(.int 0 0),(.ref 119),(.int 33 0),(.int 0 0),(.ref 126)] ::
 hC "<module>" 182 1 0 0 11 false 181 12 .none .none .none 185 ::
 ⟨(.type "frame"),none,.plain,#[some (.ref 13),some (.ref 3),some (.ref 3),none,some (.str "__main__" 164),none,some (.ref 0)]⟩ ::
 hU [(.type "ValueError")] ::
 ⟨(.type "builtin_function_or_method"),none,.fields #[(.builtin "type.__prepare__"),(.type "type")],#[]⟩ ::
 hD 4 (hE P "__module__" 196 (.str "fewboxes.errors" 187)::hE P "__qualname__" 198 (.str "FewError" 197)::hE P "__firstlineno__" 200 (.int 2 199)::hE P "__static_attributes__" 201 (.ref 22)::[]) ::
 hU [] ::
 hZ [] ::
 hC "FewError" 191 2 0 0 18 false 181 19 .none .none .none 194 ::
 ⟨(.type "frame"),none,.plain,#[some (.ref 20),some (.ref 3),some (.ref 17),none,some (.str "fewboxes.errors" 187),none,some (.ref 0)]⟩ ::
 hU [] ::
 hD 3 (hE P "__module__" 196 (.str "fewboxes.errors" 187)::hE P "__firstlineno__" 200 (.int 2 199)::hE P "__static_attributes__" 201 (.ref 22)::hE P "__weakref__" 203 (.ref 25)::hE P "__doc__" 204 .none::[]) ::
 ⟨(.type "type"),none,.cls ⟨"FewError",[(.type "ValueError")],[(.ref 24),(.type "ValueError"),(.type "Exception"),(.type "BaseException"),(.type "object")],23,"FewError",true,[],[(.ref 37),(.ref 49),(.ref 61),(.ref 73),(.ref 85),(.ref 97)],false,none,false⟩,#[some (.ref 15),none,some (.str "FewError" 189),some (.str "FewError" 197),some (.builtin "ValueError.__new__"),some (.bool true)]⟩ ::
 ⟨(.type "getset_descriptor"),none,.fields #[(.str "__weakref__" 202),(.ref 24),(.builtin "ExceptionGroup.__weakref__"),.none],#[]⟩ ::
 ⟨(.type "super"),none,.fields #[(.ref 24),(.ref 24),(.ref 24)],#[]⟩ ::
 ⟨(.type "builtin_function_or_method"),none,.fields #[(.builtin "object.__init_subclass__"),(.ref 24)],#[]⟩ ::
 hU [(.ref 24)] ::
 ⟨(.type "builtin_function_or_method"),none,.fields #[(.builtin "type.__prepare__"),(.type "type")],#[]⟩ ::
 hD 4 (hE P "__module__" 214 (.str "fewboxes.errors" 187)::hE P "__qualname__" 216 (.str "NoName" 215)::hE P "__firstlineno__" 218 (.int 4 217)::hE P "__static_attributes__" 219 (.ref 35)::[]) ::
 hU [] ::
 hZ [] ::
 hC "NoName" 209 4 0 0 31 false 181 32 .none .none .none 212 ::
 ⟨(.type "frame"),none,.plain,#[some (.ref 33),some (.ref 3),some (.ref 30),none,some (.str "fewboxes.errors" 187),none,some (.ref 0)]⟩ ::
 hU [] ::
 hD 2 (hE P "__module__" 214 (.str "fewboxes.errors" 187)::hE P "__firstlineno__" 218 (.int 4 217)::hE P "__static_attributes__" 219 (.ref 35)::hE P "__doc__" 220 .none::[]) ::
 ⟨(.type "type"),none,.cls ⟨"NoName",[(.ref 24)],[(.ref 37),(.ref 24),(.type "ValueError"),(.type "Exception"),(.type "BaseException"),(.type "object")],36,"NoName",true,[],[],false,none,false⟩,#[some (.ref 28),none,some (.str "NoName" 207),some (.str "NoName" 215),some (.builtin "ValueError.__new__"),some (.bool true)]⟩ ::
 ⟨(.type "super"),none,.fields #[(.ref 37),(.ref 37),(.ref 37)],#[]⟩ ::
 ⟨(.type "builtin_function_or_method"),none,.fields #[(.builtin "object.__init_subclass__"),(.ref 37)],#[]⟩ ::
 hU [(.ref 24)] ::
 ⟨(.type "builtin_function_or_method"),none,.fields #[(.builtin "type.__prepare__"),(.type "type")],#[]⟩ ::
 hD 4 (hE P "__module__" 230 (.str "fewboxes.errors" 187)::hE P "__qualname__" 232 (.str "Twice" 231)::hE P "__firstlineno__" 234 (.int 6 233)::hE P "__static_attributes__" 235 (.ref 47)::[]) ::
 hU [] ::
 hZ [] ::
 hC "Twice" 225 6 0 0 43 false 181 44 .none .none .none 228 ::
 ⟨(.type "frame"),none,.plain,#[some (.ref 45),some (.ref 3),some (.ref 42),none,some (.str "fewboxes.errors" 187),none,some (.ref 0)]⟩ ::
 hU [] ::
 hD 2 (hE P "__module__" 230 (.str "fewboxes.errors" 187)::hE P "__firstlineno__" 234 (.int 6 233)::hE P "__static_attributes__" 235 (.ref 47)::hE P "__doc__" 236 .none::[]) ::
 ⟨(.type "type"),none,.cls ⟨"Twice",[(.ref 24)],[(.ref 49),(.ref 24),(.type "ValueError"),(.type "Exception"),(.type "BaseException"),(.type "object")],48,"Twice",true,[],[],false,none,false⟩,#[some (.ref 40),none,some (.str "Twice" 223),some (.str "Twice" 231),some (.builtin "ValueError.__new__"),some (.bool true)]⟩ ::
 ⟨(.type "super"),none,.fields #[(.ref 49),(.ref 49),(.ref 49)],#[]⟩ ::
 ⟨(.type "builtin_function_or_method"),none,.fields #[(.builtin "object.__init_subclass__"),(.ref 49)],#[]⟩ ::
 hU [(.ref 24)] ::
 ⟨(.type "builtin_function_or_method"),none,.fields #[(.builtin "type.__prepare__"),(.type "type")],#[]⟩ ::
 hD 4 (hE P "__module__" 246 (.str "fewboxes.errors" 187)::hE P "__qualname__" 248 (.str "TooBig" 247)::hE P "__firstlineno__" 250 (.int 8 249)::hE P "__static_attributes__" 251 (.ref 59)::[]) ::
 hU [] ::
 hZ [] ::
 hC "TooBig" 241 8 0 0 55 false 181 56 .none .none .none 244 ::
 ⟨(.type "frame"),none,.plain,#[some (.ref 57),some (.ref 3),some (.ref 54),none,some (.str "fewboxes.errors" 187),none,some (.ref 0)]⟩ ::
 hU [] ::
 hD 2 (hE P "__module__" 246 (.str "fewboxes.errors" 187)::hE P "__firstlineno__" 250 (.int 8 249)::hE P "__static_attributes__" 251 (.ref 59)::hE P "__doc__" 252 .none::[]) ::
 ⟨(.type "type"),none,.cls ⟨"TooBig",[(.ref 24)],[(.ref 61),(.ref 24),(.type "ValueError"),(.type "Exception"),(.type "BaseException"),(.type "object")],60,"TooBig",true,[],[],false,none,false⟩,#[some (.ref 52),none,some (.str "TooBig" 239),some (.str "TooBig" 247),some (.builtin "ValueError.__new__"),some (.bool true)]⟩ ::
 ⟨(.type "super"),none,.fields #[(.ref 61),(.ref 61),(.ref 61)],#[]⟩ ::
 ⟨(.type "builtin_function_or_method"),none,.fields #[(.builtin "object.__init_subclass__"),(.ref 61)],#[]⟩ ::
 hU [(.ref 24)] ::
 ⟨(.type "builtin_function_or_method"),none,.fields #[(.builtin "type.__prepare__"),(.type "type")],#[]⟩ ::
 hD 4 (hE P "__module__" 262 (.str "fewboxes.errors" 187)::hE P "__qualname__" 264 (.str "NoText" 263)::hE P "__firstlineno__" 266 (.int 10 265)::hE P "__static_attributes__" 267 (.ref 71)::[]) ::
 hU [] ::
 hZ [] ::
 hC "NoText" 257 10 0 0 67 false 181 68 .none .none .none 260 ::
 ⟨(.type "frame"),none,.plain,#[some (.ref 69),some (.ref 3),some (.ref 66),none,some (.str "fewboxes.errors" 187),none,some (.ref 0)]⟩ ::
 hU [] ::
 hD 2 (hE P "__module__" 262 (.str "fewboxes.errors" 187)::hE P "__firstlineno__" 266 (.int 10 265)::hE P "__static_attributes__" 267 (.ref 71)::hE P "__doc__" 268 .none::[]) ::
 ⟨(.type "type"),none,.cls ⟨"NoText",[(.ref 24)],[(.ref 73),(.ref 24),(.type "ValueError"),(.type "Exception"),(.type "BaseException"),(.type "object")],72,"NoText",true,[],[],false,none,false⟩,#[some (.ref 64),none,some (.str "NoText" 255),some (.str "NoText" 263),some (.builtin "ValueError.__new__"),some (.bool true)]⟩ ::
 ⟨(.type "super"),none,.fields #[(.ref 73),(.ref 73),(.ref 73)],#[]⟩ ::
 ⟨(.type "builtin_function_or_method"),none,.fields #[(.builtin "object.__init_subclass__"),(.ref 73)],#[]⟩ ::
 hU [(.ref 24)] ::
 ⟨(.type "builtin_function_or_method"),none,.fields #[(.builtin "type.__prepare__"),(.type "type")],#[]⟩ ::
 hD 4 (hE P "__module__" 278 (.str "fewboxes.errors" 187)::hE P "__qualname__" 280 (.str "TooFew" 279)::hE P "__firstlineno__" 282 (.int 12 281)::hE P "__static_attributes__" 283 (.ref 83)::[]) ::
 hU [] ::
 hZ [] ::
 hC "TooFew" 273 12 0 0 79 false 181 80 .none .none .none 276 ::
 ⟨(.type "frame"),none,.plain,#[some (.ref 81),some (.ref 3),some (.ref 78),none,some (.str "fewboxes.errors" 187),none,some (.ref 0)]⟩ ::
 hU [] ::
 hD 2 (hE P "__module__" 278 (.str "fewboxes.errors" 187)::hE P "__firstlineno__" 282 (.int 12 281)::hE P "__static_attributes__" 283 (.ref 83)::hE P "__doc__" 284 .none::[]) ::
 ⟨(.type "type"),none,.cls ⟨"TooFew",[(.ref 24)],[(.ref 85),(.ref 24),(.type "ValueError"),(.type "Exception"),(.type "BaseException"),(.type "object")],84,"TooFew",true,[],[],false,none,false⟩,#[some (.ref 76),none,some (.str "TooFew" 271),some (.str "TooFew" 279),some (.builtin "ValueError.__new__"),some (.bool true)]⟩ ::
 ⟨(.type "super"),none,.fields #[(.ref 85),(.ref 85),(.ref 85)],#[]⟩ ::
 ⟨(.type "builtin_function_or_method"),none,.fields #[(.builtin "object.__init_subclass__"),(.ref 85)],#[]⟩ ::
 hU [(.ref 24)] ::
 ⟨(.type "builtin_function_or_method"),none,.fields #[(.builtin "type.__prepare__"),(.type "type")],#[]⟩ ::
 hD 4 (hE P "__module__" 294 (.str "fewboxes.errors" 187)::hE P "__qualname__" 296 (.str "NoDeed" 295)::hE P "__firstlineno__" 298 (.int 14 297)::hE P "__static_attributes__" 299 (.ref 95)::[]) ::
 hU [] ::
 hZ [] ::
 hC "NoDeed" 289 14 0 0 91 false 181 92 .none .none .none 292 ::
 ⟨(.type "frame"),none,.plain,#[some (.ref 93),some (.ref 3),some (.ref 90),none,some (.str "fewboxes.errors" 187),none,some (.ref 0)]⟩ ::
 hU [] ::
 hD 2 (hE P "__module__" 294 (.str "fewboxes.errors" 187)::hE P "__firstlineno__" 298 (.int 14 297)::hE P "__static_attributes__" 299 (.ref 95)::hE P "__doc__" 300 .none::[]) ::
 ⟨(.type "type"),none,.cls ⟨"NoDeed",[(.ref 24)],[(.ref 97),(.ref 24),(.type "ValueError"),(.type "Exception"),(.type "BaseException"),(.type "object")],96,"NoDeed",true,[],[],false,none,false⟩,#[some (.ref 88),none,some (.str "NoDeed" 287),some (.str "NoDeed" 295),some (.builtin "ValueError.__new__"),some (.bool true)]⟩ ::
 ⟨(.type "super"),none,.fields #[(.ref 97),(.ref 97),(.ref 97)],#[]⟩ ::
 ⟨(.type "builtin_function_or_method"),none,.fields #[(.builtin "object.__init_subclass__"),(.ref 97)],#[]⟩ ::
 hU [] ::
 hZ [] ::
 hU [(.str "deed" 308)] ::
 hU [] ::
 hG "box_numbers" 9 ::
 hC "box_numbers" 305 17 1 3 100 true 181 101 (.ref 102) (.ref 103) (.ref 104) 309 ::
 hF "box_numbers" 9 (.str "fewboxes.machine" 303) (.ref 105) ::
 hU [] ::
 hZ [] ::
 hU [(.str "deed" 315)] ::
 hU [] ::
 hG "shelf_numbers" 10 ::
 hC "shelf_numbers" 312 23 1 3 107 true 181 108 (.ref 109) (.ref 110) (.ref 111) 316 ::
 hF "shelf_numbers" 10 (.str "fewboxes.machine" 303) (.ref 112) ::
 hU [] ::
 hZ [] ::
 hU [(.str "deed" 322),(.str "asked" 323),(.str "there" 324),(.str "number" 325)] ::
 hU [] ::
 hG "check_numbers" 11 ::
 hC "check_numbers" 319 29 3 3 114 true 181 115 (.ref 116) (.ref 117) (.ref 118) 326 ::
 hF "check_numbers" 11 (.str "fewboxes.machine" 303) (.ref 119) ::
 hU [] ::
 hZ [] ::
 hU [(.str "deed" 332),(.str "state" 333)] ::
 hU [] ::
 hG "check_deed" 12 ::
 hC "check_deed" 329 33 2 3 121 true 181 122 (.ref 123) (.ref 124) (.ref 125) 334 ::
 hF "check_deed" 12 (.str "fewboxes.machine" 303) (.ref 126)::[]).foldl (fun (x:PySem.W.BT×Nat) o=>(x.1.ins x.2 o,x.2+1)) (.nil,0)).1
noncomputable def Z9 (w:World) (os:OsState):PySem.W.SharedT:=⟨hT1 w.params,128,{},Array.mk [],{},337,os⟩
theorem hM (w:World) (os:OsState):PySem.W.segRunT PySem.W.Fast.tw14364793385576792824 PySem.Challenge.pw_fewboxes_k63_rows_judged w 11 (some (.ref 6)) 1 1622 (hS w os) (PySem.W.piecesOf (hb.take 13) hN (.body hb hN) ⟨0,0,0,0⟩ [PySem.W.topFrame ⟨0,0,0,0⟩])=some (.next,Z9 w os,.body hb hN,⟨33,0,35,59⟩):=by
 kernel_rfl
noncomputable def hP (w:World):Prop:=(fun os=>(PySem.W.segRunT PySem.W.Fast.tw14364793385576792824 PySem.Challenge.pw_fewboxes_k63_rows_judged w 11 (some (.ref 6)) 1 1603 (Z9 w os) (PySem.W.piecesOf (hb.drop 13) hN (.body hb hN) ⟨33,0,35,59⟩ [PySem.W.topFrame ⟨0,0,0,0⟩])).map (fun x=>(x.1,x.2.2.1,x.2.2.2,(PySem.W.topRun PySem.W.Fast.tw14364793385576792824 PySem.Challenge.pw_fewboxes_k63_rows_judged w 11 (some (.ref 6)) 2 x.2.1.abs ⟨PySem.W.doneF .next,.body hb hN,⟨342,0,370,71⟩,[PySem.W.topFrame ⟨0,0,0,0⟩]⟩).map fun s=>
 ((PySem.W.staticsOk (PySem.W.Fast.tw5923862056798008813 PySem.Challenge.pw_fewboxes_k63_rows_judged.main.body) (PySem.W.boot_heap w.params) s.heap&&PySem.W.namesBound PySem.Challenge.pw_fewboxes_k63_rows_judged s.heap&&PySem.W.gensDone s&&PySem.W.laidKept (PySem.W.boot_heap w.params) s.heap),PySem.W.Fast.tw4187177175401517315 hV ["PARTS"] (PySem.W.Fast.tw5923862056798008813 PySem.Challenge.pw_fewboxes_k63_rows_judged.main.body) (fun s=>PySem.W.xlAt hV [] s&&PySem.W.recOk (PySem.W.Fast.tw2368527892694137696 PySem.Challenge.rw_fewboxes_k63_rows_judged).toRowW.records s) true s,hA.map s.heap.get?))))=fun _=>some (.next,.body hb hN,⟨342,0,370,71⟩,some (true,PySem.W.openGood hV ["PARTS"],(hK w.params).map fun p=>some p.2))
theorem ha (w:World):hP (w.withFollow "special-get-raises" false):=by
 unfold hP
 kernel_rfl
theorem hb2 (w:World):hP (w.withFollow "special-get-raises" true):=by
 unfold hP
 kernel_rfl
theorem hW (w:World):hP w:=PySem.W.byRow2 "special-get-raises" ha hb2 w
end K63
open PySem PySem.W PyProof.Rows
set_option maxRecDepth 100000 in
set_option maxHeartbeats 0 in
theorem PySem.Challenge.cw_fewboxes_k63_rows_judged_holds : PySem.Challenge.rw_fewboxes_k63_rows_judged.Holds := by
 w_on;o_law
 refine holds_open (q:=K63.hV) (loose:=["PARTS"]) (Xt:=fun s=>xlAt K63.hV [] s&&recOk (PySem.Challenge.rw_fewboxes_k63_rows_judged.row.toRowW.records) s) (XP:=XL K63.hV []) (Yf:=fun s=>K63.hA.map s.heap.get?) (Ya:=fun w=>(K63.hK w.params).map fun p=>some p.2) (YP:=InK K63.hK) (N:=6496) ?hl (InK.of fun _=>by kernel_rfl) InK.keeps
  (fun s e=>xl_of s (Bool.and_eq_true_iff.mp e).1) XL.keeps (by rfl) (by rfl) (by rfl) (fun s e=>recFacts_of (Bool.and_eq_true_iff.mp e).2) (by rfl) (by assumption) (by decide +kernel) ⟨rfl,rfl,rfl,rfl,rfl,by decide +kernel⟩ ?hw ?hc
 case hl=>
  refine L2.By (p:=PySem.Challenge.pw_fewboxes_k63_rows_judged) (S:=K63.hS) (S1:=K63.Z9) (b':=K63.hb.take 13) (b2:=K63.hb.drop 13) (F1:=1622) (ps1:=⟨33,0,35,59⟩) (b:=K63.hb) (env:=K63.hN) (m₀:=11) (ann:=some (.ref 6)) (a:=12) (b1:=1) (F:=1603) (G:=2) (ps:=⟨0,0,0,0⟩) (ps':=⟨0,0,0,0⟩) (pl:=⟨342,0,370,71⟩) (fq:=⟨0,0,0,0⟩) (List.take_append_drop _ _) (by kernel_rfl) (fun _=>rfl) (by decide) (fun _=>by kernel_rfl) ?_ ?_ ?_ ?_ (by decide)
  · rw [PySem.W.Fast.te14364793385576792824];exact K63.h1
  · rw [PySem.W.Fast.te14364793385576792824];exact K63.h2
  · rw [PySem.W.Fast.te14364793385576792824];exact K63.hM
  · rw [PySem.W.Fast.te4187177175401517315,PySem.W.Fast.te5923862056798008813,PySem.W.Fast.te2368527892694137696,PySem.W.Fast.te14364793385576792824];exact fun w os=>congrFun (K63.hW w) os
 case hw=>w_witness2
 k_fill
 refine K63.walk (l:=PySem.Challenge.rw_fewboxes_k63_rows_judged) rfl rfl (fun w h Y=>Y) ?F
 case F=>
  intro w mg fa h KX G Qo
  refine' K63.all_mk KX G ?a0 ?l0 ?c0 ?k0 ?a1 ?l1 ?c1 ?k1 ?a2 ?l2 ?c2 ?k2 ?a3 ?l3 ?c3 ?k3 ?a4 ?l4 ?c4 ?k4 ?a5 ?l5 ?c5 ?k5 ?a6 ?l6 ?c6 ?k6 ?a7 ?l7 ?c7 ?k7 ?a8 ?l8 ?c8 ?k8 ?a9 ?l9 ?c9 ?k9 ?UA ?l10 ?Vh ?Wm ?XG ?Zc ?Ul ?Yp ?YR ?l12 ?Zp ?Uu ?a13 ?Xn ?YC ?k13 ?WQ ?ZG ?c14 ?k14 ?a15 ?l15 ?c15 ?k15 ?a16 ?l16 ?Z1 ?XR ?a17 ?l17 ?VM ?WX ?Zb ?Xh ?c18 ?k18 ?a19 ?XE ?c19 ?WH ?a20 ?l20 ?c20 ?Uz ?Zv ?Uj ?Vc ?Zs ?VP ?Vz ?c22 ?k22 ?a23 ?Z4 ?LI ?Xq ?T7 ?YS ?c24 ?k24 ?ZX ?YD ?Vv ?Wa ?VL ?U6 ?c26 ?UN ?WM ?l27 ?c27 ?XQ ?a28 ?l28 ?VC ?VD ?U7 ?Zm ?Wf ?VE ?XU ?Ur ?c30 ?VN ?Xk ?l31 ?Yl ?k31 ?a32 ?Vx ?V8 ?k32 ?a33 ?YM ?c33 ?Vb ?XM ?Xw ?c34 ?k34 ?Ye ?Yw ?Wk ?X0 ?ZM ?l36 ?c36 ?WT ?VU ?l37 ?Z2 ?ZW ?UE ?l38 ?c38 ?Z0 ?Vf ?WN ?c39 ?U0 ?Xd ?ZT ?Xe ?Xj ?Xa ?l41 ?c41 ?Wb ?a42 ?Uv ?c42 ?YN ?a43 ?l43 ?Ve ?WW ?ZN ?Zw ?Yy ?Vl ?a45 ?Z5 ?VZ ?UC ?Yq ?Zn ?c46 ?Y0 ?a47 ?XX ?VT ?k47 ?VI ?l48 ?c48 ?k48 ?a49 ?X8 ?Zq ?W8 ?v0 ?v1 ?v2 ?v3 ?v4 ?v5 ?z0 ?z1 ?z2 ?z3 ?z4 ?z5 ?z6 ?z7 ?z8 ?z9 ?VB ?Ym ?qk ?q8 ?pa ?pd ?pk1 ?UX ?Xm ?Xp ?Sm ?Sh ?SR ?TJ ?pz Qo
  (case a0=>k_is)
  (case l0=>k_is)
  (case c0=>k_is)
  (case k0=>k_is)
  (case a1=>k_is)
  (case l1=>k_is)
  (case c1=>k_is)
  (case k1=>k_is)
  (case a2=>k_is)
  (case l2=>k_is)
  (case c2=>k_is)
  (case k2=>k_is)
  (case a3=>k_is)
  (case l3=>k_is)
  (case c3=>k_is)
  (case k3=>k_is)
  (case a4=>k_is)
  (case l4=>k_is)
  (case c4=>k_is)
  (case k4=>k_is)
  (case a5=>k_is)
  (case l5=>k_is)
  (case c5=>k_is)
  (case k5=>k_is)
  (case a6=>k_is)
  (case l6=>k_is)
  (case c6=>k_is)
  (case k6=>k_is)
  (case a7=>k_is)
  (case l7=>k_is)
  (case c7=>k_is)
  (case k7=>k_is)
  (case a8=>k_is)
  (case l8=>k_is)
  (case c8=>k_is)
  (case k8=>k_is)
  (case a9=>k_is)
  (case l9=>k_is)
  (case c9=>k_is)
  (case k9=>k_is)
  (case UA=>k_is)
  (case l10=>k_is)
  (case Vh=>k_is)
  (case Wm=>k_is)
  (case XG=>k_is)
  (case Zc=>k_is)
  (case Ul=>k_is)
  (case Yp=>k_is)
  (case YR=>k_is)
  (case l12=>k_is)
  (case Zp=>k_is)
  (case Uu=>k_is)
  (case a13=>k_is)
  (case Xn=>k_is)
  (case YC=>k_is)
  (case k13=>k_is)
  (case WQ=>k_is)
  (case ZG=>k_is)
  (case c14=>k_is)
  (case k14=>k_is)
  (case a15=>k_is)
  (case l15=>k_is)
  (case c15=>k_is)
  (case k15=>k_is)
  (case a16=>k_is)
  (case l16=>k_is)
  (case Z1=>k_is)
  (case XR=>k_is)
  (case a17=>k_is)
  (case l17=>k_is)
  (case VM=>k_is)
  (case WX=>k_is)
  (case Zb=>k_is)
  (case Xh=>k_is)
  (case c18=>k_is)
  (case k18=>k_is)
  (case a19=>k_is)
  (case XE=>k_is)
  (case c19=>k_is)
  (case WH=>k_is)
  (case a20=>k_is)
  (case l20=>k_is)
  (case c20=>k_is)
  (case Uz=>k_is)
  (case Zv=>k_is)
  (case Uj=>k_is)
  (case Vc=>k_is)
  (case Zs=>k_is)
  (case VP=>k_is)
  (case Vz=>k_is)
  (case c22=>k_is)
  (case k22=>k_is)
  (case a23=>k_is)
  (case Z4=>k_is)
  (case LI=>k_is)
  (case Xq=>k_is)
  (case T7=>k_is)
  (case YS=>k_is)
  (case c24=>k_is)
  (case k24=>k_is)
  (case ZX=>k_is)
  (case YD=>k_is)
  (case Vv=>k_is)
  (case Wa=>k_is)
  (case VL=>k_is)
  (case U6=>k_is)
  (case c26=>k_is)
  (case UN=>k_is)
  (case WM=>k_is)
  (case l27=>k_is)
  (case c27=>k_is)
  (case XQ=>k_is)
  (case a28=>k_is)
  (case l28=>k_is)
  (case VC=>k_is)
  (case VD=>k_is)
  (case U7=>k_is)
  (case Zm=>k_is)
  (case Wf=>k_is)
  (case VE=>k_is)
  (case XU=>k_is)
  (case Ur=>k_is)
  (case c30=>k_is)
  (case VN=>k_is)
  (case Xk=>k_is)
  (case l31=>k_is)
  (case Yl=>k_is)
  (case k31=>k_is)
  (case a32=>k_is)
  (case Vx=>k_is)
  (case V8=>k_is)
  (case k32=>k_is)
  (case a33=>k_is)
  (case YM=>k_is)
  (case c33=>k_is)
  (case Vb=>k_is)
  (case XM=>k_is)
  (case Xw=>k_is)
  (case c34=>k_is)
  (case k34=>k_is)
  (case Ye=>k_is)
  (case Yw=>k_is)
  (case Wk=>k_is)
  (case X0=>k_is)
  (case ZM=>k_is)
  (case l36=>k_is)
  (case c36=>k_is)
  (case WT=>k_is)
  (case VU=>k_is)
  (case l37=>k_is)
  (case Z2=>k_is)
  (case ZW=>k_is)
  (case UE=>k_is)
  (case l38=>k_is)
  (case c38=>k_is)
  (case Z0=>k_is)
  (case Vf=>k_is)
  (case WN=>k_is)
  (case c39=>k_is)
  (case U0=>k_is)
  (case Xd=>k_is)
  (case ZT=>k_is)
  (case Xe=>k_is)
  (case Xj=>k_is)
  (case Xa=>k_is)
  (case l41=>k_is)
  (case c41=>k_is)
  (case Wb=>k_is)
  (case a42=>k_is)
  (case Uv=>k_is)
  (case c42=>k_is)
  (case YN=>k_is)
  (case a43=>k_is)
  (case l43=>k_is)
  (case Ve=>k_is)
  (case WW=>k_is)
  (case ZN=>k_is)
  (case Zw=>k_is)
  (case Yy=>k_is)
  (case Vl=>k_is)
  (case a45=>k_is)
  (case Z5=>k_is)
  (case VZ=>k_is)
  (case UC=>k_is)
  (case Yq=>k_is)
  (case Zn=>k_is)
  (case c46=>k_is)
  (case Y0=>k_is)
  (case a47=>k_is)
  (case XX=>k_is)
  (case VT=>k_is)
  (case k47=>k_is)
  (case VI=>k_is)
  (case l48=>k_is)
  (case c48=>k_is)
  (case k48=>k_is)
  (case a49=>k_is)
  (case X8=>k_is)
  (case Zq=>k_is)
  (case W8=>k_is)
  (case v0=>k_is)
  (case v1=>k_is)
  (case v2=>k_is)
  (case v3=>k_is)
  (case v4=>k_is)
  (case v5=>k_is)
  (case z0=>k_is)
  (case z1=>k_is)
  (case z2=>k_is)
  (case z3=>k_is)
  (case z4=>k_is)
  (case z5=>k_is)
  (case z6=>k_is)
  (case z7=>k_is)
  (case z8=>k_is)
  (case z9=>k_is)
  (case VB=>k_is)
  (case Ym=>k_is)
  (case qk=>k_is)
  (case q8=>k_exc)
  (case pa=>k_is)
  (case pd=>k_is)
  (case pk1=>k_is)
  (case UX=>k_is)
  (case Xm=>k_is)
  (case Xp=>k_is)
  (case Sm=>rfl)
  (case Sh=>rfl)
  (case SR=>rfl)
  (case TJ=>rfl)
  (case pz=>rfl)
#print axioms PySem.Challenge.cw_fewboxes_k63_rows_judged_holds
